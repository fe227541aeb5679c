import PyProof.Rows.All
import KE.KDictOf
import KE.KTab
import KE.KSortTup
import KE.KItemsList
import KE.KEqDict
import KE.KIntText
import KE.KTryOn
import KE.TryLedger
import KE.KFromBytes
import PySem.Challenge.RW_callboard_k41_why_refused
set_option genInjectivity false
set_option genSizeOfSpec false
set_option genSizeOf false
set_option Elab.async false
set_option linter.all false
set_option maxRecDepth 100000
set_option maxHeartbeats 4000000
noncomputable section
open LawfulBEq renaming eq_of_beq->wE
open List renaming length_map->de,getElem?_eq_getElem->dg,length_append->dq,getElem?_eq_some_iff->dv,mem_cons->dC,size_toArray->dF,mem_singleton->dI,mem_map->dJ,getElem?_map->dM,mem_cons_of_mem->dN,not_mem_nil->dQ,length_nil->dS,length_singleton->dX,mem_cons_self->dY,map_append->dZ,nodup_cons->d6,map_cons->eh,nil_append->eB,mem_append->eF,map_map->eG,length_cons->eK,all_cons->eL,length_range->eM,mem_append_right->eO,lookup_cons->eP,replicate_succ->eQ,nodup_nil->eU,all_eq_true->eV,getElem?_set_self->eW,getElem?_set_ne->fg,getElem?_append_right->fj,append_nil->fk,getElem?_append_left->fm,take_length->fA,append_assoc->fC,mem_of_getElem?->fD,cons_ne_nil->fF,length_pos_iff->fG,mem_append_left->fJ,mem_filter->fM,find?_cons->fN,length_take->fQ,any_cons->fR,flatten_cons->fT,any_eq_true->fY,foldl_cons->gc,filterMap_cons->gg,filter_sublist->gh,getD_eq_getElem?_getD->gj,exists_cons_of_ne_nil->gk,length_drop->gm,mem_range->gp,length_modify->gu,mem_of_find?_eq_some->gv,nodup_append->gx,length_eq_zero_iff->gA,map_congr_left->gC,getElem?_eq_none->gJ,filter_map->gK,length_filter_le->gL,drop_eq_getElem_cons->gR,getLast?_eq_none_iff->gS,filterMap_cons_some->gX,filter_cons->gY,getElem_of_mem->g9,filter_cons_of_pos->hJ,filter_cons_of_neg->hU,find?_eq_none->ic,take_of_length_le->ig,take_add_one->ii,findIdx?_map->ik,getElem_mem->iw,length_set->iB,getElem?_zip_eq_some->iD,getLastD_eq_getLast?->iE,contains_cons->iM,filter_append->iO,getElem?_cons_zero->iQ,findIdx?_eq_some_iff_getElem->iU,length_eq_one_iff->iV,length_replicate->ja,getElem?_toArray->jb,map_nil->je,set_set->ji,range_succ->jj,any_append->jk,filter_nil->jl,mem_of_mem_take->jm,mem_of_mem_drop->jn,mem_of_getLast?->jo,dropLast_subset->jp,getElem?_modify->jq,drop_zero->jx,map_id->jz,sublist_append_right->jP,pairwise_iff_getElem->jQ,getLast?_eq_getElem?->jR,findIdx?_eq_none_iff->jS,all_map->j3,drop_length->j4,any_map->j8,eq_of_mem_replicate->j9,getElem?_replicate->kc,of_mem_zip->kh,forIn_cons->kl,forIn_nil->kB,set_append_right->kG,findIdx?_isSome->kO,map_drop->kU,getElem?_range->kY,filter_eq_self->lb,modify_eq_self->lh,mem_filterMap->lu,getElem_range->lD,set_cons_succ->lE,any_eq_false->lG,foldl_append->lK,getElem_inj->lW,zipIdx_cons->ma,getElem_map->mh,zipIdx_nil->mq,find?_some->my,map_take->mC,map_set->mI,all_nil->mM
open PySem renaming wpAny_bind->df,wpAny_pure->dA,sizeLine_eq->dR,wpAny_holding->eD,wpAny_mono->eJ,wpAny_field->fz,wpAny_truthy_bool->fB,wpAny_callSpecial?_slot->fO,wpAny_Call_Name_kw->fW,wpAny_call_entry->fX,wpAny_newObj_type->fZ,wpAny_seqItems->gD,wpAny_setField_rec->gH,wpAny_passesOwn->gI,wpAny_pyIter_list->gO,codeAny_mono->gT,mem_of_lookup->gZ,wpAny_standAt->hW,wpAny_execs_nil->hZ,wpAny_call->h9,wpAny_loadPart_at->ij,wpAny_setField->io,codeAny_call_builtin->iu,codeAny_builtin->iC,wpAny_pyIter_tuple->iJ,wpAny_onRaise->iW,wpAny_attempt->iX,plainObj_wpAny_Assign_Attribute->jc,wpAny_specialOf->jf,wpAny_updateSeq_pair->jg,isSubtype_type->jw,tupleKind_room_in1->jA,slot_dict_contains->jC,wpAny_sequenceKey->jI,call_meets->jN,wpAny_execs_cons->jU,wpAny_typeOf->jW,wpAny_comprehension_free->jY,wpAny_pyNext_list_item->kt,wpAny_pyNext_list_end->kz,wpAny_loadPart->kA,builtinLookup_eq_fast->kC,getitemInPython_of_ne->kD,wpAny_rule->kI,wpAny_letTemporaryGo->kM,plainId_quiet->kS,wpAny_isSubtype_exc->k9,concat_meets->ly,seqIndex_neg->lA,wpAny_assign_Name->lF,slot_list_getitem->lJ,slot_dict_getitem->lL,wpAny_pyIter_enum->lM,seqIndex_of->lQ,wpAny_letGo->lR,wpAny_pyHash_str->lU,wpAny_eqBool_int->lV,wpAny_lookBehind->lX,pastItsLine_dict->lY,noFill_tuple_add->l0,wpAny_pyIter_zip->mf,wpAny_Name->mi,typeIs_int->mj,Addr->Uf,sizeLine->Ch,wpAny->pi,model->Tk,starEach->Tl,bootBuiltins->zn,Expr->Go,Heap->No,eval->wp,compareOp->Op,attributeBase->Ps,keywordEach->Rs,assignEach->At,mainGlobals->wv,FuncData->Ix,backTo->xz,swapsWith->sB,holding->ZB,Stmt->TD,binaryOp->sK,backToKw->IN,IsPair->wP,NameKind->wS,behindInMarks->wT,foldedSetIterable->AT,sysModules->XV,getMethod->TW,ExcBaseFacts->o0,rawInt->u8,cLine->X',excClassObj->Y',standAt->XXa,Scope->XXb,Keyword->XXc,getItem->XXd,sliceBounds->XXe,callWith->XXf,letOwnedTupleGo->XXg,codeAny->XXh,scanBound->XXi,IsZip->XXj,Operator->XYa
def dh:=@if_neg
def dw:=@if_pos
def eA:=@decide_eq_true
def eC:=@decide_eq_true_eq
def eZ:=@congrArg
def e9:=@decide_eq_false
def fh:=@beq_iff_eq
def fv:=@or_false
def fE:=@beq_self_eq_true
def fU:=@of_decide_eq_true
def fV:=@not_or
def gB:=@beq_eq_false_iff_ne
def ju:=@if_false
def jv:=@if_true
def lO:=@bne_self_eq_false
open PySem.Heap renaming get?_push_of_some->dz,lt_size->dG,get?_push_size->dO,get?_update_self->fL,size_push->fS,get?_update_other->gi,get?_none_of_le->gQ,get?_push_ne->iS,size_update->iZ,get?_update_ne->js
open Bool renaming eq_false_iff->dB,false_ne_true->dH,and_eq_true->d9,true_and->eN,false_and->eR,false_or->fK,eq_iff_iff->gf,or_false->gy,and_false->gF,not_eq_true'->gP,true_or->gU,or_eq_true->ib,false_eq_true->iK,or_true->iL,not_eq_false->jM,and_true->kW,beq_comm->mB,true->pc,false->lf
open Option.some renaming inj->dD,injEq->jK
open Nat renaming le_refl->dE,ne_of_lt->dP,lt_of_lt_of_le->dU,le_trans->eE,zero_le->eX,lt_irrefl->fu,lt_succ_self->fP,lt_succ_of_lt->gN,le_succ->ie,ne_of_gt->il,sub_self->iq,succ_le_succ->iy,lt_trans->iG,lt_of_le_of_lt->iP,le_add_right->iY,le_succ_of_le->jL,le_of_lt->jT,le_of_not_lt->jX,mul_le_mul->kE,sub_zero->lB,min_eq_left->mx,le_of_eq->mE,succ_mul->mG,zero_add->mH,succ_pos->mJ
open Ne renaming symm->dW
open Int renaming eq_ofNat_of_zero_le->eI,emod_lt_of_pos->eY,emod_nonneg->fi,mul_le_mul_of_nonneg_left->jr,toNat_natCast->jG,emod_add_mul_ediv->kF,zero_add->mK
open PySem.PassesOwn renaming never->ft
open PyProof.Rows renaming slot_tuple_getitem->fH,callWith_type1->gb,callWith_builtin1->ia,SetOf_congr->jZ,subscriptTail_builtinR->kx,listUpdate_at->kT,entry_tuple_getitem->kX,args_tuple_getitem->lz,seqEpoch_at->lT,size_push'->mv,seqObj->dL,envOfC->xL,AllBare->XXk
open PySem.W renaming kia_one->gq,looks_findIn->im,callWith_K->jd,methodCall_KW->ko,plainGet_of->kP,looks_clsIn->kQ,kitx_list->lP,cellsFrom_some->lZ
open Option renaming isSome_iff_exists->gw,map_eq_some_iff->iT,isSome_map->jJ,bind_some->j6,map_some->km,getD_none->l8,some->Fa,none->Db
open List.cons renaming inj->gz
open PyProof.Rows.F renaming plain_set_update_loop->gG,entry_set_update_loop->iI
open PySem.F renaming slot_tuple_iterator_next->gM,called_set->gW,attrBase_ValueError->ip,slot_list_getattribute->iH,slot_zip_next->jh,args_tuple_iterator_next_1->jy,entry_tuple_iterator_next->jD,slot_dict_getitem->jO,args_tuple_add_2->jV,store_ValueError->j7,entry_tuple_add->ke,slot_dict_items->kg,slot_tuple_add->ku,excBase_ValueError->kN,args_zip_next_1->lN,entry_zip_next->me,slot_int_rmul->mo,entry_bexc_ga->mw
open PySem.Around renaming under_plainId->ir
open Array renaming getElem?_setIfInBounds_self_of_lt->iz,length_toList->iA,toList_append->jt,size_setIfInBounds->j5,mem_toList_iff->kH,append_assoc->ls,find?_toList->lw
open PySem.Calls renaming spliced_cons->iF,spliced_nil->iR,Name_function_global->jF,callWith_builtin->ky
open List.Nodup renaming sublist->iN
open PySem.Code renaming quiet_builtin->jB
open PySem.Paired renaming length->jE,snoc->mP
open Sum.inr renaming inj->kr
open PySem.Walks renaming list->kK
open PySem.Heap.SameBut renaming update->kZ
open PySem.SeqAt.EqAt renaming int_str->lj,str_int->lq
open PySem.Obj renaming data_mapFields->lC
open PySem.Heap.Ns1 renaming of_empty->lH
open Eq renaming symm->mz
open PySem.W.Looks renaming here->mD
open Prod renaming ext->mF
open BEq renaming comm->mL
open PySem.Heap.FunFrames renaming of_keeps->mO
open PySem.Moved renaming trans->mQ
open PySem.Heap.IsSliceOf renaming new->mR
abbrev qC:=PySem.W.Frag
local macro_rules | `(tactic| walk_at "l") => `(tactic| (intro _ _ _ h; repeat (first | (obtain ⟨e, _⟩ := h; subst e; rfl; done) | (cases h; rename_i h))))
local macro_rules | `(tactic| walk_at "m") => `(tactic| (intro _ _ _ _ h; repeat (first | (obtain ⟨e, _⟩ := h; subst e; rfl; done) | (cases h; rename_i h))))
abbrev Vl:=PySem.Value
abbrev Sd:=PySem.Shared
abbrev Pg:=PySem.Program
abbrev Ar:=PySem.Around
theorem Z'{α:Sort _}{a:α}:a=a:=rfl
abbrev Wo:=PySem.World
abbrev T0(α:Type _):=List α
abbrev QQQ:=List PySem.Str
abbrev QQX:=PySem.Value->PySem.Shared->Prop
abbrev QQY:=List (PySem.Addr×PySem.Obj)
abbrev QQZ:=PySem.Str->Option PySem.Value
abbrev QXQ:=List PySem.Addr
section
open PySem PySem.Spec PyProof.Rows
namespace L2
def x5{α:Sort u}{β:Sort v}{p q r:α->β->Prop}{C:Prop}(h:∃a b,p a b/\q a b/\r a b)(f:∀a b,p a b->q a b->r a b->C):C:=by obtain⟨a,b,h1,h2,h3⟩:=h;exact f a b h1 h2 h3
abbrev rm:=Sum Int Str
noncomputable def CO:rm->Vl->Bool
 | .inl k,v=>Value.isInt k v
 | .inr x,v=>Value.isStrOf x v
noncomputable def W'(w:Wo):rm->Int
 | .inl k=>hashInt k
 | .inr x=>hashStr w x
def sr:∀{k:rm} {v:Vl},CO k v=pc->(∃i t,k=Sum.inl i/\v=Value.int i t)\/(∃x t,k=Sum.inr x/\v=Value.str x t)
 | .inl i,v,h=>by obtain⟨t,e⟩:=Value.isInt_shape (k:=i) (v:=v) h;exact .inl ⟨i,t,Z',e⟩
 | .inr x,v,h=>by obtain⟨t,e⟩:=Value.isStrOf_shape (x:=x) (v:=v) h;exact .inr ⟨x,t,Z',e⟩
def Kt(i:Int)(t:Tok):CO (.inl i) (.int i t)=pc:=by simp[CO,Value.isInt]
def KS(x:Str)(t:Tok):CO (.inr x) (.str x t)=pc:=by simp[CO,Value.isStrOf]
def RM(a b:Int):decide ((Sum.inl a:rm)=Sum.inl b)=(a==b):=by
 by_cases e:a=b
 .subst e;simp
 .have h:¬(Sum.inl a:rm)=Sum.inl b:=λq=>e (Sum.inl.inj q);rw[e9 h];exact(gB.mpr e).symm
def Ta(a b:Str):decide ((Sum.inr a:rm)=Sum.inr b)=decide (a=b):=by
 by_cases e:a=b
 .subst e;simp
 .have h:¬(Sum.inr a:rm)=Sum.inr b:=λq=>e (kr q);rw[e9 h,e9 e]
def Sj(a:Int)(b:Str):decide ((Sum.inl a:rm)=Sum.inr b)=lf:=e9 (λq=>nomatch q)
def Sv(a:Str)(b:Int):decide ((Sum.inr a:rm)=Sum.inl b)=lf:=e9 (λq=>nomatch q)
noncomputable def rJ(prog:Pg)(w:Wo):PySem.KeyKind prog w rm where
 is:=CO
 hash:=W' w
 inj:=λv a b ha hb=>by
  rcases sr ha with⟨i,t,rfl,rfl⟩|⟨x,t,rfl,rfl⟩
  .rcases sr hb with⟨j,u,rfl,e⟩|⟨y,u,rfl,e⟩
   .injection e with e1 _;rw[e1]
   .exact nomatch e
  .rcases sr hb with⟨j,u,rfl,e⟩|⟨y,u,rfl,e⟩
   .exact nomatch e
   .injection e with e1 _;rw[e1]
 byValue:=λk v h=>by rcases sr h with⟨i,t,rfl,rfl⟩|⟨x,t,rfl,rfl⟩<;>rfl
 pyHash:=λhv h=>by
  rcases sr hv with⟨i,t,rfl,rfl⟩|⟨x,t,rfl,rfl⟩
  .exact wpAny_pyHash_int h
  .exact lU h
 eqBool:=λhu hv h=>by
  rcases sr hu with⟨i,t,rfl,rfl⟩|⟨x,t,rfl,rfl⟩
  .rcases sr hv with⟨j,u,rfl,rfl⟩|⟨y,u,rfl,rfl⟩
   .rw[RM]at h;exact lV h
   .rw[Sj]at h;exact lj i t y u _ _ _ _ h
  .rcases sr hv with⟨j,u,rfl,rfl⟩|⟨y,u,rfl,rfl⟩
   .rw[Sv]at h;exact lq x t j u _ _ _ _ h
   .rw[Ta]at h;exact wpAny_eqBool_str h
 «strs»:=λk x t v h=>by
  rcases sr h with⟨i,u,rfl,e⟩|⟨y,u,rfl,e⟩
  .exact nomatch e
  .injection e with e1 _
   subst e1;cases v<;>rfl
def Gq(prog:Pg)(w:Wo)(i:Int)(t:Tok):(rJ prog w).is (.inl i) (.int i t)=pc:=Kt i t
def AW(prog:Pg)(w:Wo)(x:Str)(t:Tok):(rJ prog w).is (.inr x) (.str x t)=pc:=KS x t
inductive V where
 | mY|bl (b:Bool)|int (i:Int)|str (x:Str)|byt (b:Array UInt8)|flt (b:UInt64)|ref (a:Uf)|ty (n:String)
 deriving DecidableEq
def qQ:V->Vl->Prop
 | .mY,u=>u=Value.none
 | .bl b,u=>u=Value.bool b
 | .int i,u=>∃t,u=Value.int i t
 | .str x,u=>∃t,u=Value.str x t
 | .byt b,u=>∃t,u=Value.bytes b t
 | .flt b,u=>∃t,u=Value.float b t
 | .ref a,u=>u=Value.ref a
 | .ty n,u=>u=Value.type n
abbrev qK:T0 V->T0 Vl->Prop:=Paired qQ
def qK.length(r:qK xs us):xs.length=us.length:=jE r
theorem qK.get:∀{xs:T0 V} {us:T0 Vl} {i:Nat} {x:V},qK xs us->xs[i]?=Fa x->∃u,us[i]?=Fa u/\qQ x u
 | _,_,_,_,.nil,e=>by simp at e
 | _,_,0,_,.cons r _,e=>by simp at e;subst e;exact⟨_,Z',r⟩
 | _,_,i+1,x,.cons _ t,e=>by obtain⟨u,h1,h2⟩:=qK.get (i:=i) (x:=x) t (by simpa using e);exact⟨u,by simpa using h1,h2⟩
theorem qK.set(r:qQ x u):∀{xs:T0 V} {us:T0 Vl} (i:Nat),qK xs us->qK (xs.set i x) (us.set i u)
 | _,_,_,.nil=>.nil
 | _,_,0,.cons _ t=>.cons r t
 | _,_,i+1,.cons q t=>.cons q (qK.set r i t)
theorem qK.append:∀{xs ys:T0 V} {us ws:T0 Vl},qK xs us->qK ys ws->qK (xs++ys) (us++ws)
 | _,_,_,_,.nil,s=>s
 | _,_,_,_,.cons r t,s=>.cons r (qK.append t s)
theorem qK.take:∀{xs:T0 V} {us:T0 Vl} (n:Nat),qK xs us->qK (xs.take n) (us.take n)
 | _,_,0,_=>.nil
 | _,_,_+1,.nil=>.nil
 | _,_,n+1,.cons r t=>.cons r (qK.take n t)
theorem qK.drop:∀{xs:T0 V} {us:T0 Vl} (n:Nat),qK xs us->qK (xs.drop n) (us.drop n)
 | _,_,0,r=>r
 | _,_,_+1,.nil=>.nil
 | _,_,n+1,.cons _ t=>qK.drop n t
def yF:Option V->Option Vl->Prop
 | some v,Fa u=>qQ v u
 | none,none=>True
 | _,_=>False
def KV{κ:Type}:T0 (κ×V)->T0 (κ×Vl)->Prop:=Paired λ(p:κ×V) (q:κ×Vl)=>p.1=q.1/\qQ p.2 q.2
noncomputable def kV:rm->V
 | .inl i=>.int i
 | .inr x=>.str x
inductive HO where
 | lst (xs:List V)
 | tup (xs:List V)
 | dK (kvs:List (rm×V))|dT (kvs:List (List rm×V))
 | set (S:Int->Bool) (n:Nat)
 | ins (C dx:Uf) (fs:List (Str×V))
 | own (x:Uf)
 | xd (fs:List (Str×V))
 | met (f x:Uf)
 | rng (lo hi:Int)
 | frz (o:Obj) (u:HO)
 | tbl (ps:Array Vl)
 | ext (φ:No->Prop)
abbrev Hp:=Uf->Option HO
noncomputable def upd(H:Hp)(a:Uf)(o:HO):Hp:=λb=>if b=a then Fa o else H b
def qw:upd H a o a=Fa o:=by unfold upd;rw[dw Z']
def qk{a b:Uf}(h:b≠a):upd H a o b=H b:=by unfold upd;rw[dh h]
def PU:upd (upd H a o) a u=upd H a u:=by funext b;unfold upd;split<;>rfl
def Vw{H:Hp}{a b:Uf}{o u:HO}(h:H a=Fa o)(h':H b=Fa u)(d:o≠u):a≠b:=by intro e;subst e;rw[h]at h';exact d (dD h')
def ra{H:Hp}{a b:Uf}{o:HO}(h:H a=Fa o)(h':H b=Db):a≠b:=by intro e;subst e;rw[h]at h';cases h'
section
variable (P:Pg)(w:Wo)
def E8(h:No)(a:Uf)(its:Array Vl):Prop:=∃o,h.get? a=Fa o/\o.cls=.type "tuple"/\(∃n,o.data=.seq its n)/\o.dict=Db
def su(H:Hp)(h:No)(a:Uf):HO->Prop
 | .lst xs=>xs.length<=Ch/\∃(its:T0 Vl) (n:Nat),qK xs its/\h.get? a=Fa {cls:=.type "list",data:=.seq its.toArray n}
 | .tup xs=>xs.length<=Ch/\∃its:T0 Vl,qK xs its/\E8 h a its.toArray
 | .dK kvs=>kvs.length<=Ch/\(a==XV)=lf/\∃vs,KV kvs vs/\h.DictOf (rJ P w) a vs
 | .dT kvs=>kvs.length<=Ch/\(a==XV)=lf/\∃xs:T0 (List rm×Uf×Vl),Paired (λ(p:List rm×V) (q:List rm×Uf×Vl)=>p.1=q.1/\H q.2.1=Fa (.tup (p.1.map kV))/\qQ p.2 q.2.2) kvs xs/\
   ∃o es ep,h.get? a=Fa o/\o.ExactDict/\o.data=.dict es ep/\es.toList=xs.map (entryOfKey (tupleKind (rJ P w)))/\(xs.map (·.1)).Nodup
 | .set S n=>h.SetOf (intKind P w) a S n
 | .ins C dx fs=>H dx=Fa (.own a)/\fs.length<=1000/\dx≠a/\h.get? a=Fa (W.instObj C dx)/\
   ∃mA,h.Ns1 dx mA/\(∀f,yF (fs.lookup f) (mA f))/\PySem.Within mA (fs.map (·.1))
 | .own _=>∃o,h.get? a=Fa o
 | .xd fs=>∃mA,h.Ns1 a mA/\∀f,yF (fs.lookup f) (mA f)
 | .rng lo hi=>∃t u v,h.get? a=Fa {cls:=.type "range",data:=.fields #[.int lo t,.int hi u,.int 1 v]}
 | .frz o u=>h.get? a=Fa o/\su H h a u
 | .tbl ps=>h.get? a=Fa {cls:=.none,data:=.fields ps}
 | .met f x=>h.get? a=Fa (W.methodObj (.ref f) (.ref x))
 | .ext φ=>φ h/\(∃o,h.get? a=Fa o)/\∀h1 h2:No,φ h1->(∀o,h1.get? a=Fa o->h2.get? a=Fa o)->φ h2
def yB(H:Hp)(h:No):Prop:=∀a o,H a=Fa o->su P w H h a o
end
variable {H H':Hp}{h h':No}
section
variable {P:Pg}{w:Wo}{a:Uf}{o:HO}
def E8.is(x:E8 h a its):IsTup h a its:=let⟨o,e,c,d,_⟩:=x;⟨o,e,c,d⟩
def E8.new(h:No)(XS:Array Vl):E8 (h.push {cls:=.type "tuple",data:=.seq XS}) h.objs.size XS:=⟨_,dO _ Z',Z',⟨_,Z'⟩,Z'⟩
def su.lt(x:su P w H h a o):a<h.objs.size:=by
 cases o with
 | lst xs=>obtain⟨_,_,_,_,e⟩:=x;exact dG e
 | tup xs=>obtain⟨_,_,_,_,e,_⟩:=x;exact dG e
 | dK kvs=>obtain⟨_,_,_,_,o,_,_,e,_⟩:=x;exact dG e
 | dT kvs=>obtain⟨_,_,_,_,o,_,_,e,_⟩:=x;exact dG e
 | set S n=>obtain⟨o,_,_,_,e,_⟩:=x;exact dG e
 | ins C dx fs=>obtain⟨_,_,_,e,_⟩:=x;exact dG e
 | own y=>obtain⟨_,e⟩:=x;exact dG e
 | xd fs=>obtain⟨_,⟨_,_,_,e,_⟩,_⟩:=x;exact dG e
 | rng lo hi=>obtain⟨_,_,_,e⟩:=x;exact dG e
 | frz ob u=>obtain⟨e,_⟩:=x;exact dG e
 | tbl ps=>exact dG (show h.get? a=Fa _ from x)
 | met f y=>exact dG (show h.get? a=Fa _ from x)
 | ext φ=>obtain⟨_,⟨_,e⟩,_⟩:=x;exact dG e
theorem Paired.oS{α β:Type}{F G:α->β->Prop}:∀{l₁:List α} {l₂:List β},Paired F l₁ l₂->(∀a b,F a b->G a b)->Paired G l₁ l₂
 | _,_,.nil,_=>.nil
 | _,_,.cons r t,f=>.cons (f _ _ r) (Paired.oS t f)
def su.nG(x:su P w H h a o)(k:∀b u,(b=a\/H b=Fa (.own a))->h.get? b=Fa u->h'.get? b=Fa u) (ho:∀b,H b=Fa (.own a)->H' b=Fa (.own a)) (ht:∀b xs,H b=Fa (.tup xs)->H' b=Fa (.tup xs)):su P w H' h' a o:=by
 induction o with
 | lst xs=>obtain⟨z,its,n,r,e⟩:=x;exact⟨z,its,n,r,k _ _ (.inl Z') e⟩
 | tup xs=>obtain⟨z,its,r,ob,e,c⟩:=x;exact⟨z,its,r,ob,k _ _ (.inl Z') e,c⟩
 | dK kvs=>obtain⟨z,y,vs,r,ob,es,ep,e,c⟩:=x;exact⟨z,y,vs,r,ob,es,ep,k _ _ (.inl Z') e,c⟩
 | dT kvs=>obtain⟨z,y,xs,r,ob,es,ep,e,c⟩:=x;exact⟨z,y,xs,Paired.oS r λp q z=>⟨z.1,ht _ _ z.2.1,z.2.2⟩,ob,es,ep,k _ _ (.inl Z') e,c⟩
 | set S n=>obtain⟨ob,es,ep,t,e,c⟩:=x;exact⟨ob,es,ep,t,k _ _ (.inl Z') e,c⟩
 | ins C dx fs=>obtain⟨d,z,ne,e,mA,⟨od,es,ep,e2,c⟩,r⟩:=x;exact⟨ho _ d,z,ne,k _ _ (.inl Z') e,mA,⟨od,es,ep,k _ _ (.inr d) e2,c⟩,r⟩
 | own y=>obtain⟨ob,e⟩:=x;exact⟨ob,k _ _ (.inl Z') e⟩
 | xd fs=>obtain⟨mA,⟨od,es,ep,e,c⟩,r⟩:=x;exact⟨mA,⟨od,es,ep,k _ _ (.inl Z') e,c⟩,r⟩
 | rng lo hi=>obtain⟨t,u,v,e⟩:=x;exact⟨t,u,v,k _ _ (.inl Z') e⟩
 | frz ob u ih=>obtain⟨e,q⟩:=x;exact⟨k _ _ (.inl Z') e,ih q⟩
 | tbl ps=>have e:h.get? a=Fa {cls:=.none,data:=.fields ps}:=x;show h'.get? a=Fa {cls:=.none,data:=.fields ps};exact k a _ (.inl Z') e
 | met f y=>have e:h.get? a=Fa (W.methodObj (.ref f) (.ref y)):=x;show h'.get? a=Fa (W.methodObj (.ref f) (.ref y));exact k a _ (.inl Z') e
 | ext φ=>obtain⟨p,⟨o,e⟩,st⟩:=x;exact⟨st _ _ p λo q=>k _ _ (.inl Z') q,⟨o,k _ _ (.inl Z') e⟩,st⟩
def yB.lt(x:yB P w H h)(e:H a=Fa o):a<h.objs.size:=(x a o e).lt
def yB.fresh(x:yB P w H h)(e:h.objs.size<=a):H a=Db:=by
 cases q:H a with
 | none=>rfl
 | some u=>exact absurd (dU (x.lt q) e) (fu _)
def yB.kept(x:yB P w H h)(k:∀b u,h.get? b=Fa u->h'.get? b=Fa u):yB P w H h':=λa o e=>(x a o e).nG (λb u _ q=>k b u q) (λ_ q=>q) λ_ _ q=>q
def yB.laid(x:yB P w H h)(k:∀b u,h.get? b=Fa u->h'.get? b=Fa u)(hp:h.objs.size<=a)(new:su P w (upd H a o) h' a o):yB P w (upd H a o) h':=λb u e=>by
 have hn:=x.fresh hp;by_cases hb:b=a
 .subst hb;rw[qw]at e;cases e;exact new
 .rw[qk hb]at e;exact(x b u e).nG (λc v _ q=>k c v q) (λc q=>by rw[qk (ra q hn)];exact q) λc xs q=>by rw[qk (ra q hn)];exact q
end
def Rd(H:Hp)(a:Uf)(u:HO):Prop:=H a=Fa u\/∃o,H a=Fa (.frz o u)
def Rd.ok(r:Rd H a u)(x:yB P w H h):su P w H h a u:=by
 rcases r with r|⟨o,r⟩
 .exact x a u r
 .obtain⟨_,q⟩:=x a _ r;exact q
def Uv:Option HO->Prop
 | some (.lst _)=>True
 | some (.dK _)=>True
 | some (.dT _)=>True
 | some (.set _ _)=>True
 | some (.ins _ _ _)=>True
 | some (.ext _)=>True
 | _=>False
variable {o':HO}
section
variable {P:Pg}{w:Wo}{x e:Uf}
def yB.write(ok:yB P w H h)(mu:Uv (H x))(he:e=x\/H e=Fa (.own x))(k:∀b u,b≠e->h.get? b=Fa u->h'.get? b=Fa u)(heo:∃u,h'.get? e=Fa u) (new:su P w (upd H x o') h' x o'):yB P w (upd H x o') h':=λb u q=>by
 have nown:∀c y,H c=Fa (.own y)->c≠x:=λc y r z=>by subst z;rw[r]at mu;exact mu
 have ntup:∀c xs,H c=Fa (.tup xs)->c≠x:=λc xs r z=>by subst z;rw[r]at mu;exact mu
 by_cases hb:b=x
 .subst hb;rw[qw]at q;cases q;exact new
 .rw[qk hb]at q;by_cases hbe:b=e
  .have q':H b=Fa (.own x):=by
    rcases he with z|z
    .exact absurd (hbe.trans z) hb
    .rw[hbe];exact z
   rw[q]at q';cases q';obtain⟨v,hv⟩:=heo;exact⟨v,by rw[hbe];exact hv⟩
  .refine(ok b u q).nG (λc v hc r=>k c v ?_ r) (λc r=>by rw[qk (nown c b r)];exact r) λc xs r=>by rw[qk (ntup c xs r)];exact r
   rcases hc with rfl|hc
   .exact hbe
   .rintro rfl
    rcases he with z|z
    .exact nown c b hc z
    .rw[hc]at z;cases z;exact hb Z'
end
structure Un(fs ex:QXQ)(H H':Hp)(h h':No):Prop where
 keep:∀b o,h.get? b=Fa o->H b=Db->b∉fs->b∉ex->h'.get? b=Fa o
 slot:∀b o,h.get? b=Fa o->H b=Db->b∈fs->b∉ex->∃sl,h'.get? b=Fa {o with slots:=sl}
 free:∀b o,h.get? b=Fa o->H b=Db->b∉ex->H' b=Db
 there:∀b o,h.get? b=Fa o->b∉ex->∃o',h'.get? b=Fa o'
 nK:∀b xs,H b=Fa (.tup xs)->H' b=Fa (.tup xs)
 nI:∀b o u,H b=Fa (.frz o u)->H' b=Fa (.frz o u)
 nP:∀b ps,H b=Fa (.tbl ps)->∃more,H' b=Fa (.tbl (ps++more))
variable {ex ex':QXQ}{H1 H2:Hp}{h1 h2:No}
section
variable {fs fs':QXQ}{a x e:Uf}{o:HO}
def Un.any(u:Un fs ex H H1 h h1){b:Uf}{ob:Obj}(q:h.get? b=Fa ob)(n:H b=Db)(hx:b∉ex):∃sl,h1.get? b=Fa {ob with slots:=sl}:=by
 by_cases hb:b∈fs
 .exact u.slot b ob q n hb hx
 .exact⟨ob.slots,u.keep b ob q n hb hx⟩
def Un.trans(a:Un fs ex H H1 h h1)(b:Un fs ex H1 H2 h1 h2):Un fs ex H H2 h h2 where
 keep:=λc ob q n hc hx=>b.keep c ob (a.keep c ob q n hc hx) (a.free c ob q n hx) hc hx
 slot:=λc ob q n hc hx=>by obtain⟨sl,e1⟩:=a.slot c ob q n hc hx;obtain⟨Zh,e2⟩:=b.slot c _ e1 (a.free c ob q n hx) hc hx;exact⟨Zh,e2⟩
 free:=λc ob q n hx=>by obtain⟨o',e1⟩:=a.there c ob q hx;exact b.free c o' e1 (a.free c ob q n hx) hx
 there:=λc ob q hx=>by obtain⟨o',e1⟩:=a.there c ob q hx;exact b.there c o' e1 hx
 nK:=λc xs q=>b.nK c xs (a.nK c xs q)
 nI:=λc ob xs q=>b.nI c ob xs (a.nI c ob xs q)
 nP:=λc ps q=>by obtain⟨m1,e1⟩:=a.nP c ps q;obtain⟨m2,e2⟩:=b.nP c _ e1;exact⟨m1++m2,by rw[e2,ls]⟩
def Un.kept(k:∀b u,h.get? b=Fa u->h'.get? b=Fa u):Un fs ex H H h h':=
 ⟨λb ob q _ _ _=>k b ob q,λb ob q _ _ _=>⟨ob.slots,k b ob q⟩,λ_ _ _ n _=>n,λb ob q _=>⟨ob,k b ob q⟩,λ_ _ q=>q,λ_ _ _ q=>q,λ_ ps q=>⟨#[],by rw[q];simp⟩⟩
def Un.refl:Un fs ex H H h h:=Un.kept λ_ _ q=>q
def Un.laid(k:∀b u,h.get? b=Fa u->h'.get? b=Fa u)(hp:h.objs.size<=a)(hn:H a=Db):Un fs ex H (upd H a o) h h' where
 keep:=λb u q _ _ _=>k b u q
 slot:=λb u q _ _ _=>⟨u.slots,k b u q⟩
 free:=λb u q n _=>by rw[qk (dP (dU (dG q) hp))];exact n
 there:=λb u q _=>⟨u,k b u q⟩
 nK:=λb xs q=>by rw[qk (ra q hn)];exact q
 nI:=λb u xs q=>by rw[qk (ra q hn)];exact q
 nP:=λb ps q=>⟨#[],by rw[qk (ra q hn),q];simp⟩
def Un.write(mu:Uv (H x))(he:e=x\/H e=Fa (.own x))(k:∀b u,b≠e->h.get? b=Fa u->h'.get? b=Fa u)(heo:∃u,h'.get? e=Fa u):Un fs ex H (upd H x o) h h':=by
 have hx:∀b,H b=Db->b≠x:=λb n z=>by subst z;rw[n]at mu;exact mu
 have hb:∀b,H b=Db->b≠e:=λb n z=>by
  subst z;rcases he with r|r
  .exact hx b n r
  .rw[n]at r;cases r
 have hm:∀b u,H b=Fa u->¬Uv (Fa u)->b≠x:=λb u q nm z=>by subst z;rw[q]at mu;exact nm mu
 refine⟨λb u q n _ _=>k b u (hb b n) q,λb u q n _ _=>⟨u.slots,k b u (hb b n) q⟩,λb u q n _=>by rw[qk (hx b n)];exact n,λb u q _=>?_,λb xs q=>by rw[qk (hm b _ q λz=>z)];exact q,λb u xs q=>by rw[qk (hm b _ q λz=>z)];exact q,λb ps q=>⟨#[],by rw[qk (hm b _ q λz=>z),q];simp⟩⟩
 by_cases hbe:b=e
 .subst hbe;exact heo
 .exact⟨u,k b u hbe q⟩
end
noncomputable def Wd(h:No)(H:Hp):QXQ:=(List.range h.objs.size).filter λa=>(H a).isSome
noncomputable def EH(h:No)(H:Hp):No:=W.hideAll h (Wd h H)
def K3(h:No)(H:Hp):(EH h H).objs.size=h.objs.size:=W.hideAll_size _ _
def Lv{h:No}{H:Hp}{b:Uf}{o:Obj}(e:h.get? b=Fa o)(n:H b=Db):(EH h H).get? b=Fa o:=
 W.hideAll_get _ e λhm=>by have q:(H b).isSome=pc:=(fM.mp hm).2;rw[n]at q;simp at q
def Qi{b:Uf}{o:Obj}(e:(EH h H).get? b=Fa o):h.get? b=Fa o/\H b=Db:=by
 have e':h.get? b=Fa o:=W.of_hideAll (Wd h H) e;refine⟨e',?_⟩;cases q:H b with
 | none=>rfl
 | some x=>have hm:b∈Wd h H:=fM.mpr ⟨gp.mpr (dG e'),by simp[q]⟩;have z:(EH h H).get? b=Db:=W.hideAll_none (Wd h H) hm;rw[z]at e;cases e
structure Mod(K:qC)(mg:QQZ)(base:No):Prop where
 oM:K.In base
 glob:base.Ns wv mg
 blt:∃mb,base.Ns builtinsNs mb/\∀x:Str,x≠"__name__"->mb x=zn x
 nolimit:base.NoLimit
structure Cx where
 prog:Pg
 w:Wo
 K:qC
 mg:QQZ
 base:No
 A:Ar
 N:QQQ
 s₀:Sd
 H₀:Hp
 env:Env
 outer:List Env
 stack:List Env
 ex:QXQ
 fn:Str->Bool
 calm:Bool
 pn:QQY
 xe:QQX
abbrev BF(X:Cx)(e:Go)(es:T0 Go):Prop:=Tl (e::es) X.env=(lf,wp e X.env)::Tl es X.env
abbrev Dh(X:Cx)(p:Pos)(es:T0 Go):Prop:=(xz p (Tl es X.env)).any (·.1)=lf
abbrev yI(x:Str):Prop:=(x==("__debug__":Str))=lf
abbrev NA(X:Cx)(x:Str):Prop:=X.fn x=pc\/X.env.scope.names.lookup x=Fa .local
noncomputable def wD(l:T0 Env):QXQ:=l.filterMap (·.frame)
abbrev Cx.fs(X:Cx):QXQ:=wD X.outer
def RV(sc:XXb)(x:Str):Prop:=sc.names.lookup x=Fa .local\/sc.names.lookup x=Fa .cell\/sc.names.lookup x=Fa .free
def Os(sc:XXb)(x:Str):Prop:=sc.names.lookup x=Fa .local\/sc.names.lookup x=Fa .cell
def Uq(env:Env)(h:No)(m:QQZ)(x:Str)(u:Vl):Prop:=
 (env.kindOf x=Fa .local/\m x=Fa u)\/((env.kindOf x=Fa .cell\/env.kindOf x=Fa .free)/\∃c,env.cells.lookup x=Fa c/\h.IsCell c (Fa u))
structure Cx.Ok(X:Cx):Prop where
 mod:Mod X.K X.mg X.base
 kind:X.env.scope.kind=.function
 glob:X.env.globals=wv
 blt:X.env.builtins=builtinsNs
 above:X.s₀.heap.objs.size<=X.env.locals
 inj:∀x y c,X.env.cells.lookup x=Fa c->X.env.cells.lookup y=Fa c->x=y
 has:∀x,(X.env.kindOf x=Fa .cell\/X.env.kindOf x=Fa .free)->∃c,X.env.cells.lookup x=Fa c
 oE:∀x c,X.fn x=pc->X.env.cells.lookup x=Fa c->X.s₀.heap.objs.size<=c
 hd:X.calm=pc->X.A.handled=Db
 frames:X.A.frames=Fa X.stack
 oU:X.stack=X.outer\/(X.stack=X.env::X.outer/\X.env.frame=Fa X.env.locals)
 pA:∀b∈X.ex,b≠X.env.locals/\∀x c,X.env.cells.lookup x=Fa c->c≠b
 bs:∀b o,X.base.get? b=Fa o->X.s₀.heap.get? b=Fa o/\X.H₀ b=Db
 ow:X.base.objs.size<=X.s₀.heap.objs.size
 n9:∀b o,X.base.get? b=Fa o->b∉X.ex
 oj:∀b∈X.ex,b∉X.fs
 nO:X.s₀.heap.FunFrames X.base X.outer
 oC:∀b∈X.fs,X.H₀ b=Db
structure Inv(X:Cx)(XQ:QQY)(Y:List (Option V))(H:Hp)(s:Sd):Prop where
 ok:X.Ok
 os:s.os=X.s₀.os
 bare:XXk s.gens
 base:Un X.fs X.ex X.H₀ H X.s₀.heap s.heap
 loc:∃m,s.heap.Ns X.env.locals m/\∀(i:Nat) (x:Str) (v:V),X.N[i]?=Fa x->Y[i]?=Fa (Fa v)->RV X.env.scope x->∃u,qQ v u/\Uq X.env s.heap m x u
 cell:∀x c,X.env.cells.lookup x=Fa c->∃v,s.heap.IsCell c v
 free:H X.env.locals=Db
 nv:∀x c,X.env.cells.lookup x=Fa c->H c=Db
 pin:∀p∈X.pn++XQ,s.heap.get? p.1=Fa p.2/\H p.1=Db/\p.1≠X.env.locals/\p.1∉X.fs/\∀v,p.2.data≠.cell v
 m8:yB X.prog X.w H s.heap
 len:Y.length=X.N.length
variable {X:Cx}{XQ:T0 (Uf × Obj)}{s:Sd}
section
variable {Y:T0 (Option V)}
def Cx.Ok.nofr(ok:X.Ok){b:Uf}{o:Obj}(e:X.base.get? b=Fa o):b∉X.fs:=λhb=>by have:=(ok.nO.mem hb).1;rw[e]at this;cases this
def Inv.bs(I:Inv X XQ Y H s):∀b o,X.base.get? b=Fa o->s.heap.get? b=Fa o/\H b=Db:=λb o e=>⟨I.base.keep b o (I.ok.bs b o e).1 (I.ok.bs b o e).2 (I.ok.nofr e) (I.ok.n9 b o e),I.base.free b o (I.ok.bs b o e).1 (I.ok.bs b o e).2 (I.ok.n9 b o e)⟩
def Inv.bk(I:Inv X XQ Y H s):∀b o,X.base.get? b=Fa o->s.heap.get? b=Fa o:=λb o e=>(I.bs b o e).1
def Inv.mod(I:Inv X XQ Y H s):Mod X.K X.mg X.base:=I.ok.mod
def Inv.nA(I:Inv X XQ Y H s):X.K.In s.heap:=I.ok.mod.oM.keeps I.bk
def Inv.lt(I:Inv X XQ Y H s):X.env.locals<s.heap.objs.size:=let⟨_,hn,_⟩:=I.loc;hn.lt
def Inv.sz(I:Inv X XQ Y H s):X.s₀.heap.objs.size<=s.heap.objs.size:=eE I.ok.above (jT I.lt)
def Inv.oX(I:Inv X XQ Y H s){a:Uf}(h:s.heap.objs.size<=a):a∉X.fs:=λhb=>by obtain⟨_,o,ho,_⟩:=I.ok.nO.mem hb;exact absurd (dU (dG ho) (eE I.sz h)) (fu _)
def Inv.pz(I:Inv X XQ Y H s):∀x c,X.env.cells.lookup x=Fa c->c≠X.env.locals:=λx c e z=>by obtain⟨v,o,ho,hd⟩:=I.cell x c e;obtain⟨m,⟨o',es,ep,Yw,hd',_⟩,_⟩:=I.loc;rw[z,Yw]at ho;cases ho;rw[hd']at hd;cases hd
def Inv.nO(I:Inv X XQ Y H s):s.heap.FunFrames X.base X.outer:=by
 have all:∀(l:T0 Env),(∀b∈wD l,b∈X.fs)->X.s₀.heap.FunFrames X.base l->s.heap.FunFrames X.base l:=by
  intro l;induction l with
  | nil=>intro _ _;trivial
  | cons env r ih=>intro hs hl;obtain⟨hk,⟨L,o,hf,hn,ho,hd⟩,hr⟩:=hl;have hL:L∈X.fs:=hs L (by unfold wD;rw[gg,hf];exact dY);obtain⟨sl,e⟩:=I.base.slot L o ho (I.ok.oC L hL) hL λz=>I.ok.oj L z hL;exact⟨hk,⟨L,_,hf,hn,e,hd⟩,ih (λb hb=>hs b (by unfold wD;rw[gg,hf];exact dN _ hb)) hr⟩
 exact all X.outer (λ_ hb=>hb) I.ok.nO
def Inv.stack(I:Inv X XQ Y H s):s.heap.FunFrames X.base X.stack:=by
 rcases I.ok.oU with e|⟨e,hf⟩
 .rw[e];exact I.nO
 .rw[e];obtain⟨m,hn,_⟩:=I.loc;refine .cons (by rw[I.ok.kind];decide) hf hn ?_ I.nO;exact gQ (eE I.ok.ow I.ok.above)
def Inv.nM(I:Inv X XQ Y H s):∀b∈wD X.stack,b∈X.env.locals::X.fs:=λb hb=>by
 rcases I.ok.oU with e|⟨e,hf⟩
 .rw[e]at hb;exact dN _ hb
 .rw[e]at hb;unfold wD at hb;rw[gg,hf]at hb;exact hb
def Inv.nR(I:Inv X XQ Y H s):∀b∈wD X.stack,H b=Db:=λb hb=>by
 rcases dC.mp (I.nM b hb)with e|hb
 .rw[e];exact I.free
 .obtain⟨_,o,ho,_⟩:=I.ok.nO.mem hb;exact I.base.free b o ho (I.ok.oC b hb) λz=>I.ok.oj b z hb
def Inv.step{g':Array GenState}{t':Nat}{d':Drawn}{ch:QXQ}(I:Inv X XQ Y H s) (YN:∀b∈ch,(b∈X.ex\/X.s₀.heap.objs.size<=b)/\b≠X.env.locals/\(∀x c,X.env.cells.lookup x=Fa c->c≠b)/\∀p∈X.pn++XQ,p.1≠b) (keep:∀b o,b≠X.env.locals->b∉X.fs->b∉ch->s.heap.get? b=Fa o->H b=Db->h'.get? b=Fa o) (slot:∀b o,b≠X.env.locals->b∈X.fs->b∉ch->s.heap.get? b=Fa o->H b=Db->∃sl,h'.get? b=Fa {o with slots:=sl}) (free:∀b o,b∉ch->s.heap.get? b=Fa o->H b=Db->H' b=Db)
  (there:∀b o,b∉ch->s.heap.get? b=Fa o->∃o',h'.get? b=Fa o')
  (nK:∀b xs,H b=Fa (.tup xs)->H' b=Fa (.tup xs)) (nI:∀b o u,H b=Fa (.frz o u)->H' b=Fa (.frz o u)) (nP:∀b ps,H b=Fa (.tbl ps)->∃more,H' b=Fa (.tbl (ps++more)))
  (ns:∀m,s.heap.Ns X.env.locals m->h'.Ns X.env.locals m) (m8:yB X.prog X.w H' h') (hg:XXk g'):
  Inv X XQ Y H' {s with heap:=h',gens:=g',drawn:=d',toks:=t'}:=by
 have neL:∀b o,X.s₀.heap.get? b=Fa o->b≠X.env.locals:=λb o e=>dP (dU (dG e) I.ok.above);have neC:∀b o,X.s₀.heap.get? b=Fa o->b∉X.ex->b∉ch:=λb o e hx hb=>by
  rcases(YN b hb).1 with z|z
  .exact hx z
  .exact absurd (dU (dG e) z) (fu _)
 have cellK:∀x c,X.env.cells.lookup x=Fa c->∀v,s.heap.IsCell c v->h'.IsCell c v:=λx c e v ⟨o,ho,hd⟩=>by
  have nch:c∉ch:=λz=>(YN c z).2.2.1 x c e Z';by_cases hc:c∈X.fs
  .obtain⟨sl,q⟩:=slot c o (I.pz x c e) hc nch ho (I.nv x c e);exact⟨_,q,hd⟩
  .exact⟨o,keep c o (I.pz x c e) hc nch ho (I.nv x c e),hd⟩
 refine⟨I.ok,I.os,hg,⟨λb o e n hb hx=>?_,λb o e n hb hx=>?_,λb o e n hx=>?_,λb o e hx=>?_,λb xs e=>nK b xs (I.base.nK b xs e),λb o xs e=>nI b o xs (I.base.nI b o xs e),λb ps e=>?_⟩,?_,λx c e=>?_,?_,λx c e=>?_,λp hp=>?_,m8,I.len⟩
 .exact keep b o (neL b o e) hb (neC b o e hx) (I.base.keep b o e n hb hx) (I.base.free b o e n hx)
 .obtain⟨sl,e1⟩:=I.base.slot b o e n hb hx;obtain⟨Zh,e2⟩:=slot b _ (neL b o e) hb (neC b o e hx) e1 (I.base.free b o e n hx);exact⟨Zh,e2⟩
 .obtain⟨o',e1⟩:=I.base.there b o e hx;exact free b o' (neC b o e hx) e1 (I.base.free b o e n hx)
 .obtain⟨o',e1⟩:=I.base.there b o e hx;exact there b o' (neC b o e hx) e1
 .obtain⟨m1,e1⟩:=I.base.nP b ps e;obtain⟨m2,e2⟩:=nP b _ e1;exact⟨m1++m2,by rw[e2,ls]⟩
 .obtain⟨m,hn,hl⟩:=I.loc;refine⟨m,ns m hn,λi x v e1 e2 e3=>?_⟩;obtain⟨u,r,l⟩:=hl i x v e1 e2 e3;refine⟨u,r,?_⟩;rcases l with l|⟨k,c,e,z⟩
  .exact .inl l
  .exact .inr ⟨k,c,e,cellK x c e _ z⟩
 .obtain⟨v,z⟩:=I.cell x c e;exact⟨v,cellK x c e v z⟩
 .obtain⟨m,⟨o,_,_,ho,_⟩,_⟩:=I.loc;exact free _ o (λz=>(YN _ z).2.1 Z') ho I.free
 .obtain⟨v,o,ho,hd⟩:=I.cell x c e;exact free c o (λz=>(YN c z).2.2.1 x c e Z') ho (I.nv x c e)
 .obtain⟨e,n,ne,nf,d⟩:=I.pin p hp;have nch:p.1∉ch:=λz=>(YN p.1 z).2.2.2 p hp Z';exact⟨keep p.1 p.2 ne nf nch e n,free p.1 p.2 nch e n,ne,nf,d⟩
def Inv.un{t':Nat}(I:Inv X XQ Y H s)(u:Un X.fs [] H H' s.heap h')(m8:yB X.prog X.w H' h'):Inv X XQ Y H' {s with heap:=h',toks:=t'}:=by
 obtain⟨m,⟨o,es,ep,ho,r⟩,_⟩:=id I.loc;obtain⟨sl,hL⟩:=u.any ho I.free (by simp);exact I.step (g':=s.gens) (d':=s.drawn) (ch:=[]) (λ_ z=>nomatch z) (λb o _ hb _ e n=>u.keep b o e n hb (by simp)) (λb o _ hb _ e n=>u.slot b o e n hb (by simp)) (λb o _ e n=>u.free b o e n (by simp)) (λb o _ e=>u.there b o e (by simp)) u.nK u.nI u.nP (λm' hm=>by
  obtain⟨o',es',ep',Yw,r'⟩:=hm;rw[ho]at Yw;cases Yw;exact⟨_,es',ep',hL,r'⟩) m8 I.bare
def Inv.call{t':Nat}{d':Drawn}(I:Inv X XQ Y H s)(u:Un (wD X.stack) ch H H' s.heap h')(m8:yB X.prog X.w H' h')(hg:XXk g') (YN:∀b∈ch,(b∈X.ex\/X.s₀.heap.objs.size<=b)/\b≠X.env.locals/\(∀x c,X.env.cells.lookup x=Fa c->c≠b)/\∀p∈X.pn++XQ,p.1≠b):
  Inv X XQ Y H' {s with heap:=h',gens:=g',drawn:=d',toks:=t'}:=by
 obtain⟨m,⟨o,es,ep,ho,r⟩,_⟩:=id I.loc;obtain⟨sl,hL⟩:=u.any ho I.free λz=>(YN _ z).2.1 Z';exact I.step (ch:=ch) YN (λb o hL hb hc e n=>u.keep b o e n (λz=>(dC.mp (I.nM b z)).elim hL hb) hc) (λb o _ _ hc e n=>u.any e n hc) (λb o hc e n=>u.free b o e n hc) (λb o hc e=>u.there b o e hc) u.nK u.nI u.nP (λm' hm=>by
  obtain⟨o',es',ep',Yw,r'⟩:=hm;rw[ho]at Yw;cases Yw;exact⟨_,es',ep',hL,r'⟩) m8 hg
def Inv.turned{t':Nat}{it:Uf}(I:Inv X XQ Y H s)(k:∀b o,b≠it->s.heap.get? b=Fa o->h'.get? b=Fa o)(hn:H it=Db)(hL:it≠X.env.locals) (h1:it∈X.ex\/X.s₀.heap.objs.size<=it) (h2:∀x c,X.env.cells.lookup x=Fa c->c≠it) (h3:∀p∈X.pn++XQ,p.1≠it):Inv X XQ Y H {s with heap:=h',toks:=t'}:=by
 have nit:∀b u,H b=Fa u->b≠it:=λb u e z=>by rw[z,hn]at e;cases e
 refine I.step (g':=s.gens) (d':=s.drawn) (ch:=[it]) (λb hb=>?_) (λb o _ _ hc e _=>k b o (λz=>hc (by simp[z])) e) (λb o _ _ hc e _=>⟨o.slots,k b o (λz=>hc (by simp[z])) e⟩) (λ_ _ _ _ n=>n)
  (λb o hc e=>⟨o,k b o (λz=>hc (by simp[z])) e⟩) (λ_ _ e=>e) (λ_ _ _ e=>e) (λb ps e=>⟨#[],by rw[e];simp⟩) (λm hm=>?_) (λb u e=>?_) I.bare
 .have e:b=it:=by simpa using hb
  subst e;exact⟨h1,hL,h2,h3⟩
 .obtain⟨o,es,ep,ho,r⟩:=hm;exact⟨o,es,ep,k _ o (dW hL) ho,r⟩
 .refine(I.m8 b u e).nG (λc v hc q=>k c v ?_ q) (λ_ q=>q) λ_ _ q=>q;rcases hc with z|z
  .rw[z];exact nit b u e
  .exact nit c _ z
def Inv.tok(I:Inv X XQ Y H s)(t:Nat):Inv X XQ Y H {s with toks:=t}:=I.un (h':=s.heap) (t':=t) Un.refl I.m8
def Inv.kept{t':Nat}(I:Inv X XQ Y H s)(k:∀b u,s.heap.get? b=Fa u->h'.get? b=Fa u):Inv X XQ Y H {s with heap:=h',toks:=t'}:=I.un (Un.kept k) (I.m8.kept k)
def Inv.laid{a:Uf}{t':Nat}(I:Inv X XQ Y H s)(k:∀b u,s.heap.get? b=Fa u->h'.get? b=Fa u)(hp:s.heap.objs.size<=a)(new:su X.prog X.w (upd H a o) h' a o):
  Inv X XQ Y (upd H a o) {s with heap:=h',toks:=t'}:=I.un (Un.laid k hp (I.m8.fresh hp)) (I.m8.laid k hp new)
def Inv.write{x e:Uf}{t':Nat}(I:Inv X XQ Y H s)(mu:Uv (H x))(he:e=x\/H e=Fa (.own x))(k:∀b u,b≠e->s.heap.get? b=Fa u->h'.get? b=Fa u)(heo:∃u,h'.get? e=Fa u) (new:su X.prog X.w (upd H x o) h' x o):Inv X XQ Y (upd H x o) {s with heap:=h',toks:=t'}:=I.un (Un.write mu he k heo) (I.m8.write mu he k heo new)
def Inv.nX{YO:QQY}(I:Inv X XQ Y H s)(h:∀p∈YO,s.heap.get? p.1=Fa p.2/\H p.1=Db/\p.1≠X.env.locals/\p.1∉X.fs/\∀v,p.2.data≠.cell v):Inv X YO Y H s:=
 ⟨I.ok,I.os,I.bare,I.base,I.loc,I.cell,I.free,I.nv,λp hp=>(eF.mp hp).elim (λz=>I.pin p (fJ _ z)) (h p),I.m8,I.len⟩
def Cp{N:QQQ}(hN:N.Nodup){i j:Nat}{x:Str}(a:N[i]?=Fa x)(b:N[j]?=Fa x):i=j:=by obtain⟨h1,e1⟩:=dv.mp a;obtain⟨h2,e2⟩:=dv.mp b;exact(lW hN).mp (e1.trans e2.symm)
def DW{M:Model}{A:Ar}{E:QQX}{i:Nat}{x:Str}{Q:Unit->Sd->Prop}(I:Inv X XQ Y H s)(hN:X.N.Nodup)(hi:X.N[i]?=Fa x)(hx:Os X.env.scope x)(r:qQ v u) (h:∀s',Inv X XQ (Y.set i (Fa v)) H s'->(∃a,Heap.SameBut a s.heap s'.heap/\(a=X.env.locals\/X.env.cells.lookup x=Fa a))->Q () s') (hf:NA X x:=by first|exact .inl Z'|exact .inr Z'|assumption):pi M A (storeName X.env x u) Q E s:=by
 obtain⟨m,hn,hl⟩:=id I.loc;have hcls:(X.env.scope.kind==.class||(X.env.scope.kind==.module&&X.env.locals != X.env.globals))=lf:=by rw[I.ok.kind];rfl
 have hiσ:i<Y.length:=by rw[I.len];exact(dv.mp hi).1
 have pz:=I.pz;have X7:∀{a:Uf} {h':No},(∃o,s.heap.get? a=Fa o/\H a=Db)->Heap.SameBut a s.heap h'->yB X.prog X.w H h':=λ{a h'} ha hs b ob e=>by
  obtain⟨_,_,YB⟩:=ha;refine(I.m8 b ob e).nG (λc w' hc q=>(hs.2 c ?_).trans q) (λ_ q=>q) λ_ _ q=>q
  rintro rfl
  rcases hc with rfl|hc
  .rw[YB]at e;cases e
  .rw[YB]at hc;cases hc
 rcases hx with hk|hk
 .refine wpAny_storeName_local hk hn (λh' Zo hs=>?_) hcls;obtain⟨oL,_,_,hoL,_⟩:=id hn;refine h _ ⟨I.ok,I.os,I.bare,⟨λb o e n hb hx=>?_,λb o e n hb hx=>?_,I.base.free,λb o e hx=>?_,I.base.nK,I.base.nI,I.base.nP⟩,⟨_,Zo,λj y v' e1 e2 e3=>?_⟩,λy c e=>?_,I.free,I.nv,λp hp=>?_,X7 ⟨oL,hoL,I.free⟩ hs,by simpa using I.len⟩ ⟨_,hs,.inl Z'⟩
  .exact(hs.2 b (dP (dU (dG e) I.ok.above))).trans (I.base.keep b o e n hb hx)
  .obtain⟨sl,e1⟩:=I.base.slot b o e n hb hx;exact⟨sl,(hs.2 b (dP (dU (dG e) I.ok.above))).trans e1⟩
  .obtain⟨o',e1⟩:=I.base.there b o e hx;exact⟨o',(hs.2 b (dP (dU (dG e) I.ok.above))).trans e1⟩
  .by_cases hj:j=i
   .subst hj;rw[hi]at e1;cases e1;rw[eW hiσ]at e2;cases e2;exact⟨u,r,.inl ⟨hk,by simp⟩⟩
   .rw[fg (dW hj)]at e2;obtain⟨u',r',q⟩:=hl j y v' e1 e2 e3;refine⟨u',r',?_⟩;rcases q with⟨k,e⟩|⟨k,c,e,z⟩
    .refine .inl ⟨k,?_⟩;have:y≠x:=λe=>hj (Cp hN e1 (e ▸ hi));simp[this,e]
    .exact .inr ⟨k,c,e,z.sameBut hs (pz y c e)⟩
  .obtain⟨w',z⟩:=I.cell y c e;exact⟨w',z.sameBut hs (pz y c e)⟩
  .obtain⟨e,n,ne,nf,d⟩:=I.pin p hp;exact⟨(hs.2 p.1 ne).trans e,n,ne,nf,d⟩
 .have hfn:X.fn x=pc:=by
   rcases hf with z|z
   .exact z
   .rw[z]at hk;cases hk
  obtain⟨c,hc⟩:=I.ok.has x (.inl hk);obtain⟨w',z⟩:=I.cell x c hc;refine wpAny_storeName_cell I.ok.kind hk hc z (λh' hc' hs=>?_);obtain⟨oc,hoc,hocd⟩:=id z;refine h {s with heap:=h'} ⟨I.ok,I.os,I.bare,⟨λb o e n hb hx=>?_,λb o e n hb hx=>?_,I.base.free,λb o e hx=>?_,I.base.nK,I.base.nI,I.base.nP⟩,⟨m,hn.sameBut hs (dW (pz x c hc)),λj y v' e1 e2 e3=>?_⟩,λy c' e=>?_,I.free,I.nv,λp hp=>?_,X7 ⟨oc,hoc,I.nv x c hc⟩ hs,by simpa using I.len⟩ ⟨c,hs,.inr hc⟩
  .exact(hs.2 b (dP (dU (dG e) (I.ok.oE x c hfn hc)))).trans (I.base.keep b o e n hb hx)
  .obtain⟨sl,e1⟩:=I.base.slot b o e n hb hx;exact⟨sl,(hs.2 b (dP (dU (dG e) (I.ok.oE x c hfn hc)))).trans e1⟩
  .obtain⟨o',e1⟩:=I.base.there b o e hx;exact⟨o',(hs.2 b (dP (dU (dG e) (I.ok.oE x c hfn hc)))).trans e1⟩
  .by_cases hj:j=i
   .subst hj;rw[hi]at e1;cases e1;rw[eW hiσ]at e2;cases e2;exact⟨u,r,.inr ⟨.inl hk,c,hc,hc'⟩⟩
   .rw[fg (dW hj)]at e2;obtain⟨u',r',q⟩:=hl j y v' e1 e2 e3;refine⟨u',r',?_⟩;rcases q with q|⟨k,c',e,z'⟩
    .exact .inl q
    .refine .inr ⟨k,c',e,z'.sameBut hs ?_⟩
     rintro rfl
     exact hj (Cp hN e1 (I.ok.inj _ _ _ e hc ▸ hi))
  .by_cases hcc:c'=c
   .subst hcc;exact⟨_,hc'⟩
   .obtain⟨w2,z2⟩:=I.cell y c' e;exact⟨w2,z2.sameBut hs hcc⟩
  .obtain⟨e,n,ne,nf,d⟩:=I.pin p hp;refine⟨(hs.2 p.1 ?_).trans e,n,ne,nf,d⟩;intro q;rw[q,hoc]at e;have q':oc=p.2:=dD e;exact d w' (by rw[<-q'];exact hocd)
def zR{M:Model}{A:Ar}{E:QQX}{i:Nat}{x:Str}{Q:Unit->Sd->Prop}(I:Inv X XQ Y H s)(hN:X.N.Nodup)(hi:X.N[i]?=Fa x)(hx:Os X.env.scope x)(r:qQ v u) (h:∀s',Inv X XQ (Y.set i (Fa v)) H s'->Q () s') (hf:NA X x:=by first|exact .inl Z'|exact .inr Z'|assumption):pi M A (storeName X.env x u) Q E s:=
 DW I hN hi hx r (λs' I' _=>h s' I') hf
def Inv.oW{s':Sd}(I:Inv X XQ Y H s)(ho:s'.os=s.os)(u:Un (wD X.stack) ch H H' s.heap s'.heap)(m8:yB X.prog X.w H' s'.heap)(hg:XXk s'.gens) (YN:∀b∈ch,(b∈X.ex\/X.s₀.heap.objs.size<=b)/\b≠X.env.locals/\(∀x c,X.env.cells.lookup x=Fa c->c≠b)/\∀p∈X.pn++XQ,p.1≠b):Inv X XQ Y H' s':=by
 obtain⟨h',g',d',t',o'⟩:=s';have e:o'=s.os:=ho;subst e;exact I.call (g':=g') (t':=t') (d':=d') u m8 hg YN
end
abbrev XK:=Vl->Option Uf->Hp->Prop
abbrev St:=T0 (Option V)
abbrev VK:=V->Hp->Prop
abbrev TE:=St->Hp->VK->Prop
abbrev TT:=St->Hp->(Bool->Hp->Prop)->Prop
abbrev TA:=St->Hp->(T0 V->Hp->Prop)->Prop
structure Fm where
 nx:St->Hp->Prop
 rt:VK
 bk:St->Hp->Prop:=λ_ _=>False
 ct:St->Hp->Prop:=λ_ _=>False
abbrev TS:=Fm->St->Hp->Prop
def EP(X:Cx)(XQ:QQY)(Y:St)(Q:VK)(u:Vl)(s':Sd):Prop:=∃v H',Inv X XQ Y H' s'/\qQ v u/\Q v H'
def TP(X:Cx)(XQ:QQY)(Y:St)(Q:Bool->Hp->Prop)(b:Bool)(s':Sd):Prop:=∃H',Inv X XQ Y H' s'/\Q b H'
def AP(X:Cx)(XQ:QQY)(Y:St)(Q:T0 V->Hp->Prop)(us:T0 Vl)(s':Sd):Prop:=∃vs H',Inv X XQ Y H' s'/\qK vs us/\Q vs H'
def SP(X:Cx)(XQ:QQY)(D:Fm)(f:Flow)(s':Sd):Prop:=
 match f with
 | .next=>∃σ' H',Inv X XQ σ' H' s'/\D.nx σ' H'
 | .brk=>∃σ' H',Inv X XQ σ' H' s'/\D.bk σ' H'
 | .cont=>∃σ' H',Inv X XQ σ' H' s'/\D.ct σ' H'
 | .ret u=>∃v σ' H',Inv X XQ σ' H' s'/\qQ v u/\D.rt v H'
def PE(X:Cx)(e:Go)(t:TE):Prop:=
 ∀(XQ:QQY) (s:Sd) (Y:St) (H:Hp) (Q:VK),Inv X XQ Y H s->t Y H Q->pi (Tk X.prog X.w) X.A (wp e X.env) (EP X XQ Y Q) X.xe s
def PT(X:Cx)(e:Go)(t:TT):Prop:=
 ∀(XQ:QQY) (s:Sd) (Y:St) (H:Hp) (Q:Bool->Hp->Prop),Inv X XQ Y H s->t Y H Q->pi (Tk X.prog X.w) X.A (isTrue e X.env (wp e X.env)) (TP X XQ Y Q) X.xe s
def PW(X:Cx)(e:Go)(t:TT):Prop:=
 ∀(Yq:Sem Vl) (XQ:QQY) (s:Sd) (Y:St) (H:Hp) (Q:Bool->Hp->Prop),Inv X XQ Y H s->t Y H Q->pi (Tk X.prog X.w) X.A (isTrue e X.env Yq) (TP X XQ Y Q) X.xe s
def PW.pt(h:PW X e t):PT X e t:=h _
def PA(X:Cx)(es:T0 Go)(t:TA):Prop:=
 ∀(pos:Pos) (XQ:QQY) (s:Sd) (Y:St) (H:Hp) (Q:T0 V->Hp->Prop),Inv X XQ Y H s->t Y H Q->pi (Tk X.prog X.w) X.A (spliced (xz pos (Tl es X.env))) (AP X XQ Y Q) X.xe s
def PS(X:Cx)(st:TD)(t:TS):Prop:=
 ∀(XQ:QQY) (s:Sd) (Y:St) (H:Hp) (D:Fm),Inv X XQ Y H s->t D Y H->pi (Tk X.prog X.w) X.A (exec st X.env) (SP X XQ D) X.xe s
def Cq(X:Cx)(st:T0 TD)(t:TS):Prop:=
 ∀(XQ:QQY) (s:Sd) (Y:St) (H:Hp) (D:Fm),Inv X XQ Y H s->t D Y H->pi (Tk X.prog X.w) X.A (execs st X.env) (SP X XQ D) X.xe s
def sS{α:Type}{t:Sem α}{Q Q':α->Sd->Prop}{M:Model}{A:Ar}{E:QQX}{s:Sd}(h:pi M A t Q E s)(hQ:∀a s,Q a s->Q' a s):pi M A t Q' E s:=eJ h hQ λ_ _ x=>x
variable {tA tB':TT}{ta tb:TE}{pos:Pos}
section
def ED(i:Nat):TE:=λY H Q=>∃v,Y[i]?=Fa (Fa v)/\Q v H
def tC(v:V):TE:=λ_ H Q=>Q v H
def NM{i:Nat}{x:Str}(hN:X.N[i]?=Fa x)(hv:RV X.env.scope x)(hd:yI x:=by decide)(Yl:(x==("__classdict__":Str))=lf:=by decide):PE X (.Name x pos) (ED i):=by
 intro XQ s Y H Q I h;obtain⟨v,e,h⟩:=h;obtain⟨m,hn,hl⟩:=I.loc;obtain⟨u,r,l⟩:=hl i x v hN e hv;have XX:EP X XQ Y Q u s:=⟨v,H,I,r,h⟩;rcases l with⟨hk,hm⟩|⟨hk,c,hc,hcell⟩
 .exact mi (wpAny_loadName_local I.ok.kind hk hn hm XX) hd
 .rcases hk with hk|hk
  .exact mi (wpAny_loadName_cell I.ok.kind hk hc hcell XX) hd
  .exact mi (wpAny_loadName_free I.ok.kind hk hc hcell XX Yl) hd
def Su{i j pos}:PE X (.Constant (.int i) j pos) (tC (.int i)):=λ_ _ _ H _ I h=>wpAny_Constant_int ⟨.int i,H,I.tok _,⟨_,Z'⟩,h⟩
def VL{b j pos}:PE X (.Constant (.bool b) j pos) (tC (.bl b)):=λ_ _ _ H _ I h=>Constant_bool ⟨.bl b,H,I,Z',h⟩
def RS{j pos}:PE X (.Constant .none j pos) (tC .mY):=λ_ _ _ H _ I h=>Constant_none ⟨.mY,H,I,Z',h⟩
def TL{x j pos}:PE X (.Constant (.str x) j pos) (tC (.str x)):=λ_ _ _ H _ I h=>Calls.Constant_str ⟨.str x,H,I.tok _,⟨_,Z'⟩,h⟩
def Gl(X:Cx)(x:Str):Prop:=X.env.kindOf x=Fa .globalImplicit
def xf{E:QQX}{XQ:QQY}{u:Vl}{Q:QQX}(I:Inv X XQ Y H s)(hg:Gl X x)(hm:X.mg x=Fa u)(h:Q u s) (hd:yI x:=by decide):pi (Tk X.prog X.w) X.A (wp (.Name x pos) X.env) Q E s:=
 jF I.ok.kind hg (Calls.loadGlobal_global (by rw[I.ok.glob];exact I.mod.glob.keeps I.bk) hm h) hd
def xj{E:QQX}{XQ:QQY}{u:Vl}{Q:QQX}(I:Inv X XQ Y H s)(hg:Gl X x)(hm:X.mg x=Db)(hv:zn x=Fa u)(h:Q u s) (hn:x≠"__name__":=by decide) (hd:yI x:=by decide):pi (Tk X.prog X.w) X.A (wp (.Name x pos) X.env) Q E s:=by
 obtain⟨mb,h1,h2⟩:=I.mod.blt;exact jF I.ok.kind hg (Calls.loadGlobal_builtin (by rw[I.ok.glob];exact I.mod.glob.keeps I.bk) hm (by rw[I.ok.blt];exact h1.keeps I.bk) ((h2 x hn).trans hv) h) hd
def BJ{u:Vl}(hg:Gl X x)(hm:X.mg x=Fa u)(r:qQ v u)(hd:yI x:=by decide):PE X (.Name x pos) (tC v):=
 λ_ _ _ H _ I h=>xf I hg hm ⟨v,H,I,r,h⟩ hd
def PR{u:Vl}(hg:Gl X x)(hm:X.mg x=Db)(hv:zn x=Fa u)(r:qQ v u)(hn:x≠"__name__":=by decide)(hd:yI x:=by decide):PE X (.Name x pos) (tC v):=
 λ_ _ _ H _ I h=>xj I hg hm hv ⟨v,H,I,r,h⟩ hn hd
variable {a b:Go}
def tB(t:TE):TT:=λY H Q=>t Y H λx H1=>∃c,x=.bl c/\Q c H1
def Tc(h:PE X e t)(he:∀Yq,isTrue e X.env Yq=(do let v<-Yq;XXa e.pos;ZB [v] (truthy v)):=by intro _;rfl):PT X e (tB t):=by intro XQ s Y H Q I hw;refine isTrue_plain (sS (h XQ s Y H _ I hw) λv s1 zz=>x5 zz λx H1 I1 r1 q1=>?_) (he _);obtain⟨d,rfl,q⟩:=q1;cases r1;exact fB ⟨H1,I1,q⟩
variable {rest:T0 Go}
def W1(t u:TT):TT:=λY H Q=>t Y H λc H1=>if c=pc then u Y H1 Q else Q lf H1
def XA(t u:TT):TT:=λY H Q=>t Y H λc H1=>if c=pc then Q pc H1 else u Y H1 Q
def Wq(t:TT):TT:=λY H Q=>t Y H λc H1=>Q (!c) H1
def Qa(ha:PT X a tA):PW X (.BoolOp .And [a] pos) tA:=by
 intro wh XQ s Y H Q I h;refine isTrue_and (sS (ha XQ s Y H Q I h) λc s1 e=>?_);cases c with
 | true=>exact isTrue_and_nil e
 | false=>exact e
def R0(ha:PT X a tA):PW X (.BoolOp .Or [a] pos) tA:=by
 intro wh XQ s Y H Q I h;refine isTrue_or (sS (ha XQ s Y H Q I h) λc s1 e=>?_);cases c with
 | false=>exact isTrue_or_nil e
 | true=>exact e
def RT(ha:PT X a tA)(hb:PW X (.BoolOp .And (b::rest) pos) tB'):PW X (.BoolOp .And (a::b::rest) pos) (W1 tA tB'):=by
 intro wh XQ s Y H Q I h;refine isTrue_and (sS (ha XQ s Y H _ I h) λc s1 ⟨H1,I1,q1⟩=>?_);cases c with
 | true=>exact hb wh XQ s1 Y H1 Q I1 q1
 | false=>exact⟨H1,I1,q1⟩
def Uz(ha:PT X a tA)(hb:PW X (.BoolOp .Or (b::rest) pos) tB'):PW X (.BoolOp .Or (a::b::rest) pos) (XA tA tB'):=by
 intro wh XQ s Y H Q I h;refine isTrue_or (sS (ha XQ s Y H _ I h) λc s1 ⟨H1,I1,q1⟩=>?_);cases c with
 | true=>exact⟨H1,I1,q1⟩
 | false=>exact hb wh XQ s1 Y H1 Q I1 q1
def S'(ha:PT X a tA):PT X (.UnaryOp .Not a pos) (Wq tA):=by intro XQ s Y H Q I h;exact isTrue_not (ha XQ s Y H (λc H1=>Q (!c) H1) I h)
def Vn(ta tb:TE):TE:=λY H Q=>ta Y H λx H1=>∃c,x=.bl c/\if c=pc then tb Y H1 Q else Q (.bl lf) H1
def WY(ta tb:TE):TE:=λY H Q=>ta Y H λx H1=>∃c,x=.bl c/\if c=pc then Q (.bl pc) H1 else tb Y H1 Q
def Vo(ta:TE):TE:=λY H Q=>ta Y H λx H1=>∃c,x=.bl c/\Q (.bl (!c)) H1
def T1{op}(h:PE X a t):PE X (.BoolOp op [a] pos) t:=λXQ s Y H Q I hw=>BoolOp_one (h XQ s Y H Q I hw)
def SY(ha:PE X a ta)(hb:PE X (.BoolOp .And (b::rest) pos) tb):PE X (.BoolOp .And (a::b::rest) pos) (Vn ta tb):=by
 intro XQ s Y H Q I h;refine BoolOp_and (sS (ha XQ s Y H _ I h) λv s1 zz=>x5 zz λx H1 I1 r1 q1=>?_);obtain⟨c,rfl,q1⟩:=q1;cases r1;refine fB ?_;cases c with
 | true=>exact hb XQ s1 Y H1 Q I1 q1
 | false=>exact⟨.bl lf,H1,I1,Z',q1⟩
def U7(ha:PE X a ta)(hb:PE X (.BoolOp .Or (b::rest) pos) tb):PE X (.BoolOp .Or (a::b::rest) pos) (WY ta tb):=by
 intro XQ s Y H Q I h;refine BoolOp_or (sS (ha XQ s Y H _ I h) λv s1 zz=>x5 zz λx H1 I1 r1 q1=>?_);obtain⟨c,rfl,q1⟩:=q1;cases r1;refine fB ?_;cases c with
 | false=>exact hb XQ s1 Y H1 Q I1 q1
 | true=>exact⟨.bl pc,H1,I1,Z',q1⟩
def TJ(ha:PE X a ta):PE X (.UnaryOp .Not a pos) (Vo ta):=by intro XQ s Y H Q I h;refine UnaryOp_ (sS (ha XQ s Y H _ I h) λv s1 zz=>x5 zz λx H1 I1 r1 q1=>?_);obtain⟨c,rfl,q1⟩:=q1;cases r1;exact not_of (fB ⟨.bl (!c),H1,I1,Z',q1⟩)
def XJ(t:TT)(ta tb:TE):TE:=λY H Q=>t Y H λc H1=>if c=pc then ta Y H1 Q else tb Y H1 Q
def Ls(hc:PT X c tA)(ha:PE X a ta)(hb:PE X b tb):PE X (.IfExp c a b pos) (XJ tA ta tb):=by
 intro XQ s Y H Q I h;refine wpAny_IfExp (sS (hc XQ s Y H _ I h) λd s1 ⟨H1,I1,q1⟩=>?_);cases d with
 | true=>exact ha XQ s1 Y H1 Q I1 q1
 | false=>exact hb XQ s1 Y H1 Q I1 q1
end
def zj(K:qC)(H:Hp)(a:Uf)(xs:T0 V):Prop:=
 Rd H a (.lst xs)\/
  ∃(o:Obj) (its:Array Vl) (n:Nat),K.lookup a=Fa o/\o.cls=.type "list"/\o.dict=Db/\o.data=.seq its n/\its.size<=Ch/\qK xs its.toList
def vn(K:qC)(H:Hp)(a:Uf)(xs:T0 V):Prop:=
 Rd H a (.tup xs)\/
  ∃(o:Obj) (its:Array Vl) (n:Nat),K.lookup a=Fa o/\o.cls=.type "tuple"/\o.dict=Db/\o.data=.seq its n/\its.size<=Ch/\qK xs its.toList
noncomputable def Wp:Vl->Option V
 | .none=>Fa .mY
 | .bool b=>Fa (.bl b)
 | .int i _=>Fa (.int i)
 | .str x _=>Fa (.str x)
 | .bytes b _=>Fa (.byt b)
 | .float b _=>Fa (.flt b)
 | .ref a=>Fa (.ref a)
 | .type n=>Fa (.ty n)
 | _=>Db
def qQ.abs(r:qQ x u):Wp u=Fa x:=by
 cases x with
 | mY=>cases r;rfl
 | bl _=>cases r;rfl
 | int _=>obtain⟨t,rfl⟩:=r;rfl
 | str _=>obtain⟨t,rfl⟩:=r;rfl
 | byt _=>obtain⟨t,rfl⟩:=r;rfl
 | flt _=>obtain⟨t,rfl⟩:=r;rfl
 | ref _=>cases r;rfl
 | ty _=>cases r;rfl
def qQ.inj(r:qQ x u)(q:qQ y u):x=y:=dD (r.abs.symm.trans q.abs)
theorem qK.inj:∀{xs ys:T0 V} {us:T0 Vl},qK xs us->qK ys us->xs=ys
 | _,_,_,.nil,.nil=>rfl
 | _,_,_,.cons r t,.cons r' t'=>by rw[r.inj r',qK.inj t t']
variable {xs ys:T0 V}
section
variable {Y:St}{a:Uf}
def vn.of{K:qC}(h:H a=Fa (.tup xs)):vn K H a xs:=.inl (.inl h)
def Inv.list(I:Inv X XQ Y H s)(h:zj X.K H a xs):∃its:T0 Vl,qK xs its/\PlainL s.heap a its.toArray/\xs.length<=Ch:=by
 rcases h with h|⟨o,its,n,hk,hc,hd,hs,hz,r⟩
 .obtain⟨z,its,n,r,e⟩:=h.ok I.m8;exact⟨its,r,⟨_,n,e,Z',Z',Z'⟩,z⟩
 .refine⟨its.toList,r,⟨o,n,I.nA a o hk,hc,hd,by simpa using hs⟩,?_⟩;have e:=r.length;simp only[iA]at e;lia
def Inv.tuple(I:Inv X XQ Y H s)(h:vn X.K H a xs):∃its:T0 Vl,qK xs its/\IsTup s.heap a its.toArray/\xs.length<=Ch:=by
 rcases h with h|⟨o,its,n,hk,hc,hd,hs,hz,r⟩
 .obtain⟨z,its,r,p⟩:=h.ok I.m8;exact⟨its,r,p.is,z⟩
 .refine⟨its.toList,r,⟨o,I.nA a o hk,hc,n,by simpa using hs⟩,?_⟩;have e:=r.length;simp only[iA]at e;lia
def Inv.nZ(I:Inv X XQ Y H s)(h:zj X.K H a xs)(h':zj X.K H a ys):xs=ys:=by
 obtain⟨its,r,⟨o,n,e,_,_,d⟩,_⟩:=I.list h;obtain⟨its',r',⟨o',n',e',_,_,d'⟩,_⟩:=I.list h';rw[e]at e';cases e';rw[d]at d';injection d' with d1 _
 have:its=its':=by simpa using eZ Array.toList d1
 subst this;exact r.inj r'
def Inv.nF(I:Inv X XQ Y H s)(h:vn X.K H a xs)(h':vn X.K H a ys):xs=ys:=by
 obtain⟨its,r,⟨o,e,_,n,d⟩,_⟩:=I.tuple h;obtain⟨its',r',⟨o',e',_,n',d'⟩,_⟩:=I.tuple h';rw[e]at e';cases e';rw[d]at d';injection d' with d1 _
 have:its=its':=by simpa using eZ Array.toList d1
 subst this;exact r.inj r'
end
abbrev Cx.nU(X:Cx)(E:QQX):Cx:={X with xe:=E}
abbrev Cx.oP(X:Cx):Cx:=X.nU λ_ _=>False
def Cx.Ok.nU{X:Cx}(ok:X.Ok)(E:QQX):(X.nU E).Ok:=
 ⟨ok.mod,ok.kind,ok.glob,ok.blt,ok.above,ok.inj,ok.has,ok.oE,ok.hd,ok.frames,ok.oU,ok.pA,ok.bs,ok.ow,ok.n9,ok.oj,ok.nO,ok.oC⟩
def Cx.Ok.nE{X:Cx}{E:QQX}(ok:(X.nU E).Ok):X.Ok:=
 ⟨ok.mod,ok.kind,ok.glob,ok.blt,ok.above,ok.inj,ok.has,ok.oE,ok.hd,ok.frames,ok.oU,ok.pA,ok.bs,ok.ow,ok.n9,ok.oj,ok.nO,ok.oC⟩
section
variable {Y:St}{E:QQX}
def Inv.nU(I:Inv X XQ Y H s)(E:QQX):Inv (X.nU E) XQ Y H s:=⟨I.ok.nU E,I.os,I.bare,I.base,I.loc,I.cell,I.free,I.nv,I.pin,I.m8,I.len⟩
def Inv.nE(I:Inv (X.nU E) XQ Y H s):Inv X XQ Y H s:=⟨I.ok.nE,I.os,I.bare,I.base,I.loc,I.cell,I.free,I.nv,I.pin,I.m8,I.len⟩
def SP.nE{D:Fm}(h:SP (X.nU E) XQ D f s'):SP X XQ D f s':=by
 cases f with
 | next=>obtain⟨σ',H',I,q⟩:=h;exact⟨σ',H',I.nE,q⟩
 | brk=>obtain⟨σ',H',I,q⟩:=h;exact⟨σ',H',I.nE,q⟩
 | cont=>obtain⟨σ',H',I,q⟩:=h;exact⟨σ',H',I.nE,q⟩
 | ret u=>obtain⟨v,σ',H',I,r,q⟩:=h;exact⟨v,σ',H',I.nE,r,q⟩
def Cq.oP{st:T0 TD}(h:Cq X.oP st t):Cq X st t:=λXQ s Y H D I hw=>eJ (h XQ s Y H D (I.nU _) hw) (λ_ _ q=>q.nE) λ_ _ z=>False.elim z
end
variable {st:TD}{u:TS}{te:TE}
section
variable {rest:T0 TD}{t:TS}{e:Go}
def VE:TS:=λD Y H=>D.nx Y H
def WP(t u:TS):TS:=λD Y H=>t {D with nx:=u D} Y H
def QL:Cq X [] VE:=λ_ _ Y H _ I h=>hZ ⟨Y,H,I,h⟩
def MM(h1:PS X st t)(h2:Cq X rest u):Cq X (st::rest) (WP t u):=by
 intro XQ s Y H D I h;refine jU (sS (h1 XQ s Y H {D with nx:=u D} I h) λf s1 q=>?_);cases f with
 | next=>obtain⟨σ',H',I',q⟩:=q;exact h2 XQ s1 σ' H' D I' q
 | ret v=>exact q
 | brk=>exact q
 | cont=>exact q
def EG(h1:PS X st t):Cq X [st] t:=by
 intro XQ s Y H D I h;refine jU (sS (h1 XQ s Y H D I h) λf s1 q=>?_);cases f with
 | next=>exact hZ q
 | ret v=>exact q
 | brk=>exact q
 | cont=>exact q
def Inv.quiet{XQ:QQY}(I:Inv X XQ Y H s):interactive X.env=lf:=by simp[interactive,I.ok.kind]
def UM(te:TE):TS:=λD Y H=>te Y H λ_ H1=>D.nx Y H1
def Pl(he:PE X e te)(hs:sB e Db pos.line X.env=pure lf:=by rfl):PS X (.Expr e pos) (UM te):=by intro XQ s Y H D I h;exact wpAny_Expr_any (sS (he XQ s Y H _ I h) λv s1 zz=>x5 zz λx H1 I1 r1 q1=>⟨Y,H1,I1,q1⟩) I.quiet hs
def Wv(te:TE):TS:=λD Y H=>te Y H D.rt
def R5(he:PE X e te):PS X (.Return (Fa e) pos) (Wv te):=by intro XQ s Y H D I h;exact wpAny_Return_some (sS (he XQ s Y H _ I h) λv s1 zz=>x5 zz λx H1 I1 r1 q1=>⟨x,Y,H1,I1,r1,q1⟩)
def Wj(c:TT)(t u:TS):TS:=λD Y H=>c Y H λb H1=>if b=pc then t D Y H1 else u D Y H1
def VI(hc:PT X c tc)(ha:Cq X a t)(hb:Cq X b u):PS X (.If c a b pos) (Wj tc t u):=by
 intro XQ s Y H D I h;refine wpAny_If (sS (hc XQ s Y H _ I h) λd s1 ⟨H1,I1,q1⟩=>?_);cases d with
 | true=>exact ha XQ s1 Y H1 D I1 q1
 | false=>exact hb XQ s1 Y H1 D I1 q1
def TX:TS:=λ_ _ _=>False
def LD:PS X st TX:=λ_ _ _ _ _ _ h=>h.elim
end
abbrev TG:=V->St->Hp->(St->Hp->Prop)->Prop
abbrev OX:=T0 V->St->Hp->(St->Hp->Prop)->Prop
def PG(X:Cx)(Ym:Go)(t:TG):Prop:=
 ∀(XQ:QQY) (s:Sd) (Y:St) (H:Hp) (v:V) (u:Vl) (Q:St->Hp->Prop),Inv X XQ Y H s->qQ v u->t v Y H Q->
  pi (Tk X.prog X.w) X.A (assign Ym X.env u) (λ_ s'=>∃σ' H',Inv X XQ σ' H' s'/\Q σ' H') X.xe s
def Oy(X:Cx)(ts:T0 Go)(t:OX):Prop:=
 ∀(XQ:QQY) (s:Sd) (Y:St) (H:Hp) (vs:T0 V) (us:T0 Vl) (Q:St->Hp->Prop),Inv X XQ Y H s->qK vs us->t vs Y H Q->
  pi (Tk X.prog X.w) X.A (assignInOrder ((At ts X.env).map (·.2)) us) (λ_ s'=>∃σ' H',Inv X XQ σ' H' s'/\Q σ' H') X.xe s
abbrev Uc:=V->V->V->Hp->(Hp->Prop)->Prop
def VV(X:Cx)(t:Uc):Prop:=
 ∀(XQ:QQY) (s:Sd) (Y:St) (H:Hp) (o i v:V) (ov iv u:Vl) (Q:Hp->Prop),Inv X XQ Y H s->qQ o ov->qQ i iv->qQ v u->t o i v H Q->
  pi (Tk X.prog X.w) X.A (setItem ov iv u) (λ_ s'=>∃H',Inv X XQ Y H' s'/\Q H') X.xe s
def Jw(i:Nat):TG:=λv Y H Q=>Q (Y.set i (Fa v)) H
def Rc{i:Nat}{x:Str}(hN:X.N.Nodup)(hi:X.N[i]?=Fa x)(hx:Os X.env.scope x)(hf:NA X x:=by first|exact .inl Z'|exact .inr Z'|assumption):PG X (.Name x pos) (Jw i):=by intro XQ s Y H v u Q I r h;exact lF (zR I hN hi hx r (λs' I'=>⟨_,H,I',h⟩) hf)
def WE:OX:=λvs Y H Q=>vs=[]/\Q Y H
def Vt(t:TG)(u:OX):OX:=λvs Y H Q=>∃v r,vs=v::r/\t v Y H λσ' H'=>u r σ' H' Q
def PJ:Oy X [] WE:=by intro XQ s Y H vs us Q I r h;obtain⟨e,h⟩:=h;subst e;cases r;exact assignInOrder_nil ⟨Y,H,I,h⟩
def Na{u:OX}(h1:PG X e t)(h2:Oy X es u) (hs:(At (e::es) X.env).map (·.2)=assign e X.env::(At es X.env).map (·.2):=by rfl):Oy X (e::es) (Vt t u):=by
 intro XQ s Y H vs us Q I r h;obtain⟨v,vr,e1,h⟩:=h;subst e1;cases r with
 | cons r rr=>rw[hs];refine assignInOrder_cons (sS (h1 XQ s Y H _ _ _ I r h) λ_ s1 ⟨σ1,H1,I1,q1⟩=>?_);exact h2 XQ s1 σ1 H1 _ _ Q I1 rr q1
def WC(K:qC)(n:Nat)(t:OX):TG:=λv Y H Q=>∃a xs,v=.ref a/\vn K H a xs/\xs.length=n/\t xs Y H Q
def RI{n:Nat}(hc:X.calm=pc)(h:Oy X es t) (hn:(At es X.env).length=n:=by rfl) (Ye:(At es X.env).findIdx? (·.1)=Db:=by rfl):PG X (.Tuple es k pos) (WC X.K n t):=by
 intro XQ s Y H v u Q I r hw;obtain⟨a,xs,e1,hq,hl,hw⟩:=hw;subst e1;cases r;obtain⟨its,rv,ht,hz⟩:=I.tuple hq;refine assign_Tuple_tuple (I.ok.hd hc) ht (by simp[hn,<-hl,rv.length]) Ye λh' hx=>?_;have I1:Inv X XQ Y H {s with heap:=h'}:=I.kept (t':=s.toks) λb o e=>hx b o (dP (dG e)) e;exact h XQ _ Y H xs _ Q I1 (by simpa using rv) hw
def Xd(to ti:TE)(t:Uc):TG:=λv Y H Q=>to Y H λo H1=>ti Y H1 λi H2=>t o i v H2 λH3=>Q Y H3
def TU(ho:PE X o to)(hi:PE X i ti)(hs:VV X t) (ha:∀v,assign (.Subscript o i pos) X.env v=(do
   let ov<-ZB [v] (wp o X.env);let iv<-ZB [v,ov] (wp i X.env)
   XXa pos
   ZB [v,ov,iv] (setItem ov iv v)
   release [v,ov,iv] []):=by intro _;rfl):PG X (.Subscript o i pos) (Xd to ti t):=by
 intro XQ s Y H v u Q I r h;rw[ha];refine df (eD (sS (ho XQ s Y H _ I h) λov s1 zz=>x5 zz λx H1 I1 r1 q1=>?_));refine df (eD (sS (hi XQ s1 Y H1 _ I1 q1) λiv s2 zz=>x5 zz λy H2 I2 r2 q2=>?_));refine df (hW (df (eD (sS (hs XQ s2 Y H2 x y v ov iv u _ I2 r1 r2 r q2) λ_ s3 ⟨H3,I3,q3⟩=>?_))));exact wpAny_release ⟨Y,H3,I3,q3⟩
def QD(te:TE)(g:TG):TS:=λD Y H=>te Y H λx H1=>g x Y H1 D.nx
def TK(he:PE X e te)(hg:PG X tg g)(hs:swapsWithSole [tg] e pos.line X.env=pure lf:=by rfl)(hw:swappedStores [tg] e X.env=pure Db:=by rfl)
  (h1:(At [tg] X.env).map (·.2)=[assign tg X.env]:=by rfl):PS X (.Assign [tg] e pos) (QD te g):=by
 intro XQ s Y H D I h;refine wpAny_Assign_stores (sS (he XQ s Y H _ I h) λv s1 zz=>x5 zz λx H1 I1 r1 q1=>?_) hs hw;rw[h1];exact sS (hg XQ s1 Y H1 x v _ I1 r1 q1) λ_ s2 q=>q
def LQ{i:Nat}{x:Str}(hN:X.N.Nodup)(hi:X.N[i]?=Fa x)(hx:Os X.env.scope x)(he:PE X e te)(hs:sB e (Fa (.Name x X5)) pos.line X.env=pure lf:=by rfl)(hf:NA X x:=by first|exact .inl Z'|exact .inr Z'|assumption):
  PS X (.Assign [.Name x X5] e pos) (QD te (Jw i)):=by
 intro XQ s Y H D I h;refine wpAny_Assign_Name (sS (he XQ s Y H _ I h) λv s1 zz=>x5 zz λy H1 I1 r1 q1=>?_) hs;exact zR I1 hN hi hx r1 (λs2 I2=>⟨_,H1,I2,q1⟩) hf
def TF(c:TT)(tb:TS):TS:=λD Y H=>∃W:Nat->St->Hp->Prop,(∃m,W m Y H)/\∀m Y H,W m Y H->
 c Y H λb H1=>if b=pc then ∃N:St->Hp->Prop,(∀σ' H',N σ' H'->∃m',m'<m/\W m' σ' H')/\tb {D with nx:=N,ct:=N,bk:=D.nx} Y H1 else D.nx Y H1
def NO{tb:TS}(hp:PassesOwn (Tk X.prog X.w) X.A X.env X.xe)(hc:PT X c tc)(hb:Cq X body tb):PS X (.While c body [] pos) (TF tc tb):=by
 intro XQ s Y H D I h;obtain⟨W,⟨m0,w0⟩,turn⟩:=h;refine wpAny_While (codeAny_whileLoop (λn s'=>∃σ' H',Inv X XQ σ' H' s'/\W n σ' H') ?_ m0 ⟨Y,H,I,w0⟩)
 rintro n s1 ⟨σ1,H1,I1,w1⟩
 refine gI hp (sS (hc XQ s1 σ1 H1 _ I1 (turn n σ1 H1 w1)) λb s2 ⟨H2,I2,q2⟩=>?_);cases b with
 | true=>
  obtain⟨N,hN,q2⟩:=q2;rw[dw Z'];refine gI hp (sS (hb XQ s2 σ1 H2 _ I2 q2) λf s3 q3=>?_);cases f with
  | next=>obtain⟨σ3,H3,I3,n3⟩:=q3;obtain⟨m',hm,w3⟩:=hN σ3 H3 n3;exact⟨m',hm,σ3,H3,I3,w3⟩
  | cont=>obtain⟨σ3,H3,I3,n3⟩:=q3;obtain⟨m',hm,w3⟩:=hN σ3 H3 n3;exact⟨m',hm,σ3,H3,I3,w3⟩
  | brk=>exact q3
  | ret v=>exact q3
 | false=>rw[dh dH];exact hZ ⟨σ1,H2,I2,q2⟩
structure It where
 go:Nat->Hp->Prop
 oZ:Nat->Hp->V->Hp->Prop
 stop:Nat->Hp->Prop
def Bq(X:Cx)(XQ:QQY)(H:Hp)(b:Uf):Prop:=
 H b=Db/\b≠X.env.locals/\b∉X.fs/\(b∈X.ex\/X.s₀.heap.objs.size<=b)/\(∀x c,X.env.cells.lookup x=Fa c->c≠b)/\∀p∈X.pn++XQ,p.1≠b
def Inv.oo{XQ:QQY}{H H':Hp}{b:Uf}(I:Inv X XQ Y H s)(hb:s.heap.objs.size<=b)(hn:H' b=Db):Bq X XQ H' b:=by
 refine⟨hn,il (dU I.lt hb),I.oX hb,.inr (eE I.sz hb),λx c e z=>?_,λp hp z=>?_⟩
 .obtain⟨v,q⟩:=I.cell x c e;exact absurd (dU q.lt (by rw[z];exact hb)) (fu _)
 .exact absurd (dU (dG (I.pin p hp).1) (by rw[z];exact hb)) (fu _)
structure Gp(P:Pg)(w:Wo)(K:qC)(tg:Go)(J:It)(fp:QXQ)(it:Uf)(tn:Nat->No->Prop):Prop where
 mem:it∈fp
 obj:∀i h,tn i h->∀b∈fp,∃o,h.get? b=Fa o/\∀v,o.data≠.cell v
 keep:∀i h h',tn i h->(∀b∈fp,∀o,h.get? b=Fa o->h'.get? b=Fa o)->tn i h'
 item:∀(X:Cx),X.prog=P->X.w=w->X.K=K->X.calm=pc->∀(i:Nat) (XQ:QQY) (s:Sd) (Y:St) (H:Hp) (E:QQX),Inv X XQ Y H s->(∀b∈fp,Bq X XQ H b)->tn i s.heap->J.go i H->
  pi (Tk P w) X.A (pyNext (.ref it)) (λr s1=>∃u,r=Fa u/\
   pi (Tk P w) X.A (XXg tg (.ref it) u) (λ_ s2=>∃x H',Inv X XQ Y H' s2/\qQ x u/\J.oZ i H x H'/\tn (i+1) s2.heap/\∀b∈fp,H' b=Db) E s1) E s
 done:∀(X:Cx),X.prog=P->X.w=w->X.K=K->X.calm=pc->∀(i:Nat) (XQ:QQY) (s:Sd) (Y:St) (H:Hp) (E:QQX),Inv X XQ Y H s->(∀b∈fp,Bq X XQ H b)->tn i s.heap->J.stop i H->
  pi (Tk P w) X.A (pyNext (.ref it)) (λr s1=>r=Db/\Inv X XQ Y H s1) E s
 self:∀(A:Ar) (i:Nat) (s:Sd) (Q:QQX) (E:QQX),tn i s.heap->Q (.ref it) s->pi (Tk P w) A (pyIter (.ref it)) Q E s
abbrev TI:=St->Hp->(It->Hp->Prop)->Prop
def Xu(X:Cx)(XQ:QQY)(Y:St)(tg:Go)(R:It->Hp->Prop)(itv:Vl)(s2:Sd):Prop:=
 ∃(it:Uf) (fp:QXQ) (tn:Nat->No->Prop) (J:It) (H':Hp),itv=.ref it/\Inv X XQ Y H' s2/\Gp X.prog X.w X.K tg J fp it tn/\tn 0 s2.heap/\(∀b∈fp,Bq X XQ H' b)/\R J H'
def PI(X:Cx)(tg iter:Go)(wi:TI):Prop:=
 ∀(XQ:QQY) (s:Sd) (Y:St) (H:Hp) (R:It->Hp->Prop),Inv X XQ Y H s->wi Y H R->
  pi (Tk X.prog X.w) X.A (wp iter X.env) (λv s1=>pi (Tk X.prog X.w) X.A (pyIter v) (Xu X XQ Y tg R) X.xe s1) X.xe s
def Jk{M:Model}{A:Ar}{E:QQX}{s:Sd}{tg:Go}{it:Uf}{u:Vl}{o:Obj}{n:String}{vs:Array Vl}{Q:Unit->Sd->Prop}(ho:s.heap.get? it=Fa o)(hc:o.cls=.type n)(hd:o.data=.fields vs) (hn:["enumerate","zip","dict_itemiterator","dict_reverseitemiterator","odict_iterator","itertools.zip_longest","itertools.pairwise"].contains n=lf) (hQ:Q () s):pi M A (XXg tg (.ref it) u) Q E s:=by
  unfold XXg;cases tg<;>first
    | exact dA hQ
    | (cases u<;>first
        | exact dA hQ
        | (refine df (wpAny_load ho ?_)
           rw[hc,hd];show pi M A (if (["enumerate","zip","dict_itemiterator","dict_reverseitemiterator","odict_iterator","itertools.zip_longest","itertools.pairwise"].contains n&&vs[0]?==Fa (u8 _))=pc then _ else _) Q E s;rw[dh (by intro h;rw[hn,eR]at h;cases h)];exact dA hQ))
noncomputable def Wb(K:qC)(a:Uf):It:=
 ⟨λi H=>∃xs x,zj K H a xs/\xs[i]?=Fa x,λi H x H'=>H'=H/\∀xs,zj K H a xs->xs[i]?=Fa x,λi H=>∃xs,zj K H a xs/\xs.length<=i⟩
noncomputable def WJ(K:qC)(a:Uf):It:=
 ⟨λi H=>∃xs x,vn K H a xs/\xs[i]?=Fa x,λi H x H'=>H'=H/\∀xs,vn K H a xs->xs[i]?=Fa x,λi H=>∃xs,vn K H a xs/\xs.length<=i⟩
noncomputable def V4(lo:Int)(n:Nat):It:=⟨λi _=>i<n,λi H x H'=>H'=H/\x=.int (lo+i),λi _=>n<=i⟩
def Ld{K:qC}(a it:Uf):Gp P w K tg (Wb K a) [it] it (λi h=>h.IsListIter it a i) where
 mem:=by simp
 obj:=λi h st b hb=>by
  have e:b=it:=by simpa using hb
  subst e;obtain⟨o,e,c,d⟩:=st;exact⟨o,e,λv z=>by rw[d]at z;cases z⟩
 keep:=λi h h' st k=>st.at λo e=>k it (by simp) o e
 item:=by intro X hP hw hK hc i XQ s Y H E I hf st hg;subst hP hw hK;obtain⟨xs,x,hq,hx⟩:=hg;obtain⟨its,rv,p,hz⟩:=I.list hq;obtain⟨u,hu,ru⟩:=rv.get hx;obtain⟨f0,f1,f2,f3,f4,f5⟩:=hf it (by simp);refine kt st p.isList (x:=u) (by simpa using hu) λh' YE sb=>?_;have I1:Inv X XQ Y H {s with heap:=h'}:=I.turned (t':=s.toks) (λb o hb e=>(sb.2 b hb).trans e) f0 f1 f3 f4 f5;obtain⟨o,e,c,d⟩:=id YE;exact⟨u,Z',Jk (s:={s with heap:=h'}) e c d (by decide) ⟨x,H,I1,ru,⟨Z',λys hy=>by rw[I.nZ hy hq];exact hx⟩,YE,λb hb=>(hf b hb).1⟩⟩
 done:=by intro X hP hw hK hc i XQ s Y H E I hf st hg;subst hP hw hK;obtain⟨xs,hq,hx⟩:=hg;obtain⟨its,rv,p,hz⟩:=I.list hq;obtain⟨f0,f1,f2,f3,f4,f5⟩:=hf it (by simp);have hl:=rv.length;exact kz (I.ok.hd hc) st p.isList (by simp;lia) λh' eb=>⟨Z',I.turned (t':=s.toks) (λb o hb e=>eb b o hb e) f0 f1 f3 f4 f5⟩
 self:=λ_ _ _ _ _ st h=>wpAny_pyIter_listiter st h
def IJ{K:qC}(a it:Uf):Gp P w K tg (WJ K a) [it] it (λi h=>h.IsTupleIter it a i) where
 mem:=by simp
 obj:=λi h st b hb=>by
  have e:b=it:=by simpa using hb
  subst e;obtain⟨o,e,c,d⟩:=st;exact⟨o,e,λv z=>by rw[d]at z;cases z⟩
 keep:=λi h h' st k=>st.at λo e=>k it (by simp) o e
 item:=by intro X hP hw hK hc i XQ s Y H E I hf st hg;subst hP hw hK;obtain⟨xs,x,hq,hx⟩:=hg;obtain⟨its,rv,p,hz⟩:=I.tuple hq;obtain⟨u,hu,ru⟩:=rv.get hx;obtain⟨f0,f1,f2,f3,f4,f5⟩:=hf it (by simp);refine wpAny_pyNext_tuple_item st (show s.heap.IsTuple a its.toArray from p) (x:=u) (by simpa using hu) λh' YE sb=>?_;have I1:Inv X XQ Y H {s with heap:=h'}:=I.turned (t':=s.toks) (λb o hb e=>(sb.2 b hb).trans e) f0 f1 f3 f4 f5;obtain⟨o,e,c,d⟩:=id YE;exact⟨u,Z',Jk (s:={s with heap:=h'}) e c d (by decide) ⟨x,H,I1,ru,⟨Z',λys hy=>by rw[I.nF hy hq];exact hx⟩,YE,λb hb=>(hf b hb).1⟩⟩
 done:=by intro X hP hw hK hc i XQ s Y H E I hf st hg;subst hP hw hK;obtain⟨xs,hq,hx⟩:=hg;obtain⟨its,rv,p,hz⟩:=I.tuple hq;obtain⟨f0,f1,f2,f3,f4,f5⟩:=hf it (by simp);have hl:=rv.length;exact wpAny_pyNext_tuple_end (I.ok.hd hc) st (show s.heap.IsTuple a its.toArray from p) (by simp;lia) λh' eb=>⟨Z',I.turned (t':=s.toks) (λb o hb e=>eb b o hb e) f0 f1 f3 f4 f5⟩
 self:=λ_ _ _ _ _ st h=>wpAny_pyIter_tupleiter st h
def Ib{K:qC}(it:Uf)(lo:Int)(n:Nat):Gp P w K tg (V4 lo n) [it] it (λi h=>IsRangeIter h it (lo+(i:Nat)*1) ((n:Int) - (i:Nat)) 1) where
 mem:=by simp
 obj:=λi h st b hb=>by
  have e:b=it:=by simpa using hb
  subst e;exact⟨_,st,λv z=>by
   have z':Data.fields _=Data.cell v:=z;cases z'⟩
 keep:=λi h h' st k=>k it (by simp) _ st
 item:=by intro X hP hw hK hc i XQ s Y H E I hf st hg;subst hP hw hK;obtain⟨f0,f1,f2,f3,f4,f5⟩:=hf it (by simp);have W:=Walks.range (prog:=X.prog) (w:=X.w) (I.ok.hd hc) it lo 1 n;refine W.item i s _ _ hg st λv h' tk hv YE kk=>?_;obtain⟨t,rfl⟩:=hv;have I1:Inv X XQ Y H {s with heap:=h',toks:=tk}:=I.turned (λb o hb e=>kk b o (by simpa using hb) e) f0 f1 f3 f4 f5;refine⟨_,Z',Jk (s:={s with heap:=h',toks:=tk}) (n:="range_iterator") YE Z' Z' (by decide) ⟨.int (lo+i),H,I1,⟨t,?_⟩,⟨Z',Z'⟩,YE,λb hb=>(hf b hb).1⟩⟩;rw[Int.mul_one]
 done:=by intro X hP hw hK hc i XQ s Y H E I hf st hg;subst hP hw hK;obtain⟨f0,f1,f2,f3,f4,f5⟩:=hf it (by simp);exact wpAny_pyNext_range_end (I.ok.hd hc) st (by have:n<=i:=hg;lia) λh' eb=>⟨Z',I.turned (t':=s.toks) (λb o hb e=>eb b o hb e) f0 f1 f3 f4 f5⟩
 self:=λ_ _ _ _ _ st h=>wpAny_pyIter_rangeiter st h
variable {tg:Go}
def LG{XQ:QQY}{R:It->Hp->Prop}{E:QQX}{lo hi:Int}{t u v:Tok}{tk:Nat}(I:Inv X XQ Y H s)(h1:-(2 ^ 62)<=lo)(h2:lo<2 ^ 62)(h3:-(2 ^ 62)<=hi)(h4:hi<2 ^ 62) (q:R (V4 lo (hi - lo).toNat) H):pi (Tk X.prog X.w) X.A (pyIter (.ref s.heap.objs.size)) (Xu X XQ Y tg R) E {s with heap:=s.heap.push {cls:=.type "range",data:=.fields #[.int lo t,.int hi u,.int 1 v]},toks:=tk}:=by
 refine wpAny_pyIter_range (IsRange.new ..) (small_one h1 h2 h3 h4) ?_;have I1:Inv X XQ Y H {s with heap:=s.heap.push {cls:=.type "range",data:=.fields #[.int lo t,.int hi u,.int 1 v]},toks:=tk}:=I.kept λb o e=>dz _ e;refine⟨(s.heap.push {cls:=.type "range",data:=.fields #[.int lo t,.int hi u,.int 1 v]}).objs.size,[(s.heap.push {cls:=.type "range",data:=.fields #[.int lo t,.int hi u,.int 1 v]}).objs.size],_,_,H,Z',I1.kept (t':=tk) λb o e=>dz _ e,Ib _ lo (hi - lo).toNat,?_,λb hb=>?_,q⟩
 .have e1:lo+((0:Nat):Int)*1=lo:=by simp
  have e2:(((hi - lo).toNat:Nat):Int) - ((0:Nat):Int)=Builtin.Range.rangeSize lo hi 1:=by rw[rangeSize_one];split<;>lia
  show IsRangeIter _ _ (lo+((0:Nat):Int)*1) ((((hi - lo).toNat:Nat):Int) - ((0:Nat):Int)) 1;rw[e1,e2];exact dO _ Z'
 .have e:b=(s.heap.push {cls:=.type "range",data:=.fields #[.int lo t,.int hi u,.int 1 v]}).objs.size:=by simpa using hb
  subst e;exact I1.oo (dE _) (I1.m8.fresh (dE _))
def Uw(ta:TA):TI:=λY H R=>ta Y H λvs H1=>∃j:Int,vs=[.int j]/\-(2 ^ 62)<=j/\j<2 ^ 62/\R (V4 0 j.toNat) H1
def KB{a:Go}{ta:TA}(hg:Gl X "range")(hm:X.mg "range"=Db)(ha:PA X [a] ta)(hs:Tl [a] X.env=[(lf,wp a X.env)]:=by rfl):PI X tg (.Call (.Name "range" p) [a] [] pos) (Uw ta):=by
 intro XQ s Y H R I h;refine Call_ (xj I hg hm boot_range (gb (sS (ha pos XQ s Y H _ I h) λus s1 zz=>x5 zz λvs H1 I1 r1 q1=>?_) hs Z'));obtain⟨j,e,q1,q2,q⟩:=q1;subst e;cases r1 with
 | cons r rr=>cases rr;obtain⟨t,rfl⟩:=r;exact call_range_1 (LG I1 (by lia) (by lia) q1 q2 (by simpa using q))
def WQ(wi:TI)(g:TG)(tb:TS):TS:=λD Y H=>wi Y H λJ H1=>∃W:Nat->Nat->St->Hp->Prop,(∃m,W 0 m Y H1)/\∀i m Y H,W i m Y H->
 (J.stop i H/\D.nx Y H)\/(J.go i H/\∃N:St->Hp->Prop,(∀σ' H',N σ' H'->∃m',m'<m/\W (i+1) m' σ' H')/\∀x H',J.oZ i H x H'->g x Y H' λσ2 H2=>tb {D with nx:=N,ct:=N,bk:=D.nx} σ2 H2)
noncomputable def Ca(fp:QXQ)(h:No):QQY:=fp.filterMap λb=>(h.get? b).map λo=>(b,o)
def vw{fp:QXQ}{h:No}{b:Uf}{o:Obj}(hb:b∈fp)(e:h.get? b=Fa o):(b,o)∈Ca fp h:=lu.mpr ⟨b,hb,by rw[e];rfl⟩
def KW{p:Uf×Obj}(hp:p∈Ca fp h):p.1∈fp/\h.get? p.1=Fa p.2:=by
 obtain⟨b,hb,e⟩:=lu.mp hp;cases q:h.get? b with
 | none=>rw[q]at e;cases e
 | some o=>rw[q]at e;have e':(b,o)=p:=dD e;subst e';exact⟨hb,q⟩
def Inv.pinned{XQ:QQY}{fp:QXQ}(I:Inv X XQ Y H s)(hf:∀b∈fp,Bq X XQ H b)(ho:∀b∈fp,∃o,s.heap.get? b=Fa o/\∀v,o.data≠.cell v):Inv X (XQ++Ca fp s.heap) Y H s:=
 I.nX λp hp=>(eF.mp hp).elim (λz=>I.pin p (eO _ z)) λz=>by obtain⟨hb,e⟩:=KW z;obtain⟨f0,f1,f2,_⟩:=hf p.1 hb;obtain⟨o,e',d⟩:=ho p.1 hb;rw[e]at e';cases e';exact⟨e,f0,f1,f2,d⟩
def Inv.ny{XQ pl:QQY}(I:Inv X (XQ++pl) Y H s):Inv X XQ Y H s:=I.nX λp hp=>I.pin p (eO _ (fJ _ hp))
def R6{tb:TS}(hp:PassesOwn (Tk X.prog X.w) X.A X.env X.xe)(hc:X.calm=pc)(hi:PI X tg iter wi)(hg:PG X tg g)(hb:Cq X body tb) (hs:∀x,AT iter X.env x=pure x:=by intro _;rfl):PS X (.For tg iter body [] pos) (WQ wi g tb):=by
 intro XQ s Y H D I h;refine wpAny_For (sS (hi XQ s Y H _ I h) λv s1 h1=>sS h1 λitv s2 h2=>?_) hs;obtain⟨it,fp,tn,J,H2,e,I2,T,Yh,f2,W,⟨m0,w0⟩,turn⟩:=h2;subst e;have Y1:∀{H':Hp},(∀b∈fp,H' b=Db)->∀b∈fp,Bq X XQ H' b:=λhn b hb=>⟨hn b hb,(f2 b hb).2⟩;refine codeAny_forLoop_any (λn s'=>∃i σ' H',Inv X XQ σ' H' s'/\tn i s'.heap/\(∀b∈fp,H' b=Db)/\W i n σ' H') ?_ m0 ⟨0,Y,H2,I2,Yh,λb hb=>(f2 b hb).1,w0⟩
 rintro n s3 ⟨i,σ3,H3,I3,YJ,fr3,w3⟩
 rcases turn i n σ3 H3 w3 with⟨stop,qn⟩|⟨go,N,hN,step⟩
 .refine gI hp (sS (T.done X Z' Z' Z' hc i XQ s3 σ3 H3 X.xe I3 (Y1 fr3) YJ stop) λr s4 ⟨hr,I4⟩=>?_);subst hr;exact hZ ⟨σ3,H3,I4,qn⟩
 .refine gI hp (sS (T.item X Z' Z' Z' hc i XQ s3 σ3 H3 X.xe I3 (Y1 fr3) YJ go) λr s4 ⟨u,hr,h4⟩=>?_);subst hr;refine gI hp (sS h4 λ_ s5 zz=>?_);obtain⟨x,H5,I5,r5,y5,ZK,fr5⟩:=zz;have I5':=I5.pinned (Y1 fr5) (T.obj _ _ ZK);refine gI hp (sS (hg _ s5 σ3 H5 x u _ I5' r5 (step x H5 y5)) λ_ s6 ⟨σ6,H6,I6,q6⟩=>?_);refine gI hp (sS (hb _ s6 σ6 H6 _ I6 q6) λf s7 q7=>?_);have again:∀{σ7:St} {H7:Hp},Inv X (XQ++Ca fp s5.heap) σ7 H7 s7->N σ7 H7->∃m,m<n/\∃i σ' H',Inv X XQ σ' H' s7/\tn i s7.heap/\(∀b∈fp,H' b=Db)/\W i m σ' H':=λ{σ7 H7} I7 n7=>by obtain⟨m',hm,w7⟩:=hN σ7 H7 n7;refine⟨m',hm,i+1,σ7,H7,I7.ny,T.keep _ _ _ ZK λb hb o e=>(I7.pin (b,o) (eO _ (eO _ (vw hb e)))).1,λb hb=>?_,w7⟩;obtain⟨o,e,d⟩:=T.obj _ _ ZK b hb;exact(I7.pin (b,o) (eO _ (eO _ (vw hb e)))).2.1
  cases f with
  | next=>obtain⟨σ7,H7,I7,n7⟩:=q7;exact again I7 n7
  | cont=>obtain⟨σ7,H7,I7,n7⟩:=q7;exact again I7 n7
  | brk=>obtain⟨σ7,H7,I7,q7⟩:=q7;exact⟨σ7,H7,I7.ny,q7⟩
  | ret v=>obtain⟨x7,σ7,H7,I7,r7,q7⟩:=q7;exact⟨x7,σ7,H7,I7.ny,r7,q7⟩
abbrev R2:=V->V->Hp->VK->Prop
def xI(X:Cx)(f:Vl->Vl->Sem Vl)(r:R2):Prop:=
 ∀(XQ:QQY) (s:Sd) (Y:St) (H:Hp) (x y:V) (v u:Vl) (Q:VK),Inv X XQ Y H s->qQ x v->qQ y u->r x y H Q->
  pi (Tk X.prog X.w) X.A (f v u) (EP X XQ Y Q) X.xe s
def Wn(X:Cx)(f:Vl->Sem Vl)(r:V->Hp->VK->Prop):Prop:=
 ∀(XQ:QQY) (s:Sd) (Y:St) (H:Hp) (x:V) (v:Vl) (Q:VK),Inv X XQ Y H s->qQ x v->r x H Q->
  pi (Tk X.prog X.w) X.A (f v) (EP X XQ Y Q) X.xe s
def yJ(X:Cx)(f:Vl)(r:T0 V->Hp->VK->Prop):Prop:=
 ∀(XQ:QQY) (s:Sd) (Y:St) (H:Hp) (xs:T0 V) (us:T0 Vl) (Q:VK),Inv X XQ Y H s->qK xs us->r xs H Q->
  pi (Tk X.prog X.w) X.A (call f us) (EP X XQ Y Q) X.xe s
def UO(r:R2)(ta tb:TE):TE:=λY H Q=>ta Y H λx H1=>tb Y H1 λy H2=>r x y H2 Q
def XG(r:V->Hp->VK->Prop)(ta:TE):TE:=λY H Q=>ta Y H λx H1=>r x H1 Q
def rI(C:Int->Int->Prop)(g:Int->Int->V):R2:=λx y H Q=>∃i j,x=.int i/\y=.int j/\C i j/\Q (g i j) H
def Rt(g:Int->Int->V):R2:=λx y H Q=>∃i j,x=.int i/\y=.int j/\Q (g i j) H
def rU(g:Int->V):V->Hp->VK->Prop:=λx H Q=>∃i,x=.int i/\Q (g i) H
variable {tc:TE}
section
variable {a b c:Go}
def Sh(ha:PE X a ta)(hb:PE X b tb){XQ:QQY}{s:Sd}{Y:St}{H:Hp}{R:V->V->Hp->Prop}(I:Inv X XQ Y H s) (h:ta Y H λx H1=>tb Y H1 λy H2=>R x y H2) {Q:QQX} {f:Vl->Vl->Sem Vl} (hf:∀v u s2 x y H2,Inv X XQ Y H2 s2->qQ x v->qQ y u->R x y H2->pi (Tk X.prog X.w) X.A (f v u) Q X.xe s2):
  pi (Tk X.prog X.w) X.A (wp a X.env) (λv s₁=>pi (Tk X.prog X.w) X.A (wp b X.env) (λu s₂=>pi (Tk X.prog X.w) X.A (f v u) Q X.xe s₂) X.xe s₁) X.xe s:=by
 refine sS (ha XQ s Y H _ I h) λv s1 zz=>x5 zz λx H1 I1 r1 q1=>?_;refine sS (hb XQ s1 Y H1 _ I1 q1) λu s2 zz=>x5 zz λy H2 I2 r2 q2=>?_;exact hf v u s2 x y H2 I2 r1 r2 q2
def LB{op:XYa}(ho:xI X (sK op) r)(ha:PE X a ta)(hb:PE X b tb):PE X (.BinOp a op b pos) (UO r ta tb):=by intro XQ s Y H Q I h;exact wpAny_BinOp (Sh ha hb I h λv u s2 x y H2 I2 rx ry q=>ho XQ s2 Y H2 x y v u Q I2 rx ry q)
def Vq{op:UnaryOp}(ho:Wn X (unaryOp op) r)(ha:PE X a ta):PE X (.UnaryOp op a pos) (XG r ta):=by intro XQ s Y H Q I h;exact UnaryOp_ (sS (ha XQ s Y H _ I h) λv s1 zz=>x5 zz λx H1 I1 r1 q1=>ho XQ s1 Y H1 x v Q I1 r1 q1)
def Wa{f:Vl->Vl->Sem Vl}{C:Int->Int->Prop}{g:Int->Int->Int} (rule:∀(i j:Int) (t u:Tok) (s:Sd) (Q:QQX) (E:QQX),C i j->Q (.int (g i j) s.toks) {s with toks:=s.toks+1}->pi (Tk X.prog X.w) X.A (f (.int i t) (.int j u)) Q E s):
  xI X f (rI C λi j=>.int (g i j)):=by
 intro XQ s Y H x y v u Q I rx ry h;obtain⟨i,j,rfl,rfl,hc,q⟩:=h;obtain⟨t,rfl⟩:=rx;obtain⟨t',rfl⟩:=ry;exact rule i j t t' s _ _ hc ⟨.int (g i j),H,I.tok _,⟨_,Z'⟩,q⟩
def VT{f:Vl->Vl->Sem Vl}{g:Int->Int->Int} (rule:∀(i j:Int) (t u:Tok) (s:Sd) (Q:QQX) (E:QQX),Q (.int (g i j) s.toks) {s with toks:=s.toks+1}->pi (Tk X.prog X.w) X.A (f (.int i t) (.int j u)) Q E s):
  xI X f (Rt λi j=>.int (g i j)):=by
 intro XQ s Y H x y v u Q I rx ry h;obtain⟨i,j,rfl,rfl,q⟩:=h;obtain⟨t,rfl⟩:=rx;obtain⟨t',rfl⟩:=ry;exact rule i j t t' s _ _ ⟨.int (g i j),H,I.tok _,⟨_,Z'⟩,q⟩
def P5{f:Vl->Vl->Sem Vl}{g:Int->Int->Bool} (rule:∀(i j:Int) (t u:Tok) (s:Sd) (Q:QQX) (E:QQX),Q (.bool (g i j)) s->pi (Tk X.prog X.w) X.A (f (.int i t) (.int j u)) Q E s):
  xI X f (Rt λi j=>.bl (g i j)):=by
 intro XQ s Y H x y v u Q I rx ry h;obtain⟨i,j,rfl,rfl,q⟩:=h;obtain⟨t,rfl⟩:=rx;obtain⟨t',rfl⟩:=ry;exact rule i j t t' s _ _ ⟨.bl (g i j),H,I,Z',q⟩
def VX(i j:Int):Prop:=0<j/\j<1073741824
def Vg(i j:Int):Prop:=0<=j/\j<=1000000/\i.natAbs<2 ^ 64
def DC(i j:Int):Prop:=(-(2 ^ 64)<i/\i<2 ^ 64)\/(-(2 ^ 64)<j/\j<2 ^ 64)
def DC.ok(h:DC i j):IntMulOk i j:=by
 rcases h with⟨h1,h2⟩|⟨h1,h2⟩
 .exact .of_left (intBits_le_64 h1 h2)
 .exact .of_right (intBits_le_64 h1 h2)
def T5:xI X (sK .Add) (Rt λi j=>.int (i+j)):=VT λ_ _ _ _ _ _ _ q=>add_int q
def SH:xI X (sK .Sub) (Rt λi j=>.int (i - j)):=VT λ_ _ _ _ _ _ _ q=>sub_int q
def Ts:xI X (sK .Mult) (rI DC λi j=>.int (i*j)):=Wa λ_ _ _ _ _ _ _ hc q=>mul_int q hc.ok
def P4:xI X (sK .FloorDiv) (rI VX λi j=>.int (i / j)):=Wa λi j _ _ _ _ _ hc q=>by have h1:(0:Int)<j:=hc.1;have h2:j<1073741824:=hc.2;exact floordiv_int (by lia) (by rw[Int.fdiv_eq_ediv_of_nonneg i (by lia)];exact q) (.inl (PyProof.noPylong_small (by lia)))
def SK:xI X (sK .Mod) (rI (λ_ j=>0<j) λi j=>.int (i % j)):=Wa λi j _ _ _ _ _ hc q=>by have h1:(0:Int)<j:=hc;exact mod_int' (by lia) (by rw[Int.fmod_eq_emod_of_nonneg i (by lia)];exact q)
def Sm:xI X (sK .Pow) (rI Vg λi j=>.int (i ^ j.toNat)):=Wa λ_ _ _ _ _ _ _ hc q=>pow_int_small hc.1 hc.2.1 hc.2.2 q
def XH{f:Vl->Sem Vl}{g:Int->Int} (rule:∀(i:Int) (t:Tok) (s:Sd) (Q:QQX) (E:QQX),Q (.int (g i) s.toks) {s with toks:=s.toks+1}->pi (Tk X.prog X.w) X.A (f (.int i t)) Q E s):
  Wn X f (rU λi=>.int (g i)):=by
 intro XQ s Y H x v Q I rx h;obtain⟨i,rfl,q⟩:=h;obtain⟨t,rfl⟩:=rx;exact rule i t s _ _ ⟨.int (g i),H,I.tok _,⟨_,Z'⟩,q⟩
def Sa:Wn X (unaryOp .USub) (rU λi=>.int (-i)):=XH λ_ _ _ _ _ q=>neg_int q
end
section
variable {a b c:Go}
def Im{XQ:QQY}{Q:VK}{k k':Bool}(I:Inv X XQ Y H s)(q:Q (.bl k) H)(e:k=k'):EP X XQ Y Q (.bool k') s:=by subst e;exact⟨.bl k,H,I,Z',q⟩
def UD:xI X (Op .Lt) (Rt λi j=>.bl (decide (i<j))):=P5 λ_ _ _ _ _ _ _ q=>lt_int q
def Vx:xI X (Op .LtE) (Rt λi j=>.bl (decide (i<=j))):=P5 λ_ _ _ _ _ _ _ q=>le_int q
def U4:xI X (Op .Gt) (Rt λi j=>.bl (decide (j<i))):=P5 λ_ _ _ _ _ _ _ q=>gt_int q
def UR:xI X (Op .GtE) (Rt λi j=>.bl (decide (j<=i))):=P5 λ_ _ _ _ _ _ _ q=>ge_int q
def Ki:xI X (Op .In) (λx y H Q=>∃i j,x=.str i/\y=.str j/\Q (.bl (!(Builtin.Str.occurrences j i 0 j.length 1).isEmpty)) H):=by intro XQ s Y H x y v u Q I rx ry h;obtain⟨i,j,rfl,rfl,q⟩:=h;obtain⟨t,rfl⟩:=rx;obtain⟨t',rfl⟩:=ry;exact in_str (Im I q Z')
def Ue:xI X (Op .Is) (λx y H Q=>y=.mY/\Q (.bl (decide (x=.mY))) H):=by
 intro XQ s Y H x y v u Q I rx ry h;obtain⟨rfl,q⟩:=h;cases ry;refine is_none_gen (Im I q ?_);cases x<;>first
  | (cases rx;rfl)
  | (obtain⟨t,rfl⟩:=rx;rfl)
def OK:xI X (Op .IsNot) (λx y H Q=>y=.mY/\Q (.bl (!decide (x=.mY))) H):=by
 intro XQ s Y H x y v u Q I rx ry h;obtain⟨rfl,q⟩:=h;cases ry;refine isnot_none_gen (Im I q ?_);cases x<;>first
  | (cases rx;rfl)
  | (obtain⟨t,rfl⟩:=rx;rfl)
def HF(b:Go){op:CmpOp}(h:op≠.In:=by decide)(h2:op≠.NotIn:=by decide):wT op b=lf:=by
 have e1:(op==CmpOp.In)=lf:=by cases op<;>first|rfl|exact absurd Z' h
 have e2:(op==CmpOp.NotIn)=lf:=by cases op<;>first|rfl|exact absurd Z' h2
 cases b<;>simp[wT,e1,e2]
def JF{op:CmpOp}(ho:xI X (Op op) r)(ha:PE X a ta)(hb:PE X b tb)(hm:wT op b=lf):PE X (.Compare a [op] [b] pos) (UO r ta tb):=by intro XQ s Y H Q I h;exact wpAny_Compare1 (Sh ha hb I h λv u s2 x y H2 I2 rx ry q=>ho XQ s2 Y H2 x y v u Q I2 rx ry q) hm
def Rm(t:TE):TT:=λY H Q=>t Y H λx H'=>∃k,x=.bl k/\Q k H'
def Jt{op:CmpOp}(ho:xI X (Op op) r)(ha:PE X a ta)(hb:PE X b tb)(hm:wT op b=lf):PT X (.Compare a [op] [b] pos) (Rm (UO r ta tb)):=by
 intro XQ s Y H Q I h;refine wpAny_isTrue_Compare1 (sS (ha XQ s Y H _ I h) λv s1 zz=>x5 zz λx H1 I1 r1 q1=>sS (hb XQ s1 Y H1 _ I1 q1) λu s2 zz=>x5 zz λy H2 I2 r2 q2=>
  sS (ho XQ s2 Y H2 x y v u _ I2 r1 r2 q2) λc s3 zz=>?_) hm
 obtain⟨z,H3,I3,r3,k,e,q3⟩:=zz;subst e;cases r3;exact fB ⟨H3,I3,q3⟩
def L7(r r':R2)(ta tb tc:TE):TE:=λY H Q=>ta Y H λx H1=>tb Y H1 λy H2=>r x y H2 λz H3=>∃k,z=.bl k/\
 (if k=pc then tc Y H3 λw' H4=>r' y w' H4 Q else Q (.bl lf) H3)
def Mh{op YF:CmpOp}(ho:xI X (Op op) r)(Yw:xI X (Op YF) r')(ha:PE X a ta)(hb:PE X b tb)(hc:PE X c tc) (hm:lastMarks [op,YF] [b,c]=lf:=by with_unfolding_all rfl):PE X (.Compare a [op,YF] [b,c] pos) (L7 r r' ta tb tc):=by
 intro XQ s Y H Q I h;refine Compare_chain (sS (ha XQ s Y H _ I h) λv s1 zz=>x5 zz λx H1 I1 r1 q1=>chain_link (sS (hb XQ s1 Y H1 _ I1 q1) λu s2 zz=>x5 zz λy H2 I2 r2 q2=>
  sS (ho XQ s2 Y H2 x y v u _ I2 r1 r2 q2) λd s3 zz=>?_)) hm
 obtain⟨z,H3,I3,r3,k,e,q3⟩:=zz;subst e;cases r3;refine fB ?_;cases k with
 | false=>exact ite_ff ⟨.bl lf,H3,I3,Z',q3⟩
 | true=>exact ite_tt (chain_last (sS (hc XQ s3 Y H3 _ I3 q3) λw' s4 zz=>x5 zz λz' H4 I4 r4 q4=>Yw XQ s4 Y H4 y z' u w' Q I4 r2 r4 q4))
def MZ{op YF:CmpOp}(ho:xI X (Op op) r)(Yw:xI X (Op YF) r')(ha:PE X a ta)(hb:PE X b tb)(hc:PE X c tc) (hm:lastMarks [op,YF] [b,c]=lf:=by with_unfolding_all rfl):PT X (.Compare a [op,YF] [b,c] pos) (Rm (L7 r r' ta tb tc)):=by
 intro XQ s Y H Q I h;refine isTrue_chain (sS (ha XQ s Y H _ I h) λv s1 zz=>x5 zz λx H1 I1 r1 q1=>test_link (sS (hb XQ s1 Y H1 _ I1 q1) λu s2 zz=>x5 zz λy H2 I2 r2 q2=>
  sS (ho XQ s2 Y H2 x y v u _ I2 r1 r2 q2) λd s3 zz=>?_)) hm
 obtain⟨z,H3,I3,r3,k,e,q3⟩:=zz;subst e;cases r3;refine fB ?_;cases k with
 | false=>obtain⟨k',e',q'⟩:=q3;cases e';exact ite_ff ⟨H3,I3,q'⟩
 | true=>refine ite_tt (test_last (sS (hc XQ s3 Y H3 _ I3 q3) λw' s4 zz=>x5 zz λz' H4 I4 r4 q4=>sS (Yw XQ s4 Y H4 y z' u w' _ I4 r2 r4 q4) λd' s5 zz=>?_));obtain⟨z2,H5,I5,r5,k2,e2,q5⟩:=zz;subst e2;cases r5;exact fB ⟨H5,I5,q5⟩
def yO:(Ch:Nat)<2 ^ 63:=by rw[dR];decide
def HI:xI X (sK .Add) (λx y H Q=>∃i j,x=.str i/\y=.str j/\i.length+j.length<=Ch/\Q (.str (i++j)) H):=by intro XQ s Y H x y v u Q I rx ry h;obtain⟨i,j,rfl,rfl,hz,q⟩:=h;obtain⟨t,rfl⟩:=rx;obtain⟨t',rfl⟩:=ry;exact add_str (λt' tk=>⟨.str (i++j),H,I.tok _,⟨_,Z'⟩,q⟩) hz
def yK{x:V}(r:qK [x] us):∃u,us=[u]/\qQ x u:=by
 cases r with
 | cons r1 r2=>cases r2;exact⟨_,Z',r1⟩
def GZ{x y:V}(r:qK [x,y] us):∃u w',us=[u,w']/\qQ x u/\qQ y w':=by
 cases r with
 | cons r1 r2=>
  cases r2 with
  | cons r3 r4=>cases r4;exact⟨_,_,Z',r1,r3⟩
def Lh(hc:X.calm=pc):yJ X (.builtin "max") (λxs H Q=>∃i j,xs=[.int i,.int j]/\Q (.int (if j>i then j else i)) H):=by
 intro XQ s Y H xs us Q I r h;obtain⟨i,j,rfl,q⟩:=h;obtain⟨u,w',rfl,⟨t,rfl⟩,⟨t',rfl⟩⟩:=GZ r;refine max_two_ints (I.ok.hd hc) λh' tk k=>⟨_,H,I.kept k,?_,q⟩;by_cases hj:j>i
 .rw[dw hj,dw hj];exact⟨_,Z'⟩
 .rw[dh hj,dh hj];exact⟨_,Z'⟩
def Ln(hc:X.calm=pc):yJ X (.builtin "min") (λxs H Q=>∃i j,xs=[.int i,.int j]/\Q (.int (if j<i then j else i)) H):=by
 intro XQ s Y H xs us Q I r h;obtain⟨i,j,rfl,q⟩:=h;obtain⟨u,w',rfl,⟨t,rfl⟩,⟨t',rfl⟩⟩:=GZ r;refine min_two_ints (I.ok.hd hc) λh' tk k=>⟨_,H,I.kept k,?_,q⟩;by_cases hj:j<i
 .rw[dw hj,dw hj];exact⟨_,Z'⟩
 .rw[dh hj,dh hj];exact⟨_,Z'⟩
end
structure IQ(h:No)(x dx C:Uf)(mA:QQZ):Prop where
 obj:h.get? x=Fa (W.instObj C dx)
 ns:h.Ns1 dx mA
 ne:dx≠x
def KF{h:No}{dx:Uf}{mA:QQZ}(n:h.Ns1 dx mA):∃od,h.get? dx=Fa od/\∀name,W.lookIn name od=Fa (mA name):=by
 obtain⟨o,es,ep,ho,hd,hk,_,hm⟩:=n;refine⟨o,ho,λname=>?_⟩;have e:=hm name;unfold nsFind findBy at e;rw[<-lw]at e;unfold W.lookIn;rw[hd];dsimp only;split
 .rename_i y q;rw[q]at e;exact eZ Fa e
 .rename_i q;rw[q]at e;have a:es.toList.any (·.refKey)=lf:=by rw[lG];intro y hy;obtain⟨z,t,hkey⟩:=hk y (kH.mp hy);simp[DictEntry.refKey,hkey]
  have a':¬es.toList.any (·.refKey)=pc:=by rw[a];exact dH
  rw[dh a'];exact eZ Fa e
def IQ.look(I:IQ h x dx C mA):∃od,W.InstAt h x (W.instObj C dx) C (Fa od)/\∀name,W.lookIn name od=Fa (mA name):=
 let⟨od,ho,hl⟩:=KF I.ns
 ⟨od,⟨I.obj,Z',Z',ho⟩,hl⟩
variable {prog:Pg}{A:Ar}{K:qC}{dx C:Uf}{mA:QQZ}{name:Str}
section
variable {w:Wo}{E:QQX}{x f:Uf}{v:Vl}
def Qz{expr:Bool}{Q:QQX}(X:K.In s.heap)(I:IQ s.heap x dx C mA)(hg:W.plainGet K C name=pc)(hh:W.hasDictIn K C=pc) (ha:W.findIn K (.ref C) name=Fa Db) (hv:mA name=Fa v) (hv':W.handedIn v=pc) (h:Q v {s with toks:=s.toks+1}):
  pi (Tk prog w) A (getAttr (.ref x) name expr) Q E s:=by
 obtain⟨od,J,hl⟩:=I.look;exact W.get_value X J (kP hg).1 (W.findObj_own hh ha Z' (by rw[hl,hv])) hv' h
def MR{pl:Sem Bool}{Q:Vl×T0 Vl->Sd->Prop}(X:K.In s.heap)(I:IQ s.heap x dx C mA)(hg:W.plainGet K C name=pc) (hf:W.findIn K (.ref C) name=Fa (Fa (.ref f))) (ht:W.isFn K (.ref f)=pc) (hv:mA name=Db) (h:Q (.ref f,[.ref x]) s):
  pi (Tk prog w) A (TW (.ref x) name pl) Q E s:=by
 obtain⟨od,J,hl⟩:=I.look;exact W.method_fn X J (kP hg).1 (kP hg).2 hf (fh.mp ht) (by show(W.lookIn name od).map (·.isSome)=Fa lf;rw[hl,hv];rfl) h
def Q5{Q:Unit->Sd->Prop}(X:K.In s.heap)(I:IQ s.heap x dx C mA) (hs:W.findIn K (.ref C) "__setattr__"=Fa (Fa (.builtin "object.__setattr__"))) (hp:W.plainOver K C=pc) (ht:W.takerIn K C name=Fa Db) (hh:W.hasDictIn K C=pc) (hw:PySem.Within mA ns) (hsz:ns.length<=Ch) (h:∀h',IQ h' x dx C (λy=>if y=name then Fa v else mA y)->Heap.SameBut dx s.heap h'->Q () {s with heap:=h',toks:=s.toks+2}):
  pi (Tk prog w) A (setAttr (.ref x) name v) Q E s:=by
 obtain⟨od,J,hl⟩:=I.look;refine W.set_plain X J hs (W.osa_open (s:={s with toks:=s.toks+1}) (r:=none) X J hp ht λb=>?_);obtain⟨cd,hc,hd'⟩:=W.any_some hh;have hx:s.heap.get? x=Fa ⟨.ref C,Fa dx,.plain,#[]⟩:=I.obj;refine df (dA (df (df (kA hx (df (mD (s:={s with toks:=s.toks+1}) (kQ X hc) ?_))))));rw[hd'];refine dA (a:=some dx) (df (dA (df ?_)));refine wpAny_nsSet1 (s:={s with toks:=s.toks+1}) I.ns λh' hn2 Zv=>?_;obtain⟨oD,esD,epD,hoD,wC,hcD⟩:=hn2.count (PySem.Within.cons name v hw);refine df (lX hoD (by rw[wC];exact lY (eE hcD (by rw[eK];lia))) ?_);exact dA (h _ ⟨(Zv.2 _ (dW I.ne)).trans I.obj,hn2,I.ne⟩ Zv)
def Nr{vs:T0 Vl}{kw:T0 (Str×Vl)}(X:K.In s.heap)(hm:W.makesIn K C=pc) (hi:W.findIn K (.ref C) "__init__"=Fa (Fa (.ref f))) (hf:W.typeIn K (.ref f)=Fa (.type "function")) (h:XXh (Tk prog w) (A.under (.builtin "type.__call__" ⟨.ref C::vs,kw⟩)) (.call (.ref f) ⟨.ref (s.heap.objs.size+1)::vs,kw⟩) (W.InitBack (s.heap.objs.size+1) R) {s with heap:=(s.heap.push W.emptyDict).push (W.instObj C s.heap.objs.size)}):
  XXh (Tk prog w) A (.call (.ref C) ⟨vs,kw⟩) R s:=by
 obtain⟨hh,g,d,t,os⟩:=s;exact W.make_core (W.makes_of X hm) (im X hi) (λself=>W.bind_fn X self hf) (.inl Z') h
end
noncomputable def vO(f:Str)(v:V):T0 (Str×V)->T0 (Str×V)
 | []=>[(f,v)]
 | (g,x)::r=>if g=f then(g,v)::r else(g,x)::vO f v r
theorem AL(f g:Str)(v:V):∀fs:T0 (Str×V),(vO f v fs).lookup g=if g=f then Fa v else fs.lookup g
 | []=>by
  show List.lookup g [(f,v)]=_;by_cases h:g=f
  .have hb:(g==f)=pc:=fh.mpr h;simp only[List.lookup,hb,dw h]
  .have hb:(g==f)=lf:=gB.mpr h;simp only[List.lookup,hb,dh h]
 | (k,x)::r=>by
  have ih:=AL f g v r;rw[show vO f v ((k,x)::r)=(if k=f then(k,v)::r else(k,x)::vO f v r)from Z'];by_cases hk:k=f
  .rw[dw hk];by_cases h:g=k
   .have hb:(g==k)=pc:=fh.mpr h;simp only[List.lookup,hb,dw (h.trans hk)]
   .have hb:(g==k)=lf:=gB.mpr h;simp only[List.lookup,hb,dh (λe:g=f=>h (e.trans hk.symm))]
  .rw[dh hk];by_cases h:g=k
   .have hb:(g==k)=pc:=fh.mpr h;simp only[List.lookup,hb,dh (λe:g=f=>hk (h.symm.trans e))]
   .have hb:(g==k)=lf:=gB.mpr h;simp only[List.lookup,hb];exact ih
theorem AD(f:Str)(v:V):∀fs:T0 (Str×V),f∈(vO f v fs).map (·.1)/\∀g,g∈fs.map (·.1)->g∈(vO f v fs).map (·.1)
 | []=>⟨by simp[vO],λg h=>by simp at h⟩
 | (k,x)::r=>by
  obtain⟨i1,i2⟩:=AD f v r;rw[show vO f v ((k,x)::r)=(if k=f then(k,v)::r else(k,x)::vO f v r)from Z'];by_cases hk:k=f
  .rw[dw hk];subst hk;exact⟨by simp,λg h=>by simpa using h⟩
  .rw[dh hk];refine⟨?_,λg h=>?_⟩
   .rw[eh];exact dN _ i1
   .rw[eh]at h ⊢;rcases dC.mp h with e|e
    .exact dC.mpr (.inl e)
    .exact dN _ (i2 g e)
theorem AS(f:Str)(v:V):∀fs:T0 (Str×V),(vO f v fs).length<=fs.length+1
 | []=>by simp[vO]
 | (k,x)::r=>by
  have ih:=AS f v r;rw[show vO f v ((k,x)::r)=(if k=f then(k,v)::r else(k,x)::vO f v r)from Z'];by_cases hk:k=f
  .rw[dw hk,eK,eK];lia
  .rw[dh hk,eK,eK];lia
def yF.some_of{v:V}(r:yF (Fa v) o):∃u,o=Fa u/\qQ v u:=by
 cases o with
 | none=>exact(show False from r).elim
 | some u=>exact⟨u,Z',r⟩
def yF.none_of{o:Option Vl}(r:yF Db o):o=Db:=by
 cases o with
 | none=>rfl
 | some u=>exact(show False from r).elim
def K1{u:Vl}(r:qQ v u):W.handedIn u=pc:=by
 cases v with
 | mY=>cases(show u=Value.none from r);rfl
 | bl b=>cases(show u=Value.bool b from r);rfl
 | int i=>obtain⟨t,e⟩:=(show ∃t,u=Value.int i t from r);cases e;rfl
 | str x=>obtain⟨t,e⟩:=(show ∃t,u=Value.str x t from r);cases e;rfl
 | byt b=>obtain⟨t,e⟩:=(show ∃t,u=Value.bytes b t from r);cases e;rfl
 | flt b=>obtain⟨t,e⟩:=(show ∃t,u=Value.float b t from r);cases e;rfl
 | ref a=>cases(show u=Value.ref a from r);rfl
 | ty n=>cases(show u=Value.type n from r);rfl
section
variable {P:Pg}{w:Wo}{a:Uf}{fs fs':T0 (Str × V)}
def BL(m8:yB P w H h)(e:H a=Fa (.ins C dx fs)):∃mA,IQ h a dx C mA/\(∀f,yF (fs.lookup f) (mA f))/\PySem.Within mA (fs.map (·.1))/\fs.length<=1000/\H dx=Fa (.own a):=by obtain⟨d,z,ne,ob,mA,n,r,q⟩:=(show su P w H h a (.ins C dx fs)from m8 a _ e);exact⟨mA,⟨ob,n,ne⟩,r,q,z,d⟩
end
structure Cls(K:qC)(C:Uf):Prop where
 pg:W.plainGet K C Str.empty=pc
 hd:W.hasDictIn K C=pc
 po:W.plainOver K C=pc
 sa:W.findIn K (.ref C) "__setattr__"=Fa (Fa (.builtin "object.__setattr__"))
def Cls.get{K:qC}(c:Cls K C)(f:Str):W.plainGet K C f=pc:=c.pg
def uC(K:qC)(C:Uf)(f:Str):Prop:=W.findIn K (.ref C) f=Fa Db
def uC.pb{K:qC}(n:uC K C f):W.takerIn K C f=Fa Db:=by unfold W.takerIn;rw[show W.findIn K (.ref C) f=Fa Db from n];rfl
structure vP(K:qC)(C:Uf)(m:Str)(f:Uf):Prop where
 at_:W.findIn K (.ref C) m=Fa (Fa (.ref f))
 fn:W.isFn K (.ref f)=pc
 kp:W.keepIn K (.ref f)=pc
section
variable {Y:St}{a:Uf}{fs:T0 (Str × V)}{f:Str}{v:V}{E:QQX}
def BQ{b:Bool}{Q:QQX}(I:Inv X XQ Y H s)(e:H a=Fa (.ins C dx fs))(c:Cls X.K C)(n:uC X.K C f)(l:fs.lookup f=Fa v) (h:∀u s',Inv X XQ Y H s'->qQ v u->Q u s'):pi (Tk X.prog X.w) A (getAttr (.ref a) f b) Q E s:=by
 obtain⟨mA,O,r,_,_,_⟩:=BL I.m8 e;obtain⟨u,hu,ru⟩:=yF.some_of (v:=v) (o:=mA f) (by rw[<-l];exact r f);exact Qz I.nA O (c.get f) c.hd n hu (K1 ru) (h u _ (I.tok _) ru)
def BN{pl:Sem Bool}{Q:Vl×T0 Vl->Sd->Prop}(I:Inv X XQ Y H s)(e:H a=Fa (.ins C dx fs))(c:Cls X.K C)(k:vP X.K C m g)(l:fs.lookup m=Db) (h:Q (.ref g,[.ref a]) s):pi (Tk X.prog X.w) A (TW (.ref a) m pl) Q E s:=by
 obtain⟨mA,O,r,_,_,_⟩:=BL I.m8 e;have hn:mA m=Db:=yF.none_of (by rw[<-l];exact r m);exact MR I.nA O (c.get m) k.at_ k.fn hn h
def Cn{u:Vl}{Q:Unit->Sd->Prop}(I:Inv X XQ Y H s)(e:H a=Fa (.ins C dx fs))(c:Cls X.K C)(n:uC X.K C f)(hl:fs.length<1000)(ry:qQ y u) (h:∀s',Inv X XQ Y (upd H a (.ins C dx (vO f y fs))) s'->Q () s'):pi (Tk X.prog X.w) A (setAttr (.ref a) f u) Q E s:=by
 obtain⟨mA,O,r,wi,_,ho⟩:=BL I.m8 e;have hz:(fs.map (·.1)).length<=Ch:=by rw[de,dR];lia
 refine Q5 I.nA O c.sa c.po n.pb c.hd wi hz λh' O' sb=>h _ ?_;have hd:∃o,h'.get? dx=Fa o:=let⟨o,_,_,e',_⟩:=O'.ns;⟨o,e'⟩;refine I.write (x:=a) (e:=dx) (by rw[e];exact True.intro) (.inr ho) (λb q hb z=>(sb.2 b hb).trans z) hd ?_;refine⟨by rw[qk O.ne];exact ho,?_,O.ne,O'.obj,_,O'.ns,λg=>?_,λg hg=>?_⟩
 .have:=AS f y fs;lia
 .show yF ((vO f y fs).lookup g) (if g=f then Fa u else mA g);rw[AL];by_cases q:g=f
  .rw[dw q,dw q];exact ry
  .rw[dh q,dh q];exact r g
 .by_cases q:g=f
  .rw[q];exact(AD f y fs).1
  .refine(AD f y fs).2 g (wi g λz=>hg ?_);show(if g=f then Fa u else mA g)=Db;rw[dh q];exact z
def Inv.made(I:Inv X XQ Y H s):Inv X XQ Y (upd (upd H s.heap.objs.size (.own (s.heap.objs.size+1))) (s.heap.objs.size+1) (.ins C s.heap.objs.size [])) {s with heap:=(s.heap.push W.emptyDict).push (W.instObj C s.heap.objs.size)}:=by
 have e1:(s.heap.push W.emptyDict).get? s.heap.objs.size=Fa W.emptyDict:=dO s.heap Z';have e2:((s.heap.push W.emptyDict).push (W.instObj C s.heap.objs.size)).get? (s.heap.objs.size+1)=Fa (W.instObj C s.heap.objs.size):=by
  have:=dO (s.heap.push W.emptyDict) (o:=W.instObj C s.heap.objs.size) Z'
  rwa [fS]at this
 have e3:(s.heap.push W.emptyDict).Ns s.heap.objs.size (λ_=>Db):=⟨W.emptyDict,#[],_,e1,Z',(λe he=>absurd he (by simp)),λ_=>rfl⟩;have I1:=I.laid (a:=s.heap.objs.size) (o:=.own (s.heap.objs.size+1)) (h':=s.heap.push W.emptyDict) (t':=s.toks) (λb u q=>dz _ q) (dE _) ⟨_,e1⟩;refine I1.laid (a:=s.heap.objs.size+1) (o:=.ins C s.heap.objs.size []) (t':=s.toks) (λb u q=>dz _ q) (mE (fS _ _)) ?_;have ne:s.heap.objs.size≠s.heap.objs.size+1:=dP (fP _);refine⟨by rw[qk ne,qw],eX _,ne,e2,λ_=>Db,(lH e3).at λo q=>dz _ q,λ_=>True.intro,λy hy=>absurd Z' hy⟩
def J0{prog:Pg}{w:Wo}{env:Env}{e:Go}{f:Str}{s:Sd}{Q:QQX}(hb:Ps e f env (wp e env)=wp e env) (h:pi (Tk prog w) A (wp e env) (λo s₁=>pi (Tk prog w) A (getAttr o f pc) Q E s₁) E s):pi (Tk prog w) A (wp (.Attribute e f pos) env) Q E s:=
 Attribute_any_ h (by rw[arm_eval_Attribute,hb])
end
def Wm(K:qC)(ta:TE)(f:Str):TE:=λY H Q=>ta Y H λx H1=>∃a C dx fs v,x=.ref a/\H1 a=Fa (.ins C dx fs)/\Cls K C/\uC K C f/\fs.lookup f=Fa v/\Q v H1
def W8(K:qC)(ta tv:TE)(f:Str):TS:=λD Y H=>tv Y H λy H1=>ta Y H1 λx H2=>∃a C dx fs,x=.ref a/\H2 a=Fa (.ins C dx fs)/\Cls K C/\uC K C f/\fs.length<1000/\
 D.nx Y (upd H2 a (.ins C dx (vO f y fs)))
def OQ(X:Cx)(op:XYa)(rd:V->V->Hp->VK->Prop):Prop:=
 ∀(XQ:QQY) (s:Sd) (Y:St) (H:Hp) (x y:V) (u v:Vl) (Q:VK),Inv X XQ Y H s->qQ x u->qQ y v->rd x y H Q->pi (Tk X.prog X.w) X.A (inplaceOp op u v) (EP X XQ Y Q) X.xe s
def QF(K:qC)(ta tv:TE)(rd:V->V->Hp->VK->Prop)(f:Str):TS:=λD Y H=>ta Y H λx H1=>∃a C dx fs v,x=.ref a/\H1 a=Fa (.ins C dx fs)/\Cls K C/\uC K C f/\fs.lookup f=Fa v/\
 tv Y H1 λy H2=>rd v y H2 λz H3=>∃dx' fs',H3 a=Fa (.ins C dx' fs')/\fs'.length<1000/\D.nx Y (upd H3 a (.ins C dx' (vO f z fs')))
variable {value:Go}{X5 ZU:Pos}{tv:TE}
section
variable {o e:Go}{f:Str}
def Si(he:PE X e ta)(hb:Ps e f X.env (wp e X.env)=wp e X.env):PE X (.Attribute e f pos) (Wm X.K ta f):=by intro XQ s Y H Q I h;refine J0 hb (sS (he XQ s Y H _ I h) λu s1 zz=>?_);obtain⟨x,H1,I1,rx,a,C,dx,fs,v,ex,ea,c,n,l,q⟩:=zz;subst ex;obtain rfl:u=Value.ref a:=rx;exact BQ I1 ea c n l λu' s2 I2 ru=>⟨v,H1,I2,ru,q⟩
def SL(ha:PE X o ta)(hv:PE X value tv)(hs:sB value (Fa (.Attribute o f X5)) pos.line X.env=pure lf):PS X (.Assign [.Attribute o f X5] value pos) (W8 X.K ta tv f):=by intro XQ s Y H D I h;refine jc (sS (hv XQ s Y H _ I h) λu s1 zz=>x5 zz λy H1 I1 ry q=>sS (ha XQ s1 Y H1 _ I1 q) λov s2 zz=>?_) hs;obtain⟨x,H2,I2,rx,a,C,dx,fs,ex,ea,c,n,l,q2⟩:=zz;subst ex;obtain rfl:ov=Value.ref a:=rx;exact Cn I2 ea c n l ry λs3 I3=>⟨Y,_,I3,q2⟩
def Ky(ha:PE X o ta)(hv:PE X value tv)(hop:OQ X op rd):PS X (.AugAssign (.Attribute o f ZU) op value pos) (QF X.K ta tv rd f):=by intro XQ s Y H D I h;refine wpAny_AugAssign_AttributeAny (sS (ha XQ s Y H _ I h) λov s1 zz=>?_);obtain⟨x,H1,I1,rx,a,C,dx,fs,v,ex,ea,c,n,l,q⟩:=zz;subst ex;obtain rfl:ov=Value.ref a:=rx;refine BQ I1 ea c n l λu s2 I2 ru=>sS (hv XQ s2 Y H1 _ I2 q) λw3 s3 zz=>x5 zz λy H2 I3 ry q3=>sS (hop XQ s3 Y H2 v y u w3 _ I3 ru ry q3) λw4 s4 zz=>?_;obtain⟨z,H3,I4,rz,dx',fs',ea',l',q4⟩:=zz;exact Cn I4 ea' c n l' rz λs5 I5=>⟨Y,_,I5,q4⟩
def WD:V->V->Hp->VK->Prop:=λx y H Q=>∃i j,x=.int i/\y=.int j/\Q (.int (i+j)) H
def WL:V->V->Hp->VK->Prop:=λx y H Q=>∃i j,x=.int i/\y=.int j/\Q (.int (i - j)) H
def RY:OQ X .Add WD:=by
 rintro XQ s Y H x y u v Q I rx ry ⟨i,j,rfl,rfl,q⟩
 obtain⟨t,rfl⟩:=(show ∃t,u=Value.int i t from rx);obtain⟨t',rfl⟩:=(show ∃t',v=Value.int j t' from ry);exact PyProof.Rows.iadd_int ⟨.int (i+j),H,I.tok _,⟨_,Z'⟩,q⟩
def Sr:OQ X .Sub WL:=by
 rintro XQ s Y H x y u v Q I rx ry ⟨i,j,rfl,rfl,q⟩
 obtain⟨t,rfl⟩:=(show ∃t,u=Value.int i t from rx);obtain⟨t',rfl⟩:=(show ∃t',v=Value.int j t' from ry);exact PyProof.Rows.isub_int ⟨.int (i - j),H,I.tok _,⟨_,Z'⟩,q⟩
end
variable {Q:QQX}
section
variable {Y:St}{E:QQX}{c:Vl}{b:Bool}
inductive Bf(K:qC)(H:Hp):V->Vl->Prop where
 | mY:Bf K H .mY (.type "NoneType")
 | bl (x:Bool):Bf K H (.bl x) (.type "bool")
 | int (i:Int):Bf K H (.int i) (.type "int")
 | str (x:Str):Bf K H (.str x) (.type "str")
 | flt (x:UInt64):Bf K H (.flt x) (.type "float")
 | lst {a:Uf} {xs:List V} (e:H a=Fa (.lst xs)):Bf K H (.ref a) (.type "list")
 | frz {a:Uf} {o:Obj} {xs:List V} (e:H a=Fa (.frz o (.lst xs))):Bf K H (.ref a) (.type "list")
 | tup {a:Uf} {xs:List V} (e:H a=Fa (.tup xs)):Bf K H (.ref a) (.type "tuple")
 | dK {a:Uf} {kvs:List (rm×V)} (e:H a=Fa (.dK kvs)):Bf K H (.ref a) (.type "dict")
 | dT {a:Uf} {kvs:List (List rm×V)} (e:H a=Fa (.dT kvs)):Bf K H (.ref a) (.type "dict")
 | ins {a C dx:Uf} {fs:List (Str×V)} (e:H a=Fa (.ins C dx fs)) (cl:Cls K C) (ha:W.findIn K (.ref C) "__class__"=Fa (Fa (.builtin "object.__class__")))
   (hn:W.specialIn K (.builtin "object.__class__") "__get__"=Fa (Fa (.builtin "getset_descriptor.__get__"))) (pC:W.takesIn K (.builtin "object.__class__")=Fa pc)
   (hm:W.mroIn K C (.type "object")=Fa pc):Bf K H (.ref a) (.ref C)
def uU{u t:Vl}(I:Inv X XQ Y H s)(rx:qQ x u)(ty:Bf X.K H x t)(e:W.kitOne X.K t c=Fa b)(h:∀tk,Q (.bool b) {s with toks:=tk}):
  pi (Tk X.prog X.w) A (call (.builtin "isinstance") [u,c]) Q E s:=by
 cases ty with
 | mY=>cases(show u=Value.none from rx);exact gq W.kitx_none I.nA True.intro e (λz=>nomatch z) h
 | bl y=>cases(show u=Value.bool y from rx);exact gq W.kitx_bool I.nA True.intro e (λz=>nomatch z) h
 | int i=>obtain⟨t,q⟩:=(show ∃t,u=Value.int i t from rx);cases q;exact gq W.kitx_int I.nA True.intro e (λz=>nomatch z) h
 | str y=>obtain⟨t,q⟩:=(show ∃t,u=Value.str y t from rx);cases q;exact gq W.kitx_str I.nA True.intro e (λz=>nomatch z) h
 | flt y=>obtain⟨t,q⟩:=(show ∃t,u=Value.float y t from rx);cases q;exact gq W.kitx_float I.nA True.intro e (λz=>nomatch z) h
 | @lst a xs ea=>cases(show u=Value.ref a from rx);obtain⟨_,_,n,_,h1⟩:=(show su X.prog X.w H s.heap a (.lst xs)from I.m8 a _ ea);exact gq lP I.nA ⟨_,h1,Z'⟩ e (λz=>nomatch z) h
 | @frz a ob xs ea=>cases(show u=Value.ref a from rx);obtain⟨_,_,_,n,_,h1⟩:=(show su X.prog X.w H s.heap a (.frz ob (.lst xs))from I.m8 a _ ea);exact gq lP I.nA ⟨_,h1,Z'⟩ e (λz=>nomatch z) h
 | @tup a xs ea=>cases(show u=Value.ref a from rx);obtain⟨_,_,_,p⟩:=(show su X.prog X.w H s.heap a (.tup xs)from I.m8 a _ ea);obtain⟨o,h1,h2,_⟩:=p;exact gq W.kitx_tuple I.nA ⟨o,h1,h2⟩ e (λz=>nomatch z) h
 | @dK a kvs ea=>cases(show u=Value.ref a from rx);obtain⟨_,_,vs,_,p⟩:=(show su X.prog X.w H s.heap a (.dK kvs)from I.m8 a _ ea);obtain⟨o,es,ep,h1,h2,_⟩:=p;exact gq W.kitx_dict I.nA ⟨o,h1,h2.1⟩ e (λz=>nomatch z) h
 | @dT a kvs ea=>cases(show u=Value.ref a from rx);obtain⟨_,_,xs,_,o,es,ep,h1,h2,_⟩:=(show su X.prog X.w H s.heap a (.dT kvs)from I.m8 a _ ea);exact gq W.kitx_dict I.nA ⟨o,h1,h2.1⟩ e (λz=>nomatch z) h
 | @ins a C dx fs ea cl ha hn pC hm=>cases(show u=Value.ref a from rx);obtain⟨mA,O,_⟩:=BL I.m8 ea;obtain⟨od,J,_⟩:=O.look;exact gq (W.kitx_own (cl.get _) cl.hd ha hn pC hm) I.nA J e (λz=>nomatch z) h
end
structure sC(k:Nat)(A:Ar):Prop where
 hd:A.handled=Db
 dp:A.depth+3*k+5<recursionLimit
 un:A.units+16*k+200<X'
def sC.mono{j k:Nat}(r:sC k A)(h:j<=k):sC j A:=⟨r.hd,by have:=r.dp;lia,by have:=r.un;lia⟩
def sC.deeper{k:Nat}(r:sC (k+1) A)(env:Env):sC k (A.deeper env):=
 ⟨r.hd,by have:=r.dp;show A.depth+1+3*k+5<_;lia,by have:=r.un;show A.units+3+16*k+200<_;lia⟩
def HY{A:Ar}{C:Uf}{us:T0 Vl}{kw:T0 (Str×Vl)}:(A.under (.builtin "type.__call__" ⟨.ref C::us,kw⟩)).depth=A.depth+1:=by first|rfl|simp[Around.under,Code.weight,Code.isCreation,Code.isGuard,Code.isCaller,Code.frames,Code.isFrame,guardIds]
def Ii{A:Ar}{C:Uf}{us:T0 Vl}{kw:T0 (Str×Vl)}:(A.under (.builtin "type.__call__" ⟨.ref C::us,kw⟩)).units=A.units+1:=by first|rfl|simp[Around.under,Code.cUnits,Code.frames,Code.isFrame]
def sC.make{k:Nat}(r:sC (k+1) A)(C:Uf)(us:T0 Vl)(kw:T0 (Str×Vl)):sC k (A.under (.builtin "type.__call__" ⟨.ref C::us,kw⟩)):=
 ⟨r.hd,by have:=r.dp;rw[HY];lia,by have:=r.un;rw[Ii];lia⟩
def sC.depth(r:sC k A):A.depth<recursionLimit:=by have:=r.dp;lia
def sC.units(r:sC k A):A.units+64<X':=by have:=r.un;lia
def UN:TA:=λ_ H Q=>Q [] H
def Vu(ta:TE)(tr:TA):TA:=λY H Q=>ta Y H λx H1=>tr Y H1 λxs H2=>Q (x::xs) H2
variable {es:T0 Go}
section
variable {e:Go}{t:TA}
def Ua:PA X [] UN:=λ_ _ _ _ H Q I h=>iR ⟨[],H,I,.nil,h⟩
def Qq(ha:PE X e te)(hr:PA X es t)(hs:BF X e es:=by rfl):PA X (e::es) (Vu te t):=by intro pos XQ s Y H Q I h;rw[hs];show pi _ _ (spliced ((lf,wp e X.env)::xz pos (Tl es X.env))) _ _ s;refine iF (sS (ha XQ s Y H _ I h) λu s1 zz=>x5 zz λx H1 I1 r1 q1=>?_);exact sS (hr pos XQ s1 Y H1 _ I1 q1) λus s2 zz=>x5 zz λxs H2 I2 r2 q2=>⟨x::xs,H2,I2,.cons r1 r2,q2⟩
def W7(t:TA):TE:=λY H Q=>t Y H λxs H1=>xs.length<=Ch/\∀p,H1 p=Db->Q (.ref p) (upd H1 p (.tup xs))
def Wx(t:TA):TE:=λY H Q=>t Y H λxs H1=>xs.length<=Ch/\∀p,H1 p=Db->Q (.ref p) (upd H1 p (.lst xs))
def RZ{x1}(h:PA X es t):PE X (.Tuple es x1 pos) (W7 t):=by intro XQ s Y H Q I hq;refine wpAny_Tuple_spliced (sS (h pos XQ s Y H _ I hq) λus s1 ⟨xs,H1,I1,r,z,q⟩=>⟨by rw[<-r.length];exact z,?_⟩);have hf:H1 s1.heap.objs.size=Db:=I1.m8.fresh (dE _);refine⟨.ref s1.heap.objs.size,upd H1 s1.heap.objs.size (.tup xs),I1.laid (t':=s1.toks) (λb u e=>dz _ e) (dE _) ?_,Z',q _ hf⟩;exact⟨z,us,r,⟨_,dO _ Z',Z',⟨_,Z'⟩,Z'⟩⟩
def S0(h:PA X es t):PE X (.List es pos) (Wx t):=by intro XQ s Y H Q I hq;refine wpAny_List_spliced (sS (h pos XQ s Y H _ I hq) λus s1 ⟨xs,H1,I1,r,z,q⟩=>⟨by rw[<-r.length];exact z,?_⟩);have hf:H1 s1.heap.objs.size=Db:=I1.m8.fresh (dE _);refine⟨.ref s1.heap.objs.size,upd H1 s1.heap.objs.size (.lst xs),I1.laid (t':=s1.toks) (λb u e=>dz _ e) (dE _) ?_,Z',q _ hf⟩;exact⟨z,us,0,r,dO _ Z'⟩
end
abbrev Sp:=T0 V->Hp->VK->XK->Prop
abbrev Lo:=T0 Env->Hp->Sd->XK->Vl->Sd->Prop
structure HG(P:Pg)(w:Wo)(K:qC)(mg:QQZ)(base:No)(A:Ar)(outer:List Env)(s:Sd)(H:Hp):Prop where
 frames:A.frames=Fa outer
 mod:Mod K mg base
 bs:∀b o,base.get? b=Fa o->s.heap.get? b=Fa o/\H b=Db
 ow:base.objs.size<=s.heap.objs.size
 nO:s.heap.FunFrames base outer
 oC:∀b∈wD outer,H b=Db
 m8:yB P w H s.heap
 bare:XXk s.gens
def CE(outer:T0 Env)(P:Pg)(w:Wo)(H:Hp)(s:Sd)(Q:VK)(u:Vl)(s':Sd):Prop:=
 ∃v H',s'.os=s.os/\XXk s'.gens/\Un (wD outer) [] H H' s.heap s'.heap/\yB P w H' s'.heap/\qQ v u/\Q v H'
def CR(CX:Lo)(outer:T0 Env)(P:Pg)(w:Wo)(H:Hp)(s:Sd)(Q:VK)(E:XK)(r:Result)(s':Sd):Prop:=
 match r with
 | .ok (.ret u)=>CE outer P w H s Q u s'
 | .ok _=>False
 | .error e=>CX outer H s E e s'
structure xK(P:Pg)(w:Wo)(K:qC)(mg:QQZ)(base:No)(CX:Lo)(k:Nat)(f:Uf)(fd:Ix)(ps:QQQ)(sp:Sp):Prop where
 len:∀vs H Q E,sp vs H Q E->vs.length=ps.length
 run:∀(A:Ar) (outer:List Env) (s:Sd) (H:Hp) (args:Args) (us:List Vl) (vs:List V) (Q:VK) (E:XK),sC k A->HG P w K mg base A outer s H->BindsTo s fd args (ps.zip us)->qK vs us->sp vs H Q E->
  XXh (Tk P w) A (.call (.ref f) args) (CR CX outer P w H s Q E) s
def HG.make{K:qC}(e:HG P w K mg base A outer s H)(C:Uf)(us:T0 Vl)(kw:T0 (Str×Vl)):
  HG P w K mg base (A.under (.builtin "type.__call__" ⟨.ref C::us,kw⟩)) outer s H:=⟨by first|exact e.frames|(simpa [Around.under,Code.envs,Code.isFrame,pushEnvs]using e.frames),e.mod,e.bs,e.ow,e.nO,e.oC,e.m8,e.bare⟩
variable {s':Sd}
section
variable {Y:St}
def Inv.oA(I:Inv X XQ Y H s):HG X.prog X.w X.K X.mg X.base X.A X.stack s H:=
 ⟨I.ok.frames,I.ok.mod,I.bs,eE I.ok.ow I.sz,I.stack,I.nR,I.m8,I.bare⟩
def Inv.after{Q:VK}{u:Vl}(I:Inv X XQ Y H s)(h:CE X.stack X.prog X.w H s Q u s'):EP X XQ Y Q u s':=by obtain⟨v,H',os,bare,un,m8,r,q⟩:=h;obtain⟨hh,g,d,t,os'⟩:=s';obtain rfl:os'=s.os:=os;exact⟨v,H',I.call (h':=hh) (g':=g) (d':=d) (t':=t) (ch:=[]) un m8 bare (λb z=>absurd z (by simp)),r,q⟩
end
def Vv(sp:Sp)(YC:T0 V)(E:XK)(t:TA):TE:=λY H Q=>t Y H λvs H1=>sp (vs++YC) H1 Q E
def UF(C:Uf)(sp:Sp)(YC:T0 V)(E:XK)(t:TA):TE:=λY H Q=>t Y H λvs H1=>∀x dx,H1 x=Db->H1 dx=Db->dx≠x->
 sp (.ref x::(vs++YC)) (upd (upd H1 dx (.own x)) x (.ins C dx [])) (λv H2=>v=.mY/\Q (.ref x) H2) E
def vc(K:qC)(fd:Ix)(ps:QQQ)(ds:T0 Vl):Prop:=
 ∀(s:Sd) (us:T0 Vl),K.In s.heap->(us++ds).length=ps.length->BindsTo s fd ⟨us,[]⟩ (ps.zip (us++ds))
def vc.all{K:qC}{fd:Ix}{ps:QQQ}(h:∀us:T0 Vl,us.length=ps.length->bindArgs fd ⟨us,[]⟩=pure (ps.zip us)):vc K fd ps []:=λs us _ hl=>by rw[fk]at hl ⊢;exact .of_eq (h us hl)
def CK(CX:Lo)(X:Cx)(E:XK):Prop:=∀(XQ:QQY) (Y:St) (H:Hp) (s:Sd) (e:Vl) (s':Sd),Inv X XQ Y H s->CX X.stack H s E e s'->X.xe e s'
variable {CX:Lo}{k:Nat}{fd:Ix}{ps:QQQ}{sp:Sp}{YC:T0 V}{ds:T0 Vl}{m:Str}{p XW:Pos}
section
variable {f:Uf}{E:XK}{x:Str}{e o:Go}{t:TA}
def EF{XQ:QQY}{Q:VK}(F:xK X.prog X.w X.K X.mg X.base CX k f fd ps sp)(hr:sC k X.A)(hb:vc X.K fd ps ds)(hd:qK YC ds)(hx:CK CX X E) (I:Inv X XQ Y H s) (r:qK vs us) (h:sp (vs++YC) H Q E):pi (Tk X.prog X.w) X.A (call (.ref f) us) (EP X XQ Y Q) X.xe s:=by
 have r2:qK (vs++YC) (us++ds):=r.append hd;have hl:(us++ds).length=ps.length:=by rw[<-r2.length];exact F.len _ _ _ _ h
 refine h9 (gT (F.run X.A X.stack s H ⟨us,[]⟩ (us++ds) (vs++YC) Q E hr I.oA (hb s us I.nA hl) r2 h) λr s' hq=>?_);cases r with
 | error e=>exact hx XQ Y H s e s' I hq
 | ok fl=>
  cases fl with
  | ret u=>exact I.after hq
  | next=>exact False.elim hq
  | brk=>exact False.elim hq
  | cont=>exact False.elim hq
def QC(F:xK X.prog X.w X.K X.mg X.base CX k f fd ps sp)(hr:sC k X.A)(hg:Gl X x)(hm:X.mg x=Fa (.ref f))(hk:W.keepIn X.K (.ref f)=pc)(hb:vc X.K fd ps ds)(hd:qK YC ds)(hx:CK CX X E) (ha:PA X (e::es) t) (Yd:yI x:=by decide) (he:BF X e es:=by rfl) (X9:Dh X pos es:=by rfl):
  PE X (.Call (.Name x p) (e::es) [] pos) (Vv sp YC E t):=by
 intro XQ s Y H Q I h;refine fW (xf I hg hm ?_ Yd);refine jd (h₀:=X.base) I.ok.mod.oM hk (sS (ha pos XQ s Y H _ I h) λus s1 zz=>x5 zz λvs H1 I1 r q=>⟨I1.nA,?_⟩) he X9;exact EF F hr hb hd hx I1 r q
structure Mk(K:qC)(C f:Uf):Prop where
 makes:W.makesIn K C=pc
 init:W.findIn K (.ref C) "__init__"=Fa (Fa (.ref f))
 fn:W.isFn K (.ref f)=pc
 kp:W.keepIn K (.ref C)=pc
def LU{XQ:QQY}{Q:VK}(M:Mk X.K C f)(F:xK X.prog X.w X.K X.mg X.base CX k f fd ps sp)(hr:sC (k+1) X.A)(hb:vc X.K fd ps ds)(hd:qK YC ds) (hx:CK CX X E) (I:Inv X XQ Y H s) (r:qK vs us) (h:∀x dx,H x=Db->H dx=Db->dx≠x->sp (.ref x::(vs++YC)) (upd (upd H dx (.own x)) x (.ins C dx [])) (λv H2=>v=.mY/\Q (.ref x) H2) E):
  pi (Tk X.prog X.w) X.A (call (.ref C) us) (EP X XQ Y Q) X.xe s:=by
 have hq:=h (s.heap.objs.size+1) s.heap.objs.size (I.m8.fresh (ie _)) (I.m8.fresh (dE _)) (dP (fP _));have I2:=Inv.made (C:=C) I;have r2:qK (V.ref (s.heap.objs.size+1)::(vs++YC)) (Value.ref (s.heap.objs.size+1)::(us++ds)):=.cons Z' (r.append hd);have hl:(Value.ref (s.heap.objs.size+1)::us++ds).length=ps.length:=by have e:=r2.length;rw[F.len _ _ _ _ hq]at e;exact e.symm
 refine h9 (Nr (f:=f) I.nA M.makes M.init (fh.mp M.fn) (gT (F.run _ X.stack _ _ ⟨Value.ref (s.heap.objs.size+1)::us,[]⟩ (Value.ref (s.heap.objs.size+1)::(us++ds)) _ _ E (hr.make C us [])
  (I2.oA.make C us []) (hb _ (Value.ref (s.heap.objs.size+1)::us) I2.nA hl) r2 hq) λr s' Zw=>?_))
 cases r with
 | error e=>exact hx XQ Y _ _ e s' I2 Zw
 | ok fl=>
  cases fl with
  | ret u=>obtain⟨v,H',I3,rv,ev,q3⟩:=I2.after Zw;subst ev;exact⟨rv,⟨V.ref (s.heap.objs.size+1),H',I3,Z',q3⟩⟩
  | next=>exact False.elim Zw
  | brk=>exact False.elim Zw
  | cont=>exact False.elim Zw
def P3(M:Mk X.K C f)(F:xK X.prog X.w X.K X.mg X.base CX k f fd ps sp)(hr:sC (k+1) X.A)(hg:Gl X x)(hm:X.mg x=Fa (.ref C))(hb:vc X.K fd ps ds)(hd:qK YC ds)(hx:CK CX X E) (ha:PA X (e::es) t) (Yd:yI x:=by decide) (he:BF X e es:=by rfl) (X9:Dh X pos es:=by rfl):
  PE X (.Call (.Name x p) (e::es) [] pos) (UF C sp YC E t):=by
 intro XQ s Y H Q I h;refine fW (xf I hg hm ?_ Yd);refine jd (h₀:=X.base) I.ok.mod.oM M.kp (sS (ha pos XQ s Y H _ I h) λus s1 zz=>x5 zz λvs H1 I1 r q=>⟨I1.nA,?_⟩) he X9;exact LU M F hr hb hd hx I1 r q
end
variable {g:T0 Vl→T0 Vl→T0 Vl}{gV:T0 V→T0 V→T0 V}{ks:QQQ}{kpos:Pos}{kws:T0 XXc}{tk:TA}{nm:Option Str}
section
variable {f:Uf}{E:XK}{x:Str}{e o:Go}{t:TA}
end
structure tN(N P:QQQ)(sc:XXb):Prop where
 kind:sc.kind=.function
 co:sc.isCoroutine=lf
 gen:sc.isGenerator=lf
 nd:N.Nodup
 pre:N.take P.length=P
 par:∀x∈P,sc.names.lookup x=Fa .local\/sc.names.lookup x=Fa .cell
 pB:∀y∈sc.names,y.2≠.free
theorem Em{kindOf:Str->Option wS}{x:Str}:∀{binds:T0 (Str×Vl)} {m:QQZ},(∀v,(x,v)∉binds)->bindL kindOf binds m x=m x
 | [],_,_=>rfl
 | (n,v)::r,m,h=>by
  unfold bindL;rw[Em λw hw=>h w (dN _ hw)];split
  .have:x≠n:=by rintro rfl;exact h v dY
   simp[this]
  .rfl
theorem El{kindOf:Str->Option wS}{x:Str}:∀{binds:T0 (Str×Vl)} {m:QQZ},(∀v,(x,v)∉binds)->bindC kindOf binds m x=m x
 | [],_,_=>rfl
 | (n,v)::r,m,h=>by
  unfold bindC;rw[El λw hw=>h w (dN _ hw)];split
  .rfl
  .have:x≠n:=by rintro rfl;exact h v dY
   simp[this]
theorem Es{kindOf:Str->Option wS}{x:Str}{v:Vl}:∀{P:QQQ} {vs:T0 Vl} {i:Nat} {m:QQZ},P.Nodup->P[i]?=Fa x->vs[i]?=Fa v->kindOf x=Fa .local->
  bindL kindOf (P.zip vs) m x=Fa v
 | [],_,_,_,_,h,_,_=>by simp at h
 | _::_,[],_,_,_,_,h,_=>by simp at h
 | p::P,w::vs,0,m,nd,h1,h2,hk=>by simp at h1 h2;subst h1;subst h2;show bindL kindOf ((p,w)::P.zip vs) m p=_;unfold bindL;rw[Em λv hv=>(d6.mp nd).1 (kh hv).1,dw hk];simp
 | p::P,w::vs,i+1,m,nd,h1,h2,hk=>by show bindL kindOf ((p,w)::P.zip vs) m x=_;unfold bindL;exact Es (i:=i) (d6.mp nd).2 (by simpa using h1) (by simpa using h2) hk
theorem Ed{kindOf:Str->Option wS}{x:Str}{v:Vl}:∀{P:QQQ} {vs:T0 Vl} {i:Nat} {m:QQZ},P.Nodup->P[i]?=Fa x->vs[i]?=Fa v->kindOf x≠Fa .local->
  bindC kindOf (P.zip vs) m x=Fa v
 | [],_,_,_,_,h,_,_=>by simp at h
 | _::_,[],_,_,_,_,h,_=>by simp at h
 | p::P,w::vs,0,m,nd,h1,h2,hk=>by simp at h1 h2;subst h1;subst h2;show bindC kindOf ((p,w)::P.zip vs) m p=_;unfold bindC;rw[El λv hv=>(d6.mp nd).1 (kh hv).1,dh hk];simp
 | p::P,w::vs,i+1,m,nd,h1,h2,hk=>by show bindC kindOf ((p,w)::P.zip vs) m x=_;unfold bindC;exact Ed (i:=i) (d6.mp nd).2 (by simpa using h1) (by simpa using h2) hk
noncomputable def start(N:QQQ)(vs:T0 V):St:=vs.map Fa++List.replicate (N.length - vs.length) Db
noncomputable def vL(CX:Lo)(P:Pg)(w:Wo)(K:qC)(mg:QQZ)(base:No)(N:QQQ)(qual:Str)(scope:XXb)(f:Uf)(cd:Vl)(A:Ar)(outer:T0 Env)(s:Sd)(H:Hp)(E:XK):Cx where
 prog:=P
 w:=w
 K:=K
 mg:=mg
 base:=base
 A:=A.deeper (xL qual scope s.heap.objs.size f cd)
 N:=N
 s₀:=s
 H₀:=H
 env:=xL qual scope s.heap.objs.size f cd
 outer:=outer
 stack:=xL qual scope s.heap.objs.size f cd::outer
 ex:=[]
 calm:=true
 fn:=λ_=>pc
 pn:=[]
 xe:=λe s'=>pi (Tk P w) (A.deeper (xL qual scope s.heap.objs.size f cd)) (leaving (xL qual scope s.heap.objs.size f cd) e) (λ_ s''=>CX outer H s E e s'') (λe' s''=>CX outer H s E e' s'') s'
def G9{sc:XXb}{n:Nat}{x:Str}(h:sc.names.lookup x=Fa .cell):∃c,(cellsFrom n sc.names []).lookup x=Fa c:=by have q:=lZ sc.names n [] (.inl h);exact gw.mp q
def Lm{CX:Lo}{K:qC}{qual:Str}{f:Uf}{cd:Vl}{A:Ar}{E:XK}{vs:T0 V} (S:tN N ps scope) (hd:A.handled=Db) (e0:HG P w K mg base A outer s H) (hl:vs.length=ps.length) (r:qK vs us) (x:InCallC s s.heap.objs.size (bindL (xL qual scope s.heap.objs.size f cd).kindOf (ps.zip us) λ_=>Db) (cellsFrom (s.heap.objs.size+1) scope.names []) (bindC (xL qual scope s.heap.objs.size f cd).kindOf (ps.zip us) λ_=>Db) s1):
  Inv (vL CX P w K mg base N qual scope f cd A outer s H E) [] (start N vs) H s1:=by
 have X9:ps.length<=N.length:=by have:=eZ List.length S.pre;rw[fQ]at this;lia
 obtain⟨h1,tk,rfl,hk⟩:=x.done;have noA:∀b:Uf,b∉(vL CX P w K mg base N qual scope f cd A outer s H E).ex:=λb z=>absurd (show b∈([]:QXQ)from z) (by simp);refine⟨⟨e0.mod,S.kind,Z',Z',dE _,λy z c h1 h2=>?_,λy hy=>?_,λy c _ h=>?_,λ_=>hd,Around.frames_deeper e0.frames,.inr ⟨Z',Z'⟩,λb z=>absurd z (noA b),e0.bs,e0.ow,λb _ _=>noA b,λb z=>absurd z (noA b),e0.nO,e0.oC⟩,Z',e0.bare,Un.kept hk,⟨_,x.toInCall.ns,λi y v h1 h2 h3=>?_⟩,λy c h=>⟨_,x.cell y c h⟩,e0.m8.fresh (dE _),λy c h=>?_,λp hp=>absurd (show p∈([]:QQY)from hp) (by simp),e0.m8.kept hk,?_⟩
 .exact name_of_addr x.apart (gZ h1) (gZ h2)
 .have hy:scope.names.lookup y=Fa .cell\/scope.names.lookup y=Fa .free:=hy;rcases hy with hy|hy
  .exact G9 hy
  .exact absurd Z' (S.pB _ (gZ hy))
 .exact jT (x.above y c (gZ h))
 .have hi:i<vs.length:=by
   unfold start at h2;by_cases hi:i<vs.length
   .exact hi
   .rw[fj (by simpa using hi)]at h2;rw[kc]at h2;split at h2<;>cases h2
  have ha:vs[i]?=Fa v:=by
   unfold start at h2;rw[fm (by simpa using hi),dM]at h2;cases e:vs[i]? with
   | none=>rw[e]at h2;cases h2
   | some a=>rw[e]at h2;cases h2;rfl
  obtain⟨u,hu,rv⟩:=r.get ha;have hp:ps[i]?=Fa y:=by rw[<-S.pre,List.getElem?_take_of_lt (by lia)];exact h1
  have ndP:ps.Nodup:=by rw[<-S.pre];exact S.nd.sublist (List.take_sublist _ _)
  refine⟨u,rv,?_⟩;rcases S.par y (fD hp)with k|k
  .exact .inl ⟨k,Es ndP hp hu k⟩
  .obtain⟨c,e⟩:=G9 (n:=s.heap.objs.size+1) k;refine .inr ⟨.inl k,c,e,?_⟩;have q:=x.cell y c e;rw[Ed ndP hp hu (by show scope.names.lookup y≠_;rw[k];decide)]at q;exact q
 .exact e0.m8.fresh (jT (x.above y c (gZ h)))
 .unfold start;show _=N.length;rw[dq,de,ja];lia
def MY{CX:Lo}{P:Pg}{w:Wo}{K:qC}{mg:QQZ}{base:No}{f:Uf}{dV kV Yu pm X1 ct oc:Vl}{an od:Option Uf} {YK:Array (Option Vl)} {N ps:QQQ} {sp:Sp} (lk:K.lookup f=Fa ⟨oc,od,.func (W.fnOf name qual params body scope dV kV Yu pm an X1 ct),YK⟩) (Yl:W.codeIn K X1 qual=pc) (S:tN N ps scope) (len:∀vs H Q E,sp vs H Q E->vs.length=ps.length) (Yf:∀(A:Ar) (outer:T0 Env) (s:Sd) (H:Hp) (vs:T0 V) (Q:VK) (E:XK),sC k (A.deeper (xL qual scope s.heap.objs.size f X1))->sp vs H Q E->
   ∃t,Cq (vL CX P w K mg base N qual scope f X1 A outer s H E) body t/\t {nx:=λ_ H'=>Q .mY H',rt:=Q} (start N vs) H):
  xK P w K mg base CX (k+1) f (W.fnOf name qual params body scope dV kV Yu pm an X1 ct) ps sp:=by
 refine⟨len,λA outer s H args us vs Q E hr e0 hb r Zi=>?_⟩;have hl:=len _ _ _ _ Zi;have KX:K.In s.heap:=e0.mod.oM.keeps λb o e=>(e0.bs b o e).1;have lim:s.heap.NoLimit:=e0.mod.nolimit.keeps λb o e=>(e0.bs b o e).1;have hkind:∀y∈ps.zip us,scope.names.lookup y.1=Fa .local\/(scope.names.lookup y.1=Fa .cell/\((cellsFrom (s.heap.objs.size+1) scope.names []).lookup y.1).isSome=pc):=λ⟨n,v⟩ hy=>by
  rcases S.par n (kh hy).1 with q|q
  .exact .inl q
  .exact .inr ⟨q,lZ _ _ _ (.inl q)⟩
 refine codeAny_call_function hr.depth (KX _ _ lk) Z' S.co S.gen Z' (W.codeRec_of KX Yl) (hb _ _ _ _ ?_);refine wpAny_newFunctionEnv_cells S.kind hkind λenv he s1 x=>?_;subst he;refine⟨lim.keeps x.toInCall.keep,codeAny_func ?_⟩;obtain⟨t,ht,hq⟩:=Yf A outer s H vs Q E (hr.deeper _) Zi;have I:Inv (vL CX P w K mg base N qual scope f X1 A outer s H E) [] (start N vs) H s1:=Lm S hr.hd e0 hl r x;refine eJ (ht [] s1 (start N vs) H _ I hq) (λfl s' hs=>?_) λe s' hs=>hs;have XX:∀{σ':St} {H':Hp} {v:V} {u:Vl},Inv (vL CX P w K mg base N qual scope f X1 A outer s H E) [] σ' H' s'->qQ v u->Q v H'->CE outer P w H s Q u s':=
  λ{σ' H' v u} J rv q=>⟨v,H',J.os,J.bare,J.base,J.m8,rv,q⟩
 cases fl with
 | ret u=>obtain⟨v,σ',H',J,rv,q⟩:=hs;exact XX J rv q
 | next=>obtain⟨σ',H',J,q⟩:=hs;exact XX (v:=V.mY) (u:=Value.none) J Z' q
 | brk=>obtain⟨_,_,_,q⟩:=hs;exact False.elim q
 | cont=>obtain⟨_,_,_,q⟩:=hs;exact False.elim q
variable {id T:String}{r:T0 V→Hp→VK→Prop}
section
variable {x:Str}{e:Go}{t:TA}
def Xq(r:T0 V->Hp->VK->Prop)(t:TA):TE:=λY H Q=>t Y H λvs H1=>r vs H1 Q
def LP(hc:yJ X (.builtin id) r)(hg:Gl X x)(hm:X.mg x=Db)(hv:zn x=Fa (.builtin id))(ha:PA X (e::es) t)(hn:x≠"__name__":=by decide)(Yd:yI x:=by decide)
  (he:BF X e es:=by rfl) (X9:Dh X pos es:=by rfl):PE X (.Call (.Name x p) (e::es) [] pos) (Xq r t):=by
 intro XQ s Y H Q I h;refine fW (xj I hg hm hv ?_ hn Yd);exact ia (sS (ha pos XQ s Y H _ I h) λus s1 zz=>x5 zz λvs H1 I1 r1 q1=>hc XQ s1 Y H1 vs us Q I1 r1 q1) he X9
def Li(hc:yJ X (.type T) r)(hg:Gl X x)(hm:X.mg x=Db)(hv:zn x=Fa (.type T))(ha:PA X (e::es) t)(hn:x≠"__name__":=by decide)(Yd:yI x:=by decide)
  (he:BF X e es:=by rfl) (X9:Dh X pos es:=by rfl):PE X (.Call (.Name x p) (e::es) [] pos) (Xq r t):=by
 intro XQ s Y H Q I h;refine fW (xj I hg hm hv ?_ hn Yd);exact gb (sS (ha pos XQ s Y H _ I h) λus s1 zz=>x5 zz λvs H1 I1 r1 q1=>hc XQ s1 Y H1 vs us Q I1 r1 q1) he X9
end
end L2
namespace HT
open PySem PyProof.Rows
section
open PySem.SeqAt
open PySem.AutoSeq1 (wpAny_loadPart')
open PySem.MeetsSeq PySem.MeetsSeq2 PySem.MeetsSeq3
end
variable {prog:Pg}{w:Wo}{A:Ar}{E:QQX}{s:Sd}
def QR{vs ws:T0 Vl}{Q:QQX}(ht:IsTup s.heap t vs.toArray)(hb:IsTup s.heap b ws.toArray)(hv:vs≠[]) (h1:ws=[]->Q (.ref t) s) (h2:ws≠[]->Q (.ref s.heap.objs.size) {s with heap:=s.heap.push {cls:=.type "tuple",data:=.seq (vs++ws).toArray}})
  (hsz:vs.length+ws.length<=Ch):pi (Tk prog w) A (sK .Add (.ref t) (.ref b)) Q E s:=by
 obtain⟨⟨cls,dd,data,sl⟩,ho,hc,n,hd⟩:=id ht;obtain⟨⟨cls2,dd2,data2,sl2⟩,ho2,hc2,n2,hd2⟩:=id hb;simp only at hc hd hc2 hd2;subst hc hd hc2 hd2;have e:vs.toArray++ws.toArray=(vs++ws).toArray:=by simp
 by_cases hw:ws=[]
 .exact ly ⟨_,ho,Z'⟩ ⟨_,ho2,Z'⟩ l0 seq_tuple_add ku ke (jV _ _)
   (tuple_addW1 t b vs.toArray ws.toArray n n2 dd dd2 sl sl2 (by simpa using hv) (by simp[hw])) ⟨ho,ho2,h1 hw⟩
 .refine ly ⟨_,ho,Z'⟩ ⟨_,ho2,Z'⟩ l0 seq_tuple_add ku ke (jV _ _)
   (tuple_addW2 t b vs.toArray ws.toArray n n2 dd dd2 sl sl2 (by simpa using hv) (by simpa using hw) (by rw[dF,dF];exact hsz)) ⟨ho,ho2,?_⟩
  rw[e];exact h2 hw
noncomputable def tQ(n d:Nat):Option Int->Nat
 | none=>d
 | some v=>if v<0 then(v+(n:Int)).toNat else min v.toNat n
def Dc(n d:Nat):tQ n d Db=d:=rfl
def Jd(n d k:Nat):tQ n d (Fa (k:Int))=min k n:=by show(if (k:Int)<0 then((k:Int)+(n:Int)).toNat else min (k:Int).toNat n)=min k n;rw[dh (by lia),jG]
def Tx(n d:Nat)(hd:d<=n)(o:Option Int):tQ n d o<=n:=by
 cases o with
 | none=>exact hd
 | some v=>
  show(if v<0 then(v+(n:Int)).toNat else min v.toNat n)<=n;by_cases hv:v<0
  .rw[dw hv];lia
  .rw[dh hv];exact Nat.min_le_right _ _
def JJ(v:Int)(n d:Nat):(if v<0 then max (v+(n:Int)) 0 else min v (n:Int))=((tQ n d (Fa v):Nat):Int):=by
 show(if v<0 then max (v+(n:Int)) 0 else min v (n:Int))=(((if v<0 then(v+(n:Int)).toNat else min v.toNat n):Nat):Int);by_cases hv:v<0
 .simp only[dw hv];lia
 .simp only[dh hv];lia
def HH(lo hi:Option Int)(n:Nat):Builtin.Slice.sliceAdjust lo hi 1 (n:Int)=(((tQ n 0 lo:Nat):Int),((tQ n n hi:Nat):Int)):=by
 have h1:¬((1:Int)<0):=by lia
 unfold Builtin.Slice.sliceAdjust;simp only[h1,ju];refine mF ?_ ?_
 .cases lo with
  | none=>rfl
  | some v=>exact JJ v n 0
 .cases hi with
  | none=>rfl
  | some v=>exact JJ v n n
def IT(i j:Nat):Builtin.Slice.slicePlaces (i:Int) (j:Int) 1=j - i:=by
 unfold Builtin.Slice.slicePlaces;have h1:(1:Int)>0:=by lia
 simp only[h1,jv,Int.ediv_one];split<;>lia
def CM{Q:Option Int->Sd->Prop}(p:IsPart v o)(h:Q o s):pi (Tk prog w) A (Builtin.Slice.slicePartIndex v) Q E s:=by
 cases p with
 | none=>exact slicePart_none h
 | int i t=>exact slicePart_int h
def wI{sl:Uf}{vl vu:Vl}{lo hi:Option Int}{Q:Int×Int×Nat->Sd->Prop}(hs:s.heap.IsSliceOf sl vl vu .none)(pl:IsPart vl lo)(pu:IsPart vu hi) (h:Q (((tQ n 0 lo:Nat):Int),1,tQ n n hi - tQ n 0 lo) s):pi (Tk prog w) A (Builtin.Slice.sliceApplied (.ref sl) (pure (n:Int))) Q E s:=by
 obtain⟨os,hos,hcs,Y2⟩:=id hs;unfold Builtin.Slice.sliceApplied Builtin.Slice.sliceFields;refine df (df (fz hos Y2 (x:=vl) Z' (df (fz hos Y2 (x:=vu) Z' (df (fz hos Y2 (x:=.none) Z' (dA ?_)))))));refine df (slicePart_none ?_);show pi _ _ (if ((1:Int)==0)=pc then _ else _) _ _ s;rw[dh (by decide)];refine df (CM pl (df (CM pu (df (dA ?_)))));show pi _ _ (match Builtin.Slice.sliceAdjust lo hi 1 (n:Int)with|(lo,hi)=>pure (lo,(1:Int),Builtin.Slice.slicePlaces lo hi 1)) _ _ s;rw[HH lo hi n];show pi _ _ (pure (((tQ n 0 lo:Nat):Int),(1:Int),Builtin.Slice.slicePlaces ((tQ n 0 lo:Nat):Int) ((tQ n n hi:Nat):Int) 1)) _ _ s;rw[IT];exact dA h
def Mq(xs:Array Vl)(i k:Nat):((List.range k).filterMap λ(m:Nat)=>xs[((i:Int)+(m:Int)*1).toNat]?).toArray=((xs.toList.drop i).take k).toArray:=by
 have e:(λ(m:Nat)=>xs[((i:Int)+(m:Int)*1).toNat]?)=λm=>xs[i+m]?:=by
  funext m;have:((i:Int)+(m:Int)*1).toNat=i+m:=by lia
  rw[this]
 rw[e];have:=pick_run xs i k;rw[List.filterMap_map]at this;have e2:((λx=>xs[x]?)∘λx=>i+x)=λm=>xs[i+m]?:=rfl;rw[e2]at this;rw[this]
def zH{t sl:Uf}{vl vu:Vl}{lo hi:Option Int}{Q:QQX}(ht:IsTup s.heap t XS)(hs:s.heap.IsSliceOf sl vl vu .none)(pl:IsPart vl lo)(pu:IsPart vu hi) (hw:¬(tQ XS.size 0 lo=0/\tQ XS.size XS.size hi=XS.size)) (h:Q (.ref s.heap.objs.size) {s with heap:=s.heap.push {cls:=.type "tuple",data:=.seq ((XS.toList.drop (tQ XS.size 0 lo)).take (tQ XS.size XS.size hi - tQ XS.size 0 lo)).toArray}})
  (hsz:XS.size<=Ch):pi (Tk prog w) A (XXd (.ref t) (.ref sl)) Q E s:=by
 have Zc:sizeOk (.seq ((XS.toList.drop (tQ XS.size 0 lo)).take (tQ XS.size XS.size hi - tQ XS.size 0 lo)).toArray):=by show((XS.toList.drop (tQ XS.size 0 lo)).take (tQ XS.size XS.size hi - tQ XS.size 0 lo)).toArray.size<=Ch;rw[dF,fQ,gm,iA];lia
 have hj:tQ XS.size XS.size hi<=XS.size:=Tx _ _ (dE _) hi;obtain⟨os,hos,hcs,Y2⟩:=id hs;have hTs:s.TypeIs (.ref sl) "slice":=⟨os,hos,hcs⟩;unfold XXd
 try with_reducible refine eD ?_
 first|refine df (dA ?_)|skip
 refine df (jI ht.typeIs (by decide) ?_);refine df (fO (name:=Str.ofString "__getitem__") ht.typeIs fH
  (fX fH ht.typeIs kX ?_ (lz _ _)))
 show pi _ _ (Builtin.Tuple.tupleItemsOf (.ref t)>>=_) _ _ s;refine df (tupleItemsOf_ ht ?_);refine df (jW hTs ?_);rw[dw (by decide)];refine df (wI hs pl pu ?_);have hno:¬((((tQ XS.size 0 lo:Nat):Int)==0&&(1:Int)==1&&(tQ XS.size XS.size hi - tQ XS.size 0 lo)==XS.size)=pc):=by intro q;rw[d9,d9]at q;have q1:((tQ XS.size 0 lo:Nat):Int)=0:=wE q.1.1;have q2:tQ XS.size XS.size hi - tQ XS.size 0 lo=XS.size:=wE q.2;exact hw ⟨by lia,by lia⟩
 show pi _ _ (if (((tQ XS.size 0 lo:Nat):Int)==0&&(1:Int)==1&&(tQ XS.size XS.size hi - tQ XS.size 0 lo)==XS.size)=pc then _ else _) _ _ s;rw[dh hno,Mq]
 first
  | exact df (m:=Builtin.Tuple.tupleExact _) (fZ (dA ⟨_,rfl,dA h⟩) Zc)
  | exact df (m:=Builtin.Tuple.tupleExact _) (fZ (df (dA (dA ⟨_,rfl,dA h⟩))) Zc)
  | exact df (df (m:=Builtin.Tuple.tupleExact _) (fZ (dA (dA ⟨_,rfl,dA h⟩)) Zc))
  | exact df (df (m:=Builtin.Tuple.tupleExact _) (fZ (dA ⟨_,rfl,dA h⟩) Zc))
end HT
namespace L2
abbrev TO:=St->Hp->(Option Int->Hp->Prop)->Prop
def PO(X:Cx)(e:Option Go)(t:TO):Prop:=
 ∀(XQ:QQY) (s:Sd) (Y:St) (H:Hp) (Q:Option Int->Hp->Prop),Inv X XQ Y H s->t Y H Q->
  pi (Tk X.prog X.w) X.A (evalPart e X.env) (λu s'=>∃o H',Inv X XQ Y H' s'/\IsPart u o/\Q o H') X.xe s
def Qn:TO:=λ_ H Q=>Q Db H
def UZ(t:TE):TO:=λY H Q=>t Y H λx H1=>∃i,x=.int i/\Q (Fa i) H1
variable {X:Cx}{e:Go}{te:TE}{lo hi:Option Go}{tl th:TO}{pos p2:Pos}
def QA:PO X Db Qn:=by intro XQ s Y H Q I h;rw[evalPart_none];exact dA ⟨Db,H,I,.none,h⟩
def O5(h:PE X e te):PO X (Fa e) (UZ te):=by intro XQ s Y H Q I hw;rw[evalPart_some];refine sS (h XQ s Y H _ I hw) λu s1 zz=>x5 zz λx H1 I1 r1 q1=>?_;obtain⟨i,rfl,q⟩:=q1;obtain⟨t,rfl⟩:=r1;exact⟨Fa i,H1,I1,.int i t,q⟩
def Va(X:Cx)(r:V->Option Int->Option Int->Hp->VK->Prop):Prop:=
 ∀(XQ:QQY) (s:Sd) (Y:St) (H:Hp) (x:V) (v vl vu:Vl) (lo hi:Option Int) (sl:Uf) (Q:VK),Inv X XQ Y H s->qQ x v->s.heap.IsSliceOf sl vl vu .none->IsPart vl lo->IsPart vu hi->r x lo hi H Q->
  ∃T id,typeLookup (.type T) "__getitem__"=pure (Fa (.builtin id))/\s.TypeIs v T/\pi (Tk X.prog X.w) X.A (XXd v (.ref sl)) (EP X XQ Y Q) X.xe s
def Xx(r:V->Option Int->Option Int->Hp->VK->Prop)(te:TE)(tl th:TO):TE:=λY H Q=>te Y H λx H1=>tl Y H1 λl H2=>th Y H2 λu H3=>r x l u H3 Q
def MP(hr:Va X r)(he:PE X e te)(hl:PO X lo tl)(hu:PO X hi th):PE X (.Subscript e (.Slice lo hi Db p2) pos) (Xx r te tl th):=by intro XQ s Y H Q I h;refine Subscript_ (sS (he XQ s Y H _ I h) λv s1 zz=>x5 zz λx H1 I1 r1 q1=>?_);refine wpAny_Slice (sS (hl XQ s1 Y H1 _ I1 q1) λvl s2 zz=>x5 zz λl H2 I2 pl q2=>sS (hu XQ s2 Y H2 _ I2 q2) λvu s3 zz=>x5 zz λu H3 I3 pu q3=>?_);rw[evalPart_none];refine dA ?_;have I4:Inv X XQ Y H3 {s3 with heap:=s3.heap.push {cls:=.type "slice",data:=.fields #[vl,vu,.none]}}:=I3.kept (t':=s3.toks) λb ob q=>dz _ q;obtain⟨T,id,hT,ht,hg⟩:=hr XQ {s3 with heap:=s3.heap.push {cls:=.type "slice",data:=.fields #[vl,vu,.none]}} Y H3 x v vl vu l u s3.heap.objs.size Q I4 r1 (mR ..) pl pu q3;show pi (Tk X.prog X.w) X.A (subscriptTail e (.Slice lo hi Db p2) v (.ref s3.heap.objs.size)) (EP X XQ Y Q) X.xe {s3 with heap:=s3.heap.push {cls:=.type "slice",data:=.fields #[vl,vu,.none]}};exact tail_any (ops:=[.ref s3.heap.objs.size,v]) ht hT hg (by with_unfolding_all rfl)
noncomputable def CQ(xs:T0 V)(lo hi:Option Int):T0 V:=(xs.drop (HT.tQ xs.length 0 lo)).take (HT.tQ xs.length xs.length hi - HT.tQ xs.length 0 lo)
def AU(xs:T0 V)(lo hi:Option Int):(CQ xs lo hi).length<=xs.length:=by unfold CQ;rw[fQ,gm];lia
def Wl(K:qC):V->Option Int->Option Int->Hp->VK->Prop:=λx lo hi H Q=>∃a xs,x=.ref a/\vn K H a xs/\
 ¬(HT.tQ xs.length 0 lo=0/\HT.tQ xs.length xs.length hi=xs.length)/\∀p,H p=Db->Q (.ref p) (upd H p (.tup (CQ xs lo hi)))
def TM:Va X (Wl X.K):=by
 intro XQ s Y H x v vl vu lo hi sl Q I rx hs pl pu h;obtain⟨a,xs,rfl,hx,hw,q⟩:=h;cases rx;obtain⟨its,r,ht,hz⟩:=I.tuple hx;have XY:its.toArray.size=xs.length:=by rw[dF];exact r.length.symm
 refine⟨"tuple",_,fH.lookup,ht.typeIs,?_⟩;refine HT.zH ht hs pl pu (by rw[XY];exact hw) ?_ (by rw[XY];exact hz);rw[XY];refine⟨.ref s.heap.objs.size,_,I.laid (t':=s.toks) (o:=.tup (CQ xs lo hi)) (λb ob q=>dz _ q) (dE _) ?_,Z',q _ (I.m8.fresh (dE _))⟩;exact⟨eE (AU xs lo hi) hz,_,(r.drop (HT.tQ xs.length 0 lo)).take (HT.tQ xs.length xs.length hi - HT.tQ xs.length 0 lo),E8.new _ _⟩
def UW(K:qC):R2:=λx y H Q=>∃a b xs ys,x=.ref a/\y=.ref b/\vn K H a xs/\vn K H b ys/\xs≠[]/\xs.length+ys.length<=Ch/\
 (ys=[]->Q (.ref a) H)/\(ys≠[]->∀p,H p=Db->Q (.ref p) (upd H p (.tup (xs++ys))))
def qK.nY(r:qK xs us):us=[]↔xs=[]:=by
 cases r with
 | nil=>simp
 | cons _ _=>simp
def QW:xI X (sK .Add) (UW X.K):=by intro XQ s Y H x y v u Q I rx ry h;obtain⟨a,b,xs,ys,rfl,rfl,ha,hb,hx,hz,q1,q2⟩:=h;cases rx;cases ry;obtain⟨its,r1,p1,_⟩:=I.tuple ha;obtain⟨its2,r2,p2,_⟩:=I.tuple hb;refine HT.QR p1 p2 (λz=>hx (r1.nY.mp z)) (λz=>⟨.ref a,H,I,Z',q1 (r2.nY.mp z)⟩) (λz=>?_) (by rw[<-r1.length,<-r2.length];exact hz);refine⟨.ref s.heap.objs.size,_,I.laid (t':=s.toks) (o:=.tup (xs++ys)) (λb ob q=>dz _ q) (dE _) ?_,Z',q2 (λw=>z (r2.nY.mpr w)) _ (I.m8.fresh (dE _))⟩;exact⟨by rw[dq];exact hz,_,r1.append r2,E8.new _ _⟩
noncomputable def GT(n:Nat)(i:Int):Option Nat:=if 0<=i then(if i<n then Fa i.toNat else Db)else if -(n:Int)<=i then Fa (i+n).toNat else Db
noncomputable def wO{α:Type}(xs:List α)(i:Int):Option α:=(GT xs.length i).bind λj=>xs[j]?
def Jx{j:Nat}(h:GT n i=Fa j):seqIndex? i n=Fa j/\j<n/\-(n:Int)<=i/\i<n:=by
 unfold GT at h;by_cases h0:0<=i
 .rw[dw h0]at h;by_cases h1:i<n
  .rw[dw h1]at h;have e:i.toNat=j:=dD h;exact⟨by rw[lQ h0 h1,e],by lia,by lia,h1⟩
  .rw[dh h1]at h;cases h
 .rw[dh h0]at h;by_cases h1:-(n:Int)<=i
  .rw[dw h1]at h;have e:(i+n).toNat=j:=dD h;exact⟨by rw[lA (by lia) h1,e],by lia,h1,by lia⟩
  .rw[dh h1]at h;cases h
def ET{α:Type}{xs:List α}{i:Int}{v:α}(h:wO xs i=Fa v):∃j,seqIndex? i xs.length=Fa j/\xs[j]?=Fa v/\j<xs.length/\-(xs.length:Int)<=i/\i<xs.length:=by
 unfold wO at h;cases e:GT xs.length i with
 | none=>rw[e]at h;cases h
 | some j=>rw[e]at h;obtain⟨h1,h2,h3,h4⟩:=Jx e;exact⟨j,h1,h,h2,h3,h4⟩
def u9{α:Type}{xs:List α}{j:Nat}{v:α}(h:xs[j]?=Fa v):wO xs (j:Int)=Fa v:=by
 have hj:j<xs.length:=(dv.mp h).1;have e:GT xs.length (j:Int)=Fa j:=by unfold GT;rw[dw (by lia),dw (by lia)];simp
 unfold wO;rw[e];exact h
def BM(b:Go):Prop:=∀o i,subscripted b lf o i=operate [o,i] (XXd o i)
def Ui(X:Cx)(r:R2):Prop:=
 ∀(value X4:Go) (XQ:QQY) (s:Sd) (Y:St) (H:Hp) (x y:V) (v u:Vl) (Q:VK),Inv X XQ Y H s->qQ x v->qQ y u->r x y H Q->
  subscripted X4 lf v u=operate [v,u] (XXd v u)->pi (Tk X.prog X.w) X.A (subscriptTail value X4 v u) (EP X XQ Y Q) X.xe s
def Xt(X:Cx)(id:String)(r:V->T0 V->Hp->VK->Prop):Prop:=
 ∀(XQ:QQY) (s:Sd) (Y:St) (H:Hp) (x:V) (xs:T0 V) (v:Vl) (us:T0 Vl) (Q:VK),Inv X XQ Y H s->qQ x v->qK xs us->r x xs H Q->
  pi (Tk X.prog X.w) X.A (call (.builtin id) (v::us)) (EP X XQ Y Q) X.xe s
variable {o:Go}{es:T0 Go}{to:TE}{t:TA}{name:Str}{XW XZ:Pos}{T id:String}{r:V→T0 V→Hp→VK→Prop}{a:Go}{ta tb:TE}
section
variable {b:Go}
def LA{r:R2}(hr:Ui X r)(ha:PE X a ta)(hb:PE X b tb)(hs:BM b):PE X (.Subscript a b pos) (UO r ta tb):=by intro XQ s Y H Q I h;exact Subscript_ (Sh ha hb I h λv u s2 x y H2 I2 rx ry q=>hr a b XQ s2 Y H2 x y v u Q I2 rx ry q (hs _ _))
def WN(K:qC):R2:=λx y H Q=>∃p xs i v,x=.ref p/\y=.int i/\zj K H p xs/\wO xs i=Fa v/\Q v H
def W2(K:qC):R2:=λx y H Q=>∃p xs i v,x=.ref p/\y=.int i/\vn K H p xs/\wO xs i=Fa v/\Q v H
def WK:R2:=λx y H Q=>∃z i c,x=.str z/\y=.int i/\z.length<=Ch/\wO z.cps.toList i=Fa c/\Q (.str ⟨#[c]⟩) H
def I9:Ui X (WN X.K):=by
 intro value X4 XQ s Y H x y v u Q I rx ry h hs;obtain⟨p,xs,i,z,rfl,rfl,hq,he,q⟩:=h;cases rx;obtain⟨t,rfl⟩:=ry;obtain⟨its,r,pl,hz⟩:=I.list hq;obtain⟨j,h1,h2,h3,h4,h5⟩:=ET he;obtain⟨w,ew,ZV⟩:=r.get h2;have hl:=r.length;have hn:=yO;have XX:EP X XQ Y Q w s:=⟨z,H,I,ZV,q⟩;by_cases h0:0<=i
 .have hj:i.toNat=j:=by rw[lQ h0 h5]at h1;exact dD h1
  exact item_listR pl.isList h0 (by lia) (by rw[hj];simpa using ew) XX hs
 .have hj:(i+(its.toArray.size:Int)).toNat=j:=by rw[lA (by lia) h4]at h1;rw[dF,<-hl];exact dD h1
  exact kx (x:=w) pl.isList.typeIs lJ.lookup
   (wpAny_getItem_list_neg (Q:=λr s'=>r=w/\EP X XQ Y Q r s') pl.isList (by lia) (by rw[dF]<;>lia) (by lia) (by rw[hj];simpa using ew) ⟨Z',XX⟩) hs
def Sw:Ui X (W2 X.K):=by
 intro value X4 XQ s Y H x y v u Q I rx ry h hs;obtain⟨p,xs,i,z,rfl,rfl,hq,he,q⟩:=h;cases rx;obtain⟨t,rfl⟩:=ry;obtain⟨its,r,pl,hz⟩:=I.tuple hq;obtain⟨j,h1,h2,h3,h4,h5⟩:=ET he;obtain⟨w,ew,ZV⟩:=r.get h2;have hl:=r.length;have hn:=yO;have XX:EP X XQ Y Q w s:=⟨z,H,I,ZV,q⟩;exact kx (x:=w) pl.typeIs slot_tuple_getitem.lookup
  (getItem_tuple (j:=j) (Q:=λr s'=>r=w/\EP X XQ Y Q r s') pl (by lia) (by lia) (by rw[dF,<-hl];exact h1) (by simpa using ew) ⟨Z',XX⟩) hs
def SE:Ui X WK:=by
 intro value X4 XQ s Y H x y v u Q I rx ry h hs;obtain⟨z,i,c,rfl,rfl,hz,he,q⟩:=h;obtain⟨t,rfl⟩:=rx;obtain⟨t',rfl⟩:=ry;obtain⟨j,h1,h2,h3,h4,h5⟩:=ET he;have hl:z.cps.toList.length=z.length:=by simp[Str.length]
 rw[hl]at h1 h4 h5;have hn:=yO;exact tail_any (typeIs_str s z t) slot_str_getitem.lookup (getItem_str (c:=c) (by
  have e1:decide (i< -(2 ^ 63:Int))=lf:=e9 (by lia);have e2:decide (i>=2 ^ 63)=lf:=e9 (by lia);rw[e1,e2,gy]) (by rw[h1];simpa using h2) ⟨.str ⟨#[c]⟩,H,I.tok _,⟨_,Z'⟩,q⟩) hs
def Ip(its:T0 Vl)(n j:Nat)(u:Vl):Obj.mapSeq (·.setIfInBounds j u) {cls:=.type "list",data:=.seq its.toArray n}={cls:=.type "list",data:=.seq (its.set j u).toArray n}:=by simp[Obj.mapSeq]
def Inv.lst{p:Uf}{xs:T0 V}(I:Inv X XQ Y H s)(h:H p=Fa (.lst xs)):
  ∃(its:T0 Vl) (n:Nat),qK xs its/\s.heap.get? p=Fa {cls:=.type "list",data:=.seq its.toArray n}/\xs.length<=Ch:=by
 obtain⟨z,its,n,r,e⟩:=I.m8 p _ h;exact⟨its,n,r,e,z⟩
def Inv.oJ{p:Uf}{xs ys:T0 V}{its its':T0 Vl}{n n':Nat}{f:Obj->Obj}(I:Inv X XQ Y H s)(h:H p=Fa (.lst xs)) (ho:s.heap.get? p=Fa {cls:=.type "list",data:=.seq its.toArray n}) (hf:f {cls:=.type "list",data:=.seq its.toArray n}={cls:=.type "list",data:=.seq its'.toArray n'}) (r:qK ys its') (hz:ys.length<=Ch) (t:Nat):
  Inv X XQ Y (upd H p (.lst ys)) {s with heap:=s.heap.update p f,toks:=t}:=by
 have e:(s.heap.update p f).get? p=Fa {cls:=.type "list",data:=.seq its'.toArray n'}:=by rw[fL f ho (by rw[hf]<;>rfl),hf]
 refine I.write (x:=p) (e:=p) (by rw[h];trivial) (.inl Z') (λb u hb q=>(gi _ _ (dW hb)).trans q) ⟨_,e⟩ ?_;exact⟨hz,its',n',r,e⟩
def UE:V->V->V->Hp->(Hp->Prop)->Prop:=λo i v H Q=>∃p xs k j,o=.ref p/\i=.int k/\H p=Fa (.lst xs)/\GT xs.length k=Fa j/\Q (upd H p (.lst (xs.set j v)))
def L9:VV X UE:=by
 intro XQ s Y H o i v ov iv u Q I ro ri rv h;obtain⟨p,xs,k,j,rfl,rfl,hp,hj,q⟩:=h;cases ro;obtain⟨t,rfl⟩:=ri;obtain⟨its,n,r,ho,hz⟩:=I.lst hp;obtain⟨h1,h2,h3,h4⟩:=Jx hj;have hl:=r.length;have hn:=yO;have I':Inv X XQ Y (upd H p (.lst (xs.set j v))) {s with heap:=s.heap.update p (Obj.mapSeq (·.setIfInBounds j u))}:=
  I.oJ hp ho (Ip its n j u) (r.set rv j) (by rw[iB];exact hz) s.toks
 by_cases h0:0<=k
 .have hk:k.toNat=j:=by rw[lQ h0 h4]at h1;exact dD h1
  exact W.ki_setAt ho h0 (by lia) (by rw[dF,<-hl];exact h4) (by rw[hk];exact⟨_,I',q⟩)
 .have hk:(k+(its.toArray.size:Int)).toNat=j:=by rw[lA (by lia) h3]at h1;rw[dF,<-hl];exact dD h1
  exact W.ki_setBack ho (by lia) (by rw[dF,<-hl];exact h3) (by lia) (by rw[hk];exact⟨_,I',q⟩)
def Fx(lo hi:Option Int)(n:Nat):(XXe lo hi Db n).1=((HT.tQ n 0 lo:Nat):Int)/\(XXe lo hi Db n).2.1=((HT.tQ n n hi:Nat):Int)/\(XXe lo hi Db n).2.2=1:=by
 refine⟨?_,?_,Z'⟩
 .cases lo with
  | none=>simp[XXe,HT.tQ]
  | some i=>
   simp only[XXe,HT.tQ,l8,show(1:Int)>0 by decide,jv];by_cases h:i<0
   .simp only[h,jv]<;>lia
   .simp only[h,ju]<;>lia
 .cases hi with
  | none=>simp[XXe,HT.tQ]
  | some i=>
   simp only[XXe,HT.tQ,l8,show(1:Int)>0 by decide,jv];by_cases h:i<0
   .simp only[h,jv]<;>lia
   .simp only[h,ju]<;>lia
def DH(its:T0 Vl)(lo hi:Option Int):slicePick its.toArray lo hi Db=((its.drop (HT.tQ its.length 0 lo)).take (HT.tQ its.length its.length hi - HT.tQ its.length 0 lo)).toArray:=by obtain⟨h1,h2,h3⟩:=Fx lo hi its.toArray.size;unfold slicePick;rw[h1,h2,h3];simp only[sliceRange_one,pick_run,dF]<;>rfl
def Xe(K:qC):V->Option Int->Option Int->Hp->VK->Prop:=λx lo hi H Q=>∃a xs,x=.ref a/\zj K H a xs/\∀p,H p=Db->Q (.ref p) (upd H p (.lst (CQ xs lo hi)))
def JP:Va X (Xe X.K):=by intro XQ s Y H x v vl vu lo hi sl Q I rx hs pl pu h;obtain⟨a,xs,rfl,hx,q⟩:=h;cases rx;obtain⟨its,r,ht,hz⟩:=I.list hx;have XY:=r.length;refine⟨"list",_,lJ.lookup,ht.isList.typeIs,?_⟩;refine wpAny_getItem_list_slice ht.isList hs pl pu .none (by simp) ?_ (by rw[dF]<;>lia);rw[DH,<-XY];refine⟨.ref s.heap.objs.size,_,I.laid (t':=s.toks) (o:=.lst (CQ xs lo hi)) (λb ob q=>dz _ q) (dE _) ?_,Z',q _ (I.m8.fresh (dE _))⟩;exact⟨eE (AU xs lo hi) hz,_,0,(r.drop (HT.tQ xs.length 0 lo)).take (HT.tQ xs.length xs.length hi - HT.tQ xs.length 0 lo),dO _ Z'⟩
noncomputable def yL:V->Bool
 | .mY=>pc
 | .bl _=>pc
 | .int _=>pc
 | .str _=>pc
 | _=>lf
noncomputable def OB:V->V->Bool
 | .mY,.mY=>pc
 | .bl a,.bl b=>a==b
 | .bl a,.int b=>(if a then 1 else 0)==b
 | .int a,.bl b=>a==(if b then 1 else 0)
 | .int a,.int b=>a==b
 | .str a,.str b=>a==b
 | _,_=>lf
def SV(ry:qQ y u)(rx:qQ x v)(fy:yL y=pc)(fx:yL x=pc):SeqAt.EqAt A s u v (OB y x):=by
 cases y with
 | mY=>
  cases ry;cases x with
  | mY=>cases rx;exact SeqAt.EqAt.same _
  | bl b=>cases rx;exact SeqAt.EqAt.none_bool b
  | int b=>obtain⟨t,rfl⟩:=rx;exact SeqAt.EqAt.none_int b t
  | str b=>obtain⟨t,rfl⟩:=rx;exact SeqAt.EqAt.none_str b t
  | _=>exact absurd (show lf=pc from fx) dH
 | bl a=>
  cases ry;cases x with
  | mY=>cases rx;exact SeqAt.EqAt.bool_none a
  | bl b=>cases rx;exact SeqAt.EqAt.bool_bool a b
  | int b=>obtain⟨t,rfl⟩:=rx;exact SeqAt.EqAt.bool_int a b t
  | str b=>obtain⟨t,rfl⟩:=rx;exact SeqAt.EqAt.bool_str a b t
  | _=>exact absurd (show lf=pc from fx) dH
 | int a=>
  obtain⟨t',rfl⟩:=ry;cases x with
  | mY=>cases rx;exact SeqAt.EqAt.int_none a t'
  | bl b=>cases rx;exact SeqAt.EqAt.int_bool a t' b
  | int b=>obtain⟨t,rfl⟩:=rx;exact SeqAt.EqAt.int_int a t' b t
  | str b=>obtain⟨t,rfl⟩:=rx;exact lj a t' b t
  | _=>exact absurd (show lf=pc from fx) dH
 | str a=>
  obtain⟨t',rfl⟩:=ry;cases x with
  | mY=>cases rx;exact SeqAt.EqAt.str_none a t'
  | bl b=>cases rx;exact SeqAt.EqAt.str_bool a t' b
  | int b=>obtain⟨t,rfl⟩:=rx;exact lq a t' b t
  | str b=>obtain⟨t,rfl⟩:=rx;exact SeqAt.EqAt.str_str a t' b t
  | _=>exact absurd (show lf=pc from fx) dH
 | _=>exact absurd (show lf=pc from fy) dH
noncomputable def EK(x:V)(u:Vl):Bool:=match u with
 | .none=>OB .mY x
 | .bool b=>OB (.bl b) x
 | .int i _=>OB (.int i) x
 | .str z _=>OB (.str z) x
 | _=>lf
def Io(r:qQ y u)(f:yL y=pc):EK x u=OB y x:=by
 cases y with
 | mY=>cases r;rfl
 | bl b=>cases r;rfl
 | int i=>obtain⟨t,rfl⟩:=r;rfl
 | str z=>obtain⟨t,rfl⟩:=r;rfl
 | _=>exact absurd (show lf=pc from f) dH
theorem zt:∀{xs:T0 V} {us:T0 Vl},qK xs us->xs.all yL=pc->us.any (EK x)=xs.any λy=>OB y x
 | _,_,.nil,_=>rfl
 | y::xs,u::us,.cons r t,f=>by rw[eL,d9]at f;rw[fR,fR,Io r f.1,zt t f.2]
theorem wK(rx:qQ x v)(fx:yL x=pc):∀{xs:T0 V} {us:T0 Vl},qK xs us->xs.all yL=pc->∀u∈us,SeqAt.EqAt A s u v (EK x u)
 | _,_,.nil,_=>λu hu=>by cases hu
 | y::xs,u::us,.cons r t,f=>λu' hu=>by
  rw[eL,d9]at f;rcases dC.mp hu with rfl|hu
  .rw[Io r f.1];exact SV r rx f.1 fx
  .exact wK rx fx t f.2 u' hu
noncomputable def inV(x:V)(xs:T0 V):Bool:=xs.any λy=>OB y x
def Ww(K:qC)(Zp:Bool):R2:=λx y H Q=>∃p xs,y=.ref p/\(zj K H p xs\/vn K H p xs)/\yL x=pc/\xs.all yL=pc/\Q (.bl (if Zp then !inV x xs else inV x xs)) H
def Ku:xI X (Op .In) (Ww X.K lf):=by
 intro XQ s Y H x y v u Q I rx ry h;obtain⟨p,xs,rfl,hq,fx,fs,q⟩:=h;cases ry;rcases hq with hq|hq
 .obtain⟨its,r,pl,hz⟩:=I.list hq;refine SeqAt.in_listAt (EK x) pl.isList (λw hw=>wK rx fx r fs w (by simpa using hw)) ⟨.bl _,H,I,Z',?_⟩;rw[show its.toArray.any (EK x)=its.any (EK x)by simp,zt r fs];exact q
 .obtain⟨its,r,pl,hz⟩:=I.tuple hq;refine SeqAt.in_tupleAt (EK x) pl (λw hw=>wK rx fx r fs w (by simpa using hw)) ⟨.bl _,H,I,Z',?_⟩;rw[show its.toArray.any (EK x)=its.any (EK x)by simp,zt r fs];exact q
def Gc:xI X (Op .NotIn) (Ww X.K pc):=by
 intro XQ s Y H x y v u Q I rx ry h;obtain⟨p,xs,rfl,hq,fx,fs,q⟩:=h;cases ry;rcases hq with hq|hq
 .obtain⟨its,r,pl,hz⟩:=I.list hq;refine SeqAt.notIn_listAt (EK x) pl.isList (λw hw=>wK rx fx r fs w (by simpa using hw)) ⟨.bl _,H,I,Z',?_⟩;rw[show its.toArray.any (EK x)=its.any (EK x)by simp,zt r fs];exact q
 .obtain⟨its,r,pl,hz⟩:=I.tuple hq;refine SeqAt.notIn_tupleAt (EK x) pl (λw hw=>wK rx fx r fs w (by simpa using hw)) ⟨.bl _,H,I,Z',?_⟩;rw[show its.toArray.any (EK x)=its.any (EK x)by simp,zt r fs];exact q
def EM:xI X (Op .NotIn) (λx y H Q=>∃i j,x=.str i/\y=.str j/\Q (.bl (!(!(Builtin.Str.occurrences j i 0 j.length 1).isEmpty))) H):=by intro XQ s Y H x y v u Q I rx ry h;obtain⟨i,j,rfl,rfl,q⟩:=h;obtain⟨t,rfl⟩:=rx;obtain⟨t',rfl⟩:=ry;exact notIn_str ⟨.bl _,H,I,Z',q⟩
def xt:yJ X (.builtin "len") (λxs H Q=>∃p ys,xs=[.ref p]/\(zj X.K H p ys\/vn X.K H p ys)/\Q (.int ys.length) H):=by
 intro XQ s Y H xs us Q I r h;obtain⟨p,ys,rfl,hq,q⟩:=h;obtain⟨u,rfl,rx⟩:=yK r;cases rx;have hn:=yO;rcases hq with hq|hq
 .obtain⟨its,r',pl,hz⟩:=I.list hq;have XY:=r'.length;exact Calls.call_len_list pl.isList (by simp only[dF]<;>lia) ⟨.int ys.length,H,I.tok _,⟨s.toks+1,by rw[dF,XY]⟩,q⟩
 .obtain⟨its,r',pl,hz⟩:=I.tuple hq;have XY:=r'.length;exact len_tuple pl (by simp only[dF]<;>lia) ⟨.int ys.length,H,I.tok _,⟨s.toks+1,by rw[dF,XY]⟩,q⟩
def Gd:yJ X (.builtin "len") (λxs H Q=>∃z,xs=[.str z]/\z.length<=Ch/\Q (.int z.length) H):=by intro XQ s Y H xs us Q I r h;obtain⟨z,rfl,hz,q⟩:=h;obtain⟨u,rfl,t,rfl⟩:=yK r;have hn:=yO;exact len_str (by lia) ⟨.int z.length,H,I.tok _,⟨_,Z'⟩,q⟩
def EE:yJ X (.type "list") (λxs H Q=>∃p ys,xs=[.ref p]/\(zj X.K H p ys\/vn X.K H p ys)/\∀l,H l=Db->Q (.ref l) (upd H l (.lst ys))):=by
 intro XQ s Y H xs us Q I r h;obtain⟨p,ys,rfl,hq,q⟩:=h;obtain⟨u,rfl,rx⟩:=yK r;cases rx;have XX:∀(its:T0 Vl),qK ys its->ys.length<=Ch->∀(h':No) (c':Nat),(∀b o',s.heap.get? b=Fa o'->h'.get? b=Fa o')->
   h'.get? s.heap.objs.size=Fa {cls:=.type "list",dict:=none,data:=.seq its.toArray c',slots:=#[]}->EP X XQ Y Q (.ref s.heap.objs.size) {s with heap:=h'}:=λits r' hz h' c' kp e=>
  ⟨.ref s.heap.objs.size,_,I.laid (t':=s.toks) kp (dE _) (show su X.prog X.w _ h' _ (.lst ys)from⟨hz,its,c',r',e⟩),Z',q _ (I.m8.fresh (dE _))⟩
 rcases hq with hq|hq
 .obtain⟨its,r',pl,hz⟩:=I.list hq;have XY:=r'.length;obtain⟨o,ho,hc,n,hd⟩:=pl.isList;exact call_list_seq p (.inl Z') ho hc hd (λh' c' kp e=>XX its r' hz h' c' kp e) (by simp only[dF]<;>lia)
 .obtain⟨its,r',pl,hz⟩:=I.tuple hq;have XY:=r'.length;obtain⟨o,ho,hc,n,hd⟩:=pl;exact call_list_seq p (.inr Z') ho hc hd (λh' c' kp e=>XX its r' hz h' c' kp e) (by simp only[dF]<;>lia)
def wq:yJ X (.type "tuple") (λxs H Q=>∃p ys,xs=[.ref p]/\((zj X.K H p ys/\∀l,H l=Db->Q (.ref l) (upd H l (.tup ys)))\/(vn X.K H p ys/\Q (.ref p) H))):=by
 intro XQ s Y H xs us Q I r h;obtain⟨p,ys,rfl,h⟩:=h;obtain⟨u,rfl,rx⟩:=yK r;cases rx;rcases h with⟨hq,q⟩|⟨hq,q⟩
 .obtain⟨its,r',pl,hz⟩:=I.list hq;have XY:=r'.length;refine call_tuple_list pl.isList (λh' kp=>?_) (by simp only[dF]<;>lia);have I1:Inv X XQ Y H {s with heap:=h'}:=I.kept (t':=s.toks) kp;have I2:Inv X XQ Y (upd H h'.objs.size (.tup ys)) {s with heap:=h'.push {cls:=.type "tuple",data:=.seq its.toArray}}:=
   I1.laid (t':=s.toks) (λb o e=>dz _ e) (dE _) (show su X.prog X.w _ _ _ (.tup ys)from⟨hz,its,r',E8.new _ _⟩)
  exact⟨.ref h'.objs.size,_,I2,Z',q _ (I1.m8.fresh (dE _))⟩
 .obtain⟨its,r',pl,hz⟩:=I.tuple hq;exact call_tuple_same pl ⟨.ref p,H,I,Z',q⟩
def Xf(K:qC)(T:String)(x:V)(H:Hp):Prop:=match x with
 | .str _=>T="str"
 | .int _=>T="int"
 | .ref p=>(T="list"/\∃xs,zj K H p xs)\/(T="tuple"/\∃o,K.lookup p=Fa o/\o.cls=.type "tuple"/\o.dict=Db)\/
   (T="dict"/\((∃kvs,H p=Fa (.dK kvs))\/∃kvs,H p=Fa (.dT kvs)))\/(T="set"/\∃S n,H p=Fa (.set S n))
 | _=>False
def NI(I:Inv X XQ Y H s)(r:qQ x v)(ty:Xf X.K T x H):
  s.TypeIs v T/\∀a,v=.ref a->∃ob,s.heap.get? a=Fa ob/\ob.dict=Db:=by
 cases x with
 | str z=>obtain⟨t,rfl⟩:=r;cases(show T="str" from ty);exact⟨typeIs_str s z t,λ_ e=>nomatch e⟩
 | int i=>obtain⟨t,rfl⟩:=r;cases(show T="int" from ty);exact⟨mj s i t,λ_ e=>nomatch e⟩
 | ref p=>
  cases r;rcases ty with⟨rfl,xs,hq⟩|⟨rfl,o,hk,hc,hd⟩|⟨rfl,hk⟩|⟨rfl,S,n,hk⟩
  .obtain⟨its,_,pl,_⟩:=I.list hq;refine⟨pl.isList.typeIs,λa e=>?_⟩;cases e;obtain⟨o,n,e,c,hd,_⟩:=pl;exact⟨o,e,hd⟩
  .refine⟨⟨o,I.nA p o hk,hc⟩,λa e=>?_⟩;cases e;exact⟨o,I.nA _ o hk,hd⟩
  .have z:∃o,s.heap.get? p=Fa o/\o.ExactDict:=by
    rcases hk with⟨kvs,hk⟩|⟨kvs,hk⟩
    .obtain⟨_,_,_,_,o,_,_,e,ex,_⟩:=I.m8 p _ hk;exact⟨o,e,ex⟩
    .obtain⟨_,_,_,_,o,_,_,e,ex,_⟩:=I.m8 p _ hk;exact⟨o,e,ex⟩
   obtain⟨o,e,ex⟩:=z;refine⟨⟨o,e,ex.1⟩,λa e2=>?_⟩;cases e2;exact⟨o,e,ex.2.1⟩
  .obtain⟨o,_,_,_,e,ex,_⟩:=I.m8 p _ hk;refine⟨⟨o,e,ex.1⟩,λa e2=>?_⟩;cases e2;exact⟨o,e,ex.2.1⟩
 | _=>exact False.elim ty
def XN(K:qC)(T:String)(r:V->T0 V->Hp->VK->Prop)(to:TE)(t:TA):TE:=λY H Q=>to Y H λx H1=>Xf K T x H1/\t Y H1 λxs H2=>r x xs H2 Q
def UG(pa:PlainAttrs T)(slot:Slot T name id)(hty:typeOf (.builtin id)=pure (.type "method_descriptor"))(hm:Xt X id r)(ho:PE X o to)(ha:PA X (e::es) t) (X6:Ps o name X.env (wp o X.env)=wp o X.env:=by rfl)
  (Y3:((xz XZ (Tl (e::es) X.env)).all (λx=>!x.1)&&(IN XZ (Rs [] X.env)).all (λx=>x.1.isSome)
   &&decide ((e::es).length+([]:T0 XXc).length+(if ([]:T0 XXc).isEmpty then 0 else 1)<30))=pc:=by rfl)
  (Yg:(XW.endLine==XZ.line)=pc:=by rfl) (hs:BF X e es:=by rfl) (Yb:Dh X XZ es:=by rfl):
  PE X (.Call (.Attribute o name XW) (e::es) [] XZ) (XN X.K T r to t):=by
 intro XQ s Y H Q I h;refine wpAny_Call_method_late X6 Y3 Yg Z' (sS (ho XQ s Y H _ I h) λv s1 zz=>?_);obtain⟨x,H1,I1,r1,ty,q1⟩:=zz;obtain⟨h1,h2⟩:=NI I1 r1 ty;refine⟨T,id,pa,slot,hty,h1,h2,?_⟩;have hA:=ha XZ XQ s1 Y H1 _ I1 q1;rw[hs]at hA ⊢;refine ky (by show(lf||(xz XZ (Tl es X.env)).any (·.1))=lf;rw[Yb]<;>rfl) (Calls.evalArgs_plain ?_);exact sS hA λus s2 zz=>x5 zz λvs H2 I2 r2 q2=>hm XQ s2 Y H2 x vs v us Q I2 r1 r2 q2
end
def XD(X:Cx)(id:String)(r:V->T0 V->Hp->VK->Prop):Prop:=
 ∀(XQ:QQY) (s:Sd) (Y:St) (H:Hp) (x:V) (xs:T0 V) (v:Vl) (us:T0 Vl) (Q:VK),Inv X XQ Y H s->qQ x v->qK xs us->r x xs H Q->
  pi (Tk X.prog X.w) X.A (call (.builtin id) (v::us)) (EP X XQ Y Q) X.xe s
def qK.one:∀{x:V} {us:T0 Vl},qK [x] us->∃u,us=[u]/\qQ x u
 | _,_,.cons r .nil=>⟨_,Z',r⟩
theorem qK.rep(h:qK xs us):∀k:Nat,qK (List.replicate k xs).flatten (List.replicate k us).flatten
 | 0=>.nil
 | k+1=>by rw[eQ,eQ,fT,fT];exact qK.append h (qK.rep h k)
theorem DY(its:T0 Vl):∀(k:Nat) (acc:T0 Vl),List.foldl (λx1 x2=>x1++x2) acc.toArray (List.replicate k its.toArray)=(acc++(List.replicate k its).flatten).toArray
 | 0,acc=>by simp
 | k+1,acc=>by
  have e:acc.toArray++its.toArray=(acc++its).toArray:=by simp
  have e2:(acc++its)++(List.replicate k its).flatten=acc++(List.replicate (k+1) its).flatten:=by rw[eQ,fT,fC]
  rw[<-e2,<-DY its k (acc++its),<-e,eQ,gc]
variable {XQ:T0 (Uf × Obj)}{Y:St}{H:Hp}{s:Sd}{l:Uf}{xs ys zs:T0 V}
section
variable {b:Uf}
def Inv.lset{its its':T0 Vl}{n:Nat}{f:Array Vl->Array Vl}{t':Nat}(I:Inv X XQ Y H s)(hH:H l=Fa (.lst xs)) (e:s.heap.get? l=Fa {cls:=.type "list",data:=.seq its.toArray n}) (hf:f its.toArray=its'.toArray) (hv:qK ys its') (hz:ys.length<=Ch):
  Inv X XQ Y (upd H l (.lst ys)) {s with heap:=s.heap.update l (Obj.mapSeq f),toks:=t'}:=by
 have q:=PySem.IsL.update e f;rw[hf]at q;refine I.write (x:=l) (e:=l) (by rw[hH];exact trivial) (.inl Z') (λb' u hb hu=>(gi s.heap (Obj.mapSeq f) (dW hb)).trans hu) ⟨_,q⟩ ?_;exact⟨hz,its',_,hv,q⟩
def Inv.pf{t':Nat}(I:Inv X XQ Y H s)(hv:qK ys its)(hz:ys.length<=Ch):
  Inv X XQ Y (upd H s.heap.objs.size (.lst ys)) {s with heap:=s.heap.push {cls:=.type "list",data:=.seq its.toArray},toks:=t'}:=
 I.laid (λ_ _ q=>dz _ q) (dE _) ⟨hz,its,0,hv,dO _ Z'⟩
def Inv.fresh(I:Inv X XQ Y H s):H s.heap.objs.size=Db:=I.m8.fresh (dE _)
def Inv.oN(I:Inv X XQ Y H s)(hH:H l=Fa (.lst xs)):xs.length<=Ch/\∃(its:T0 Vl) (n:Nat),qK xs its/\xs.length=its.length/\s.heap.get? l=Fa {cls:=.type "list",data:=.seq its.toArray n}:=by obtain⟨z,its,n,r,e⟩:=I.m8 l _ hH;exact⟨z,its,n,r,r.length,e⟩
def NQ{n:Nat}(h:n<=Ch):Builtin.List.listTooLong n=lf:=by unfold Builtin.List.listTooLong;exact e9 (by lia)
end
def O1:V->T0 V->Hp->VK->Prop:=λx vs H Q=>∃l xs y,x=.ref l/\vs=[y]/\H l=Fa (.lst xs)/\xs.length<Ch/\Q .mY (upd H l (.lst (xs++[y])))
def Ll:XD X "list.append" O1:=by intro XQ s Y H x vs v us Q I rx rv h;obtain⟨l,xs,y,rfl,rfl,hH,hz,q⟩:=h;cases rx;obtain⟨u,rfl,ru⟩:=rv.one;obtain⟨z,its,n,r,hl,e⟩:=I.oN hH;refine jN F.slot_list_append ⟨_,e,Z'⟩ F.entry_list_append (F.args_list_append_2 _ _) (PySem.list_append l its.toArray n u (by rw[dF];lia)) ⟨e,?_⟩;refine⟨.mY,_,I.lset (its':=its++[u]) hH e (by simp) (r.append (.cons ru .nil)) ?_,Z',q⟩;rw[dq,dX];lia
def WX:R2:=λx y H Q=>∃l k xs,x=.ref l/\y=.int k/\H l=Fa (.lst xs)/\-(2 ^ 63)<=k/\k<2 ^ 63/\xs.length*k.toNat<=Ch/\
 ∀p,H p=Db->Q (.ref p) (upd H p (.lst (List.replicate k.toNat xs).flatten))
def OZ{α:Type}(xs:List α)(k:Nat):(List.replicate k xs).flatten.length=k*xs.length:=by
 induction k with
 | zero=>simp
 | succ k ih=>rw[eQ,fT,dq,ih,mG,Nat.add_comm]
def R8:xI X (sK .Mult) WX:=by
 intro XQ s Y H x y v u Q I rx ry h;obtain⟨l,k,xs,rfl,rfl,hH,h1,h2,hz,q⟩:=h;cases rx;obtain⟨t,rfl⟩:=ry;obtain⟨z,its,n,r,hl,e⟩:=I.oN hH;have XY:its.toArray.size*k.toNat<=Ch:=by rw[dF,<-hl];exact hz
 have hcap:¬its.toArray.size*k.toNat>(2 ^ 63 - 1) / 8:=by
  have:(Ch:Nat)<=(2 ^ 63 - 1) / 8:=by decide
  lia
 have Yr:¬(!Builtin.List.listFitsIndex k)=pc:=by rw[fitsIndex_both h1 h2];exact dH
 have hlong:¬Builtin.List.listTooLong (its.toArray.size*k.toNat)=pc:=by rw[NQ XY];exact dH
 have Zx:List.foldl (λx1 x2=>x1++x2) #[] (List.replicate (if its.toArray.isEmpty=pc then 0 else k.toNat) its.toArray)=(List.replicate k.toNat its).flatten.toArray:=by
  have f0:∀m:Nat,List.foldl (λx1 x2=>x1++x2) #[] (List.replicate m its.toArray)=(List.replicate m its).flatten.toArray:=λm=>by have:=DY its m [];rw[eB]at this;exact this
  rw[f0];cases its with
  | nil=>simp
  | cons a r'=>rw[dh (by simp)]
 refine wpAny_binaryOp_repeat_ref (T:="list") (U:="int") (by decide) ⟨_,e,Z'⟩ (λs'=>mj s' k t) noFill_list_mul F.fills_int_mul mo repeat_list F.slot_int_index.lookup
  (jN mo (mj s k t) F.entry_int_rmul (F.args_int_rmul_2 _ _) (int___rmul___int_list k t l its.toArray n)
   ⟨e,Z',⟨_,e,Z'⟩,jN F.slot_list_mul ⟨_,e,Z'⟩ F.entry_list_mul (F.args_list_mul_2 _ _) (AutoListH.list___mul___list_int_3 l its.toArray n k t Yr hcap hlong) ⟨e,?_⟩⟩)
 rw[Zx];exact⟨.ref _,_,I.pf (t':=s.toks) (r.rep k.toNat) (by rw[OZ,Nat.mul_comm];exact hz),Z',q _ I.fresh⟩
variable {prog:Pg}{w:Wo}{A:Ar}{E:QQX}
end L2
namespace Att
open PySem PySem.W PySem.Calls PyProof.Rows
def A7:∀(ns:T0 Int) (vs:T0 Vl),WellAll P h vs (ns.map WData.int)->IntsAre vs ns:=by
 intro ns;induction ns with
 | nil=>intro vs w;rw[je]at w;cases w;exact .nil
 | cons n ns ih=>
  intro vs w;rw[eh]at w;cases w with
  | cons a b=>cases a;exact .cons _ _ (ih _ b)
def Kj{l:OpenLaw}{n:Nat}(hn:l.most=Fa n){P:Params}{h:No}{args:T0 WData}{vals:T0 Vl} (ZW:l.row.toRowW.claim.pre args=pc) (hwl:WellAll P h vals args):
  ∃a vs ns,vals=[Value.ref a]/\args=[WData.list (ns.map WData.int)]/\h.get? a=Fa {cls:=.type "list",data:=.seq vs.toArray}/\IntsAre vs ns/\ns.length<=n:=by
 have hsh:WShape.hasAll [] args [.list .int]=pc:=(pre_splitW ZW).1;have hc:l.pre.holds [] {args:=args}=pc:=(pre_splitW ZW).2;obtain⟨d,r,rfl,h1,h2⟩:=hasAllW_cons hsh;obtain rfl:=hasAllW_nil h2;obtain⟨xs,rfl,h3⟩:=hasW_list h1;obtain⟨ns,rfl⟩:=items_int h3;have XY:ns.length<=n:=by
  unfold OpenLaw.pre at hc;have h4:(WTm.not (.lt (.lit (.int (n:Int))) (.len (.arg 0)))).holds [] {args:=[.list (ns.map .int)]}=pc:=by have h4:=(holds_andW hc).1;rw[hn]at h4;exact h4
  have h5:=condW_of h4 (w_not (w_lt w_lit (w_len_list (w_arg Z'))));rw[de]at h5;refine jX λq=>?_;have q':(n:Int)<((ns.length:Nat):Int):=by lia
  first
   | (rw[eA q']at h5;exact absurd h5 (by decide))
   | (simp at h5;lia)
 cases hwl with
 | cons w1 w2=>
  cases w2;cases w1 with
  | list ho Yx=>exact⟨_,_,ns,Z',Z',ho,A7 ns _ Yx,XY⟩
def K4(l:OpenLaw)(args:T0 WData):l.row.toRowW.claim.post args (.bool pc) args=pc:=
 postW_of (r:=l.row.toRowW) (X:=(pc==pc))
  (show WShape.has [] (.bool pc) .bool=pc by first|rfl|decide|simp[WShape.has,WShape.arms,WShape.armsAll])
  (show(WTm.eq .res (.lit (.bool pc))).value [] {args:=args,res:=some (.bool pc),after:=args}=Fa (.bool (pc==pc))from w_eq_bool (w_res Z') w_lit) Z'
def attach_call{l:OpenLaw}{n:Nat}{YP:Wo->No->Prop}{d:DefRec} (hn:l.most=Fa n) (hdf:d.params.defaults=[]) (call:∀(w:Wo) (s₀ s₁:Sd) (mg mb:QQZ) (fa:Uf) (o:Obj) (pm cd Yu:Vl) (a:Uf) (vs:T0 Vl) (ns:T0 Int),Ground q YD [] XP w s₀ mg mb s₁.heap->YP w s₁.heap->
   s₁.heap.get? fa=Fa o->o.data=.func (docDef d.name d.params d.body d.scope pm cd Yu)->s₁.heap.CodeRec cd d.name->mg d.name=Fa (.ref fa)->
   s₁.heap.get? a=Fa {cls:=.type "list",data:=.seq vs.toArray}->IntsAre vs ns->ns.length<=n->s₁.gens=#[]->
   XXh (Tk l.prog w) callerA (.call (.ref fa) ⟨[.ref a],[]⟩) (λr s'=>r=.ok (.ret (.bool pc))/\OldK s₁.heap s'.heap/\s'.os=s₁.os/\XXk s'.gens) s₁):
  WalkO q YD XP YP l.row.toRowW d [] (λf vs=>PySem.call f vs):=by
 intro w s₀ s₁ mg mb G Y fa o pm cd Yu dV kV ho hd Yl hD hmg hg args vals as ZW hlay hrd hwl hlo;obtain rfl:dV=.none:=Dflts.none hD hdf;obtain rfl:kV=.none:=Dflts.noKw hD;obtain⟨a,vs,ns,rfl,rfl,hobj,Zy,XY⟩:=Kj hn ZW hwl;refine enter_call (gT (call w s₀ s₁ mg mb fa o pm cd Yu a vs ns G Y ho (fd_plain hd) Yl hmg hobj Zy XY hg) λr s' hq=>?_);obtain⟨rfl,h2,h3,h4⟩:=hq;exact⟨.inl ⟨.bool pc,.bool pc,[],Z',λ_=>rfl,.bool pc,K4 l _,λ_=>⟨List.Pairwise.nil,λ_ hm=>(nomatch hm)⟩⟩,h2,h3,h4⟩
variable {prog:Pg}{w:Wo}{A:Ar}{E:QQX}{s:Sd}{K:Frag}
end Att
namespace L2
theorem Ex:∀{vs:T0 Vl} {ns:T0 Int},IntsAre vs ns->qK (ns.map V.int) vs
 | _,_,.nil=>.nil
 | _,_,.cons n t h=>.cons ⟨t,Z'⟩ (Ex h)
def MT(H:Hp):Prop:=∀b,H b=Db\/∃o xs,H b=Fa (.frz o (.lst xs))
def Ov{P:Pg}{w:Wo}{K:qC}{mg mb:QQZ}{CX:Lo}{fa a:Uf}{fd:Ix}{x:Str}{sp:Sp}{s₁:Sd}{vs:T0 Vl} (KX:K.In s₁.heap) (hns:s₁.heap.Ns wv mg) (hb:s₁.heap.Ns builtinsNs mb) (hbb:∀x:Str,x≠"__name__"->mb x=zn x) (hlim:s₁.heap.NoLimit) (hg:s₁.gens=#[]) (ha:s₁.heap.get? a=Fa {cls:=.type "list",data:=.seq vs.toArray}) (hi:IntsAre vs ns) (hl:ns.length<=Ch) (hr:sC k callerA)
  (F:∀base:No,K.In base->base.Ns wv mg->xK P w K mg base CX k fa fd [x] sp) (hbind:∀(s:Sd) (u:Vl),BindsTo s fd ⟨[u],[]⟩ [(x,u)])
  (Zi:∀H:Hp,MT H->zj K H a (ns.map V.int)->sp [.ref a] H (λv _=>v=.bl pc) λ_ _ _=>False)
  (hCX:∀H e s',CX [] H s₁ (λ_ _ _=>False) e s'->False):
  XXh (Tk P w) callerA (.call (.ref fa) ⟨[.ref a],[]⟩) (λr s'=>r=.ok (.ret (.bool pc))/\OldK s₁.heap s'.heap/\s'.os=s₁.os/\XXk s'.gens) s₁:=by
 have rv:=Ex hi;have lenV:=hi.length;have core:∀H:Hp,MT H->zj K H a (ns.map V.int)->yB P w H s₁.heap->(∀b,H b≠Db->b=a)->(H a≠Db->K.lookup a=Db)->
   XXh (Tk P w) callerA (.call (.ref fa) ⟨[.ref a],[]⟩) (λr s'=>r=.ok (.ret (.bool pc))/\OldK s₁.heap s'.heap/\s'.os=s₁.os/\XXk s'.gens) s₁:=by
  intro H hO hS m8 hA hK;have Zd:∀{b:Uf} {o:Obj},s₁.heap.get? b=Fa o->H b=Db->(EH s₁.heap H).get? b=Fa o:=λe n=>Lv e n;have noA:∀{b:Uf} {o:Obj} {es:Array DictEntry} {ep:Nat},s₁.heap.get? b=Fa o->o.data=.dict es ep->H b=Db:=λ{b o es ep} e d=>by
   cases q:H b with
   | none=>rfl
   | some u=>have e':b=a:=hA b (by rw[q];simp);subst e';rw[ha]at e;cases e;have d':Data.seq vs.toArray _=Data.dict es ep:=d;cases d'
  have nsK:∀{b:Uf} {m:QQZ},s₁.heap.Ns b m->(EH s₁.heap H).Ns b m:=λ{b m} ⟨o,es,ep,e,d,r⟩=>⟨o,es,ep,Zd e (noA e d),d,r⟩;have hKb:K.In (EH s₁.heap H):=λb o e=>Zd (KX b o e) (by
   cases q:H b with
   | none=>rfl
   | some u=>
    have e':b=a:=hA b (by rw[q];simp);subst e';rw[hK (by rw[q];simp)]at e;cases e)
  have hM:Mod K mg (EH s₁.heap H):=⟨hKb,nsK hns,⟨mb,nsK hb,hbb⟩,let⟨mc,h1,h2⟩:=hlim;⟨mc,nsK h1,h2⟩⟩;have e0:HG P w K mg (EH s₁.heap H) callerA [] s₁ H:=⟨Z',hM,λb o e=>Qi e,mE (K3 _ _),trivial,λb hb=>absurd (show b∈([]:QXQ)from hb) (by simp),m8,.of_eq hg⟩;refine gT ((F _ hKb (nsK hns)).run callerA [] s₁ H ⟨[.ref a],[]⟩ [.ref a] [.ref a] _ _ hr e0 (hbind s₁ (.ref a)) (.cons Z' .nil) (Zi H hO hS)) λr s' h=>?_;cases r with
  | error e=>exact(hCX H e s' h).elim
  | ok fl=>
   cases fl with
   | next=>exact False.elim h
   | brk=>exact False.elim h
   | cont=>exact False.elim h
   | ret u=>
    obtain⟨v,H',os,bare,un,hok',r',q⟩:=h;have q':v=.bl pc:=q;subst q';obtain rfl:u=Value.bool pc:=r';refine⟨Z',OldK.of_keep λb o e=>?_,os,bare⟩;cases q:H b with
    | none=>exact un.keep b o e q (by intro z;exact absurd (show b∈([]:QXQ)from z) (by simp)) (by simp)
    | some u=>
     rcases hO b with z|⟨ob,xs,z⟩
     .rw[q]at z;cases z
     .have z2:=un.nI b ob _ z;obtain⟨e1,_⟩:=m8 b _ z;obtain⟨e2,_⟩:=hok' b _ z2;rw[e]at e1;cases e1;exact e2
 cases hk:K.lookup a with
 | some o=>have e:=KX a o hk;rw[ha]at e;cases e;refine core (λ_=>Db) (λ_=>.inl Z') (.inr ⟨_,vs.toArray,_,hk,Z',Z',Z',by rw[dF,lenV];exact hl,by simpa using rv⟩) (λb u z=>by have z':(Db:Option HO)=Fa u:=z;cases z') (λb z=>absurd Z' z) λz=>absurd Z' z
 | none=>
  refine core (λb=>if b=a then Fa (.frz {cls:=.type "list",data:=.seq vs.toArray} (.lst (ns.map V.int)))else Db) (λb=>?_) (.inl (.inr ⟨{cls:=.type "list",data:=.seq vs.toArray},dw Z'⟩)) (λb u z=>?_) (λb z=>?_) λ_=>hk
  .by_cases hb:b=a
   .exact .inr ⟨_,_,dw hb⟩
   .exact .inl (dh hb)
  .by_cases hb:b=a
   .have z':=(dw hb).symm.trans z;cases z';subst hb;exact⟨ha,by rw[de];exact hl,vs,_,rv,ha⟩
   .have z':=(dh hb).symm.trans z;cases z'
  .by_cases hb:b=a
   .exact hb
   .exact absurd (dh hb) z
def O6{l:W.OpenLaw}{n k:Nat}{q:Pg}{YD:QQQ}{XP:(QQZ)->No->Prop}{YP:Wo->No->Prop}{d:DefRec}{K:Params->qC}{CX:Wo->Lo}{sp:Wo->Sp}{x:Str} (hn:l.most=Fa n) (hn2:n<=Ch) (hdf:d.params.defaults=[]) (hr:sC k callerA) (hY:∀(w:Wo) (h:No),YP w h->(K w.params).In h) (F:∀(w:Wo) (mg:QQZ) (fa:Uf) (h:No),(K w.params).In h->h.Ns wv mg->mg d.name=Fa (.ref fa)->
   ∃fd:Ix,(∀(s:Sd) (u:Vl),BindsTo s fd ⟨[u],[]⟩ [(x,u)])/\
    ∀base:No,(K w.params).In base->base.Ns wv mg->xK l.prog w (K w.params) mg base (CX w) k fa fd [x] (sp w))
  (Zi:∀(w:Wo) (H:Hp) (a:Uf) (ns:T0 Int),ns.length<=n->MT H->zj (K w.params) H a (ns.map V.int)->sp w [.ref a] H (λv _=>v=.bl pc) λ_ _ _=>False)
  (hCX:∀(w:Wo) (H:Hp) (s:Sd) (e:Vl) (s':Sd),CX w [] H s (λ_ _ _=>False) e s'->False):
  W.WalkO q YD XP YP l.row.toRowW d [] (λf vs=>PySem.call f vs):=by
 refine Att.attach_call hn hdf λw s₀ s₁ mg mb fa o pm cd Yu a vs ns G Y ho hd Yl hmg hobj Zy XY hg=>?_;have KX:=hY w _ Y;obtain⟨fd,hb,hF⟩:=F w mg fa _ KX G.T.g hmg;exact Ov KX G.T.g G.T.b G.T.builtins G.T.nolimit hg hobj Zy (eE XY hn2) hr hF hb (λH hO hS=>Zi w H a ns XY hO hS) λH e s'=>hCX w H s₁ e s'
noncomputable def Rf(s:TD)(j:Nat):TD:=match s with
 | .ClassDef _ _ _ body _ _ _ _ _ _ _=>body.getD j (.Pass ⟨0,0,0,0⟩)
 | _=>.Pass ⟨0,0,0,0⟩
noncomputable def uN(s:TD):Arguments:=match s with
 | .FunctionDef _ a _ _ _ _ _ _ _ _=>a
 | _=>{posonlyargs:=[],args:=[],vararg:=none,kwonlyargs:=[],kw_defaults:=[],kwarg:=none,defaults:=[]}
noncomputable def sd(s:TD):T0 TD:=match s with
 | .FunctionDef _ _ b _ _ _ _ _ _ _=>b
 | _=>[]
noncomputable def qu(s:TD):XXb:=match s with
 | .FunctionDef _ _ _ _ _ _ sc _ _ _=>sc
 | _=>{kind:=.function,names:=[],isGenerator:=false,isCoroutine:=false}
abbrev OA:Lo:=λ_ _ _ _ _ _=>False
abbrev E0:XK:=λ_ _ _=>False
def G4:CK OA X E0:=λ_ _ _ _ _ _ _ h=>h.elim
structure Pe(K:qC)(x qual:Str)(st:TD)(f:Uf)(fd:Ix):Prop where
 ex:∃(oc:Vl) (od:Option Uf) (kV Yu pm:Vl) (an:Option Uf) (X1 ct:Vl) (YK:Array (Option Vl)),
  fd=W.fnOf x qual (uN st) (sd st) (qu st) .none kV Yu pm an X1 ct/\K.lookup f=Fa ⟨oc,od,.func fd,YK⟩/\W.codeIn K X1 qual=pc
 kp:W.keepIn K (.ref f)=pc
variable {P:Pg}{K:qC}{mg:QQZ}{base:No}
section
variable {w:Wo}
def Pe.ok{st:TD}{sp:Sp}(F:Pe K x qual st f fd)(S:tN N ps (qu st))(len:∀vs H Q E,sp vs H Q E->vs.length=ps.length) (Yf:∀(X1:Vl) (A:Ar) (outer:T0 Env) (s:Sd) (H:Hp) (vs:T0 V) (Q:VK) (E:XK),sC k (A.deeper (xL qual (qu st) s.heap.objs.size f X1))->sp vs H Q E->
   ∃t,Cq (vL OA P w K mg base N qual (qu st) f X1 A outer s H E).oP (sd st) t/\t {nx:=λ_ H'=>Q .mY H',rt:=Q} (start N vs) H):xK P w K mg base OA (k+1) f fd ps sp:=by
 obtain⟨oc,od,kV,Yu,pm,an,X1,ct,YK,rfl,lk,Yl⟩:=F.ex;refine MY lk Yl S len λA outer s H vs Q E hr Zi=>?_;obtain⟨t,h,q⟩:=Yf X1 A outer s H vs Q E hr Zi;exact⟨t,h.oP,q⟩
def Pe.binds{st:TD}{ps:QQQ}(F:Pe K x qual st f fd) (h:∀(kV Yu pm:Vl) (an:Option Uf) (X1 ct:Vl) (us:T0 Vl),us.length=ps.length->bindArgs (W.fnOf x qual (uN st) (sd st) (qu st) .none kV Yu pm an X1 ct) ⟨us,[]⟩=pure (ps.zip us)):vc K fd ps []:=by
 obtain⟨oc,od,kV,Yu,pm,an,X1,ct,YK,rfl,lk,Yl⟩:=F.ex;exact .all (h kV Yu pm an X1 ct)
def LC{st:TD}{oc:Vl}{od an:Option Uf}{YK:Array (Option Vl)}{kV Yu pm X1 ct:Vl}(l:K.lookup f=Fa ⟨oc,od,.func (W.fnOf x qual (uN st) (sd st) (qu st) .none kV Yu pm an X1 ct),YK⟩) (c:W.codeIn K X1 qual=pc) (k:W.keepIn K (.ref f)=pc):Pe K x qual st f (W.fnOf x qual (uN st) (sd st) (qu st) .none kV Yu pm an X1 ct):=⟨⟨oc,od,kV,Yu,pm,an,X1,ct,YK,Z',l,c⟩,k⟩
end
variable {X:Cx}
def pv(i:Nat){x:Str}{pos:Pos}(hN:X.N[i]?=Fa x:=by rfl)(hv:RV X.env.scope x:=by first|exact Or.inl Z'|exact Or.inr (Or.inl Z')|exact Or.inr (Or.inr Z'))(hd:yI x:=by decide)
  (Yl:(x==("__classdict__":Str))=lf:=by decide):PE X (.Name x pos) (ED i):=NM hN hv hd Yl
def Sn{A B:Prop}(h:B):if lf=pc then A else B:=by rw[dh dH];exact h
def Pd{A B:Prop}(h:A):if pc=pc then A else B:=by rw[dw Z'];exact h
def qv{c A B:Prop}[Decidable c](h1:c->A)(h2:¬c->B):if c then A else B:=by
 by_cases h:c
 .rw[dw h];exact h1 h
 .rw[dh h];exact h2 h
def PQ(H H':Hp):Prop:=∀b o,H b=Fa o->H' b=Fa o
def PQ.trans(a:PQ H H1)(b:PQ H1 H2):PQ H H2:=λc o h=>b c o (a c o h)
section
variable {κ:Type}[DecidableEq κ]
noncomputable def xw(kvs:T0 (κ×V))(k:κ):Option V:=(kvs.find? λkv=>decide (kv.1=k)).map (·.2)
noncomputable def yQ(kvs:T0 (κ×V))(k:κ)(v:V):T0 (κ×V):=
 if (kvs.any λkv=>decide (kv.1=k))=pc then kvs.map (λkv=>if kv.1=k then(kv.1,v)else kv)else kvs++[(k,v)]
def Ci{p:κ×V}{r:T0 (κ×V)}{k:κ}(e:p.1=k):xw (p::r) k=Fa p.2:=by simp[xw,fN,e]
def B2{p:κ×V}{r:T0 (κ×V)}{k:κ}(e:¬p.1=k):xw (p::r) k=xw r k:=by simp[xw,fN,e]
theorem GR(k:κ):∀kvs:T0 (κ×V),(kvs.any λkv=>decide (kv.1=k))=(xw kvs k).isSome
 | []=>rfl
 | p::r=>by
  rw[fR];by_cases e:p.1=k
  .simp only[Ci e,eA e,gU,Option.isSome_some]
  .rw[B2 e,e9 e,fK];exact GR k r
def AZ(kvs:T0 (κ×V))(k:κ)(v:V):(yQ kvs k v).length<=kvs.length+1:=by
 unfold yQ;split
 .rw[de];lia
 .rw[dq,eK,dS];lia
def yF.nL(r:yF o u):o.isSome=u.isSome:=by
 cases o with
 | none=>cases u with
  | none=>rfl
  | some _=>exact(show False from r).elim
 | some _=>cases u with
  | none=>exact(show False from r).elim
  | some _=>rfl
def KV.val(r:KV kvs vs)(k:κ):yF (xw kvs k) (valueAt vs k):=by
 unfold KV at r;induction r with
 | nil=>exact True.intro
 | @cons p q ps qs h t ih=>
  obtain⟨h1,h2⟩:=h;by_cases e:p.1=k
  .have e':q.1=k:=h1.symm.trans e;have b:valueAt (q::qs) k=Fa q.2:=by simp[valueAt,fN,e']
   rw[Ci e,b];exact h2
  .have e':¬q.1=k:=λz=>e (h1.trans z);have b:valueAt (q::qs) k=valueAt qs k:=by simp[valueAt,fN,e']
   rw[B2 e,b];exact ih
def KV.any(r:KV kvs vs)(k:κ):(kvs.any λkv=>decide (kv.1=k))=vs.any λkv=>decide (kv.1=k):=by
 unfold KV at r;induction r with
 | nil=>rfl
 | cons h t ih=>rw[fR,fR,ih,h.1]
def KV.oG(r:KV kvs vs)(k:κ){y:V}{u:Vl}(ry:qQ y u):
  KV (kvs.map λkv=>if kv.1=k then(kv.1,y)else kv) (vs.map λkv=>if kv.1=k then(kv.1,u)else kv):=by
 unfold KV at r ⊢;induction r with
 | nil=>exact .nil
 | @cons p q ps qs h t ih=>
  rw[eh,eh];refine .cons ?_ ih;obtain⟨h1,h2⟩:=h;by_cases e:p.1=k
  .rw[dw e,dw (h1.symm.trans e)];exact⟨h1,ry⟩
  .rw[dh e,dh (λz=>e (h1.trans z))];exact⟨h1,h2⟩
def KV.put(r:KV kvs vs)(k:κ){y:V}{u:Vl}(ry:qQ y u):KV (yQ kvs k y) (stored vs k u):=by
 unfold yQ stored;rw[r.any k];by_cases e:(vs.any λkv=>decide (kv.1=k))=pc
 .rw[dw e,dw e];exact r.oG k ry
 .rw[dh e,dh e];exact mP r ⟨Z',ry⟩
def KV.length(r:KV kvs vs):kvs.length=vs.length:=jE r
end
def GI(r:qQ (kV k) u):(rJ P w).is k u=pc:=by
 cases k with
 | inl i=>obtain⟨t,e⟩:=(show ∃t,u=Value.int i t from r);subst e;exact Gq P w i t
 | inr x=>obtain⟨t,e⟩:=(show ∃t,u=Value.str x t from r);subst e;exact AW P w x t
theorem Ej:∀{ks:List rm} {us:T0 Vl},qK (ks.map kV) us->ItemsAre (rJ P w) ks us
 | [],_,r=>by rw[je]at r;cases r;exact .nil
 | k::ks,_,r=>by
  rw[eh]at r;cases r with
  | cons h t=>exact .cons (GI h) (Ej t)
abbrev KT(H:Hp):T0 (List rm×V)->T0 (List rm×Uf×Vl)->Prop:=Paired λp q=>p.1=q.1/\H q.2.1=Fa (.tup (p.1.map kV))/\qQ p.2 q.2.2
def KT.val(r:KT H kvs xs)(k:List rm):yF (xw kvs k) ((atKey xs k).map (·.2)):=by
 induction r with
 | nil=>exact True.intro
 | @cons p q ps qs h t ih=>
  obtain⟨h1,_,h2⟩:=h;by_cases e:p.1=k
  .have e':q.1=k:=h1.symm.trans e;have b:atKey (q::qs) k=Fa q.2:=by simp[atKey,fN,e']
   rw[Ci e,b];exact h2
  .have e':¬q.1=k:=λz=>e (h1.trans z);have b:atKey (q::qs) k=atKey qs k:=by simp[atKey,fN,e']
   rw[B2 e,b];exact ih
def KT.oG(r:KT H kvs xs)(k:List rm){y:V}{u:Vl}(ry:qQ y u):
  KT H (kvs.map λkv=>if kv.1=k then(kv.1,y)else kv) (xs.map (putAt k u)):=by
 induction r with
 | nil=>exact .nil
 | @cons p q ps qs h t ih=>
  rw[eh,eh];refine .cons ?_ ih;obtain⟨h1,h2,h3⟩:=h;unfold putAt;by_cases e:p.1=k
  .rw[dw e,dw (h1.symm.trans e)];exact⟨h1,h2,ry⟩
  .rw[dh e,dh (λz=>e (h1.trans z))];exact⟨h1,h2,h3⟩
def KT.put(r:KT H kvs xs)(k:List rm){b:Uf}{y:V}{u:Vl}(hb:H b=Fa (.tup (k.map kV)))(ry:qQ y u):
  KT H (yQ kvs k y) (storedH xs k b u):=by
 have e:(kvs.any λkv=>decide (kv.1=k))=(atKey xs k).isSome:=by rw[GR,(r.val k).nL,jJ]
 unfold yQ storedH;rw[e];by_cases q:(atKey xs k).isSome=pc
 .rw[dw q,dw q];exact r.oG k ry
 .rw[dh q,dh q];exact mP r ⟨Z',hb,ry⟩
def KT.keeps{H H':Hp}(r:KT H kvs xs)(ht:∀b ys,H b=Fa (.tup ys)->H' b=Fa (.tup ys)):KT H' kvs xs:=
 Paired.oS r λ_ _ z=>⟨z.1,ht _ _ z.2.1,z.2.2⟩
variable {H:Hp}{h:No}{a:Uf}
section
variable {w:Wo}
def Rk(ok:yB P w H h)(e:Rd H a u):su P w H h a u:=e.ok ok
def Kb{kvs:T0 (rm×V)}(ok:yB P w H h)(e:Rd H a (.dK kvs)):kvs.length<=Ch/\(a==XV)=lf/\∃vs,KV kvs vs/\h.DictOf (rJ P w) a vs:=
 show su P w H h a (.dK kvs)from Rk ok e
def VP{kvs:T0 (rm×V)}(ok:yB P w H h)(e:H a=Fa (.dK kvs)):kvs.length<=Ch/\(a==XV)=lf/\∃vs,KV kvs vs/\h.DictOf (rJ P w) a vs:=Kb ok (.inl e)
def FK{ks:List rm}(ok:yB P w H h)(e:H a=Fa (.tup (ks.map kV))):(tupleKind (rJ P w)).is h ks a:=by obtain⟨_,its,r,o,h1,h2,⟨n,h3⟩,_⟩:=(show su P w H h a (.tup (ks.map kV))from ok a _ e);exact⟨o,its.toArray,n,h1,h2,h3,by simpa using Ej r⟩
def Ji{kvs:T0 (List rm×V)}(ok:yB P w H h)(e:Rd H a (.dT kvs)):kvs.length<=Ch/\(a==XV)=lf/\
  ∃xs,KT H kvs xs/\h.DictOfH (tupleKind (rJ P w)) a xs:=by
 obtain⟨z,y,xs,r,o,es,ep,h1,h2,h3,h4,h5⟩:=(show su P w H h a (.dT kvs)from Rk ok e);refine⟨z,y,xs,r,o,es,ep,h1,h2,h3,h4,λx hx=>?_,h5⟩;have all:∀{l:T0 (List rm×V)} {m:T0 (List rm×Uf×Vl)},KT H l m->∀x∈m,(tupleKind (rJ P w)).is h x.1 x.2.1:=by
  intro l m q;induction q with
  | nil=>intro x hx;exact nomatch hx
  | @cons p q ps qs hq t ih=>
   intro x hx;rcases dC.mp hx with e|hx
   .subst e;exact FK ok (by rw[<-hq.1];exact hq.2.1)
   .exact ih x hx
 exact all r x hx
def Vd{kvs:T0 (List rm×V)}(ok:yB P w H h)(e:H a=Fa (.dT kvs)):kvs.length<=Ch/\(a==XV)=lf/\
  ∃xs,KT H kvs xs/\h.DictOfH (tupleKind (rJ P w)) a xs:=Ji ok (.inl e)
end
def Fu(H:Hp)(a:Uf)(y:V)(r:Option V):Prop:=
 (∃kvs k,Rd H a (.dK kvs)/\y=kV k/\r=xw kvs k)\/∃kvs k b,Rd H a (.dT kvs)/\y=.ref b/\H b=Fa (.tup (k.map kV))/\r=xw kvs k
def Oc(H:Hp)(a:Uf)(y v:V)(H':Hp):Prop:=
 (∃kvs k,H a=Fa (.dK kvs)/\y=kV k/\kvs.length<Ch/\H'=upd H a (.dK (yQ kvs k v)))\/
 ∃kvs k b,H a=Fa (.dT kvs)/\y=.ref b/\H b=Fa (.tup (k.map kV))/\kvs.length<Ch/\H'=upd H a (.dT (yQ kvs k v))
def Fu.k{H:Hp}{a:Uf}{kvs:T0 (rm×V)}{k:rm}(e:H a=Fa (.dK kvs)):Fu H a (kV k) (xw kvs k):=.inl ⟨kvs,k,.inl e,Z',Z'⟩
def Oc.k{H:Hp}{a:Uf}{kvs:T0 (rm×V)}{k:rm}(e:H a=Fa (.dK kvs))(hl:kvs.length<Ch):Oc H a (kV k) v (upd H a (.dK (yQ kvs k v))):=.inl ⟨kvs,k,e,Z',hl,Z'⟩
variable {XQ:T0 (Uf × Obj)}{Y:St}{y v:V}{u r:Vl}
section
variable {s:Sd}{o:Option V}{A:Ar}{E:QQX}
def Inv.big(I:Inv X XQ Y H s):XV<s.heap.objs.size:=by have h:wv<s.heap.objs.size:=(I.mod.glob.keeps I.bk).lt;exact iG (by decide) h
def Kl{Q:QQX}(hu:A.units+1<X')(I:Inv X XQ Y H s)(g:Fu H a y (Fa v))(ry:qQ y u)(h:∀w' s',Inv X XQ Y H s'->qQ v w'->Q w' s'):
  pi (Tk X.prog X.w) A (XXd (.ref a) u) Q E s:=by
 rcases g with⟨kvs,k,e,ey,l⟩|⟨kvs,k,b,e,ey,eb,l⟩
 .subst ey;obtain⟨z,hd,vs,Y4,dd⟩:=Kb I.m8 e;obtain⟨w',hw,ZV⟩:=yF.some_of (v:=v) (o:=valueAt vs k) (by rw[l];exact Y4.val k);exact wpAny_getItem_of (GI ry) dd.mapOf hw (h w' _ (I.tok _) ZV)
 .subst ey;cases(show u=Value.ref b from ry);obtain⟨z,hd,xs,Y4,dd⟩:=Ji I.m8 e;obtain⟨w',hw,ZV⟩:=yF.some_of (v:=v) (o:=(atKey xs k).map (·.2)) (by rw[l];exact Y4.val k);obtain⟨p,hp,X2⟩:=iT.mp hw;refine wpAny_getItem_heap (jA hu) (FK I.m8 eb) dd hp ?_;rw[X2];exact h w' _ (I.tok _) ZV
def WR{Q:QQX}(hu:A.units+1<X')(I:Inv X XQ Y H s)(g:Fu H a y o)(ry:qQ y u)(h:∀s',Inv X XQ Y H s'->Q (.bool o.isSome) s'):
  pi (Tk X.prog X.w) A (Op .In u (.ref a)) Q E s:=by
 rcases g with⟨kvs,k,e,ey,l⟩|⟨kvs,k,b,e,ey,eb,l⟩
 .subst ey;obtain⟨z,hd,vs,Y4,dd⟩:=Kb I.m8 e;refine wpAny_in_of (GI ry) hd dd.mapOf ?_;rw[<-(Y4.val k).nL,<-l];exact h _ (I.tok _)
 .subst ey;cases(show u=Value.ref b from ry);obtain⟨z,hd,xs,Y4,dd⟩:=Ji I.m8 e;refine wpAny_in_heap (jA hu) (FK I.m8 eb) hd dd ?_;have q:=(Y4.val k).nL;rw[jJ]at q;rw[<-q,<-l];exact h _ (I.tok _)
def J1{t':Nat}(I:Inv X XQ Y H s)(mu:Uv (H a))(hs:Heap.SameBut a s.heap h')(he:∃q,h'.get? a=Fa q)(new:su X.prog X.w (upd H a ob) h' a ob):
  Inv X XQ Y (upd H a ob) {s with heap:=h',toks:=t'}:=
 I.write (x:=a) (e:=a) mu (.inl Z') (λb q hb z=>(hs.2 b hb).trans z) he new
def Ma{H':Hp}{h':No}{kvs:T0 (rm×V)}(z:kvs.length<=Ch)(hd:(a==XV)=lf)(Y4:KV kvs vs)(dd:h'.DictOf (rJ P w) a vs):
  su P w H' h' a (.dK kvs):=⟨z,hd,vs,Y4,dd⟩
def KY{Q:Unit->Sd->Prop}(hu:A.units+1<X')(I:Inv X XQ Y H s)(g:Oc H a y v H')(ry:qQ y u)(rv:qQ v r)(h:∀s',Inv X XQ Y H' s'->Q () s'):
  pi (Tk X.prog X.w) A (setItem (.ref a) u r) Q E s:=by
 rcases g with⟨kvs,k,e,ey,l,eH⟩|⟨kvs,k,b,e,ey,eb,l,eH⟩
 .subst ey eH;obtain⟨z,hd,vs,Y4,dd⟩:=VP I.m8 e;have hz:vs.length<=Ch:=by rw[<-Y4.length];exact z
  have hl:(yQ kvs k v).length<=Ch:=by have:=AZ kvs k v;lia
  refine wpAny_setItem_pairs (hsz:=hz) (GI ry) dd λh' dd' hs=>h _ ?_;have he:∃q,h'.get? a=Fa q:=let⟨q,_,_,hq,_⟩:=dd';⟨q,hq⟩;exact J1 I (by rw[e];exact True.intro) hs he (Ma hl hd (Y4.put k rv) dd')
 .subst ey eH;cases(show u=Value.ref b from ry);obtain⟨z,hd,xs,Y4,dd⟩:=Vd I.m8 e;have hz:xs.length<=Ch:=by rw[<-jE Y4];exact z
  have hl:(yQ kvs k v).length<=Ch:=by have:=AZ kvs k v;lia
  refine wpAny_setItem_heap (hsz:=hz) (jA hu) (FK I.m8 eb) dd λh' dd' hs=>h _ ?_;obtain⟨q,es,ep,hq,h2,h3,h4,_,h5⟩:=dd';refine J1 I (by rw[e];exact True.intro) hs ⟨q,hq⟩ ⟨hl,hd,_,(Y4.put k eb rv).keeps λc ys ec=>?_,q,es,ep,hq,h2,h3,h4,h5⟩;rw[qk (Vw ec e (λz=>nomatch z))];exact ec
end
variable {kvs:T0 (rm × V)}{k:rm}
section
variable {s:Sd}{A:Ar}{E:QQX}
end
def Gj{XQ:QQY}(I:Inv X XQ Y H s)(g:Fu H a y o):s.TypeIs (.ref a) "dict":=by
 rcases g with⟨kvs,k,e,_,_⟩|⟨kvs,k,b,e,_,_,_⟩
 .obtain⟨_,_,vs,_,dd⟩:=Kb I.m8 e;exact dd.typeIs
 .obtain⟨_,_,xs,_,dd⟩:=Ji I.m8 e;exact dd.typeIs
def U0(td ty tv:TE):TS:=λD Y H=>tv Y H λv H1=>td Y H1 λx H2=>ty Y H2 λy H3=>∃a H4,x=.ref a/\Oc H3 a y v H4/\D.nx Y H4
variable {i e value:Go}{pos X5 ZU:Pos}{td ty tv:TE}
section
variable {o:Go}
def OU(hu:X.A.units+1<X')(ho:PE X o td)(hi:PE X i ty)(hv:PE X value tv)(hs:sB value (Fa (.Subscript o i X5)) pos.line X.env=pure lf):
  PS X (.Assign [.Subscript o i X5] value pos) (U0 td ty tv):=by
 intro XQ s Y H D I h;refine wpAny_Assign_Subscript (sS (hv XQ s Y H _ I h) λr s1 zz=>x5 zz λv H1 I1 rv q1=>sS (ho XQ s1 Y H1 _ I1 q1) λu s2 zz=>x5 zz λx H2 I2 rx q2=>sS (hi XQ s2 Y H2 _ I2 q2) λiv s3 zz=>?_) hs;obtain⟨y,H3,I3,ry,a,H4,ex,g,q3⟩:=zz;subst ex;obtain rfl:u=Value.ref a:=rx;exact KY hu I3 g ry rv λs4 I4=>⟨Y,H4,I4,q3⟩
end
structure M1(X:Cx)(o:Go)(m:Str)(XW:Pos)(e:Go)(XZ:Pos):Prop where
 base:Ps o m X.env (wp o X.env)=wp o X.env
 pD:((xz XZ (Tl [e] X.env)).all (λx=>!x.1)&&(IN XZ (Rs [] X.env)).all (λx=>x.1.isSome)
  &&decide (([e]:List Go).length+([]:List XXc).length+(if ([]:List XXc).isEmpty then 0 else 1)<30))=pc
 line:(XW.endLine==XZ.line)=pc
 trees:xz XZ (Tl [e] X.env)=[(lf,wp e X.env)]
structure M2(X:Cx)(o:Go)(m:Str)(XW:Pos)(e f:Go)(XZ:Pos):Prop where
 base:Ps o m X.env (wp o X.env)=wp o X.env
 pD:((xz XZ (Tl [e,f] X.env)).all (λx=>!x.1)&&(IN XZ (Rs [] X.env)).all (λx=>x.1.isSome)
  &&decide (([e,f]:List Go).length+([]:List XXc).length+(if ([]:List XXc).isEmpty then 0 else 1)<30))=pc
 line:(XW.endLine==XZ.line)=pc
 trees:xz XZ (Tl [e,f] X.env)=[(lf,wp e X.env),(lf,wp f X.env)]
variable {d:V}
section
variable {s:Sd}{o:Option V}{A:Ar}{E:QQX}
end
variable {f:Go}{XW XZ:Pos}{tx:TE}
section
variable {o:Go}
end
section
variable {s:Sd}{A:Ar}{E:QQX}
end
section
variable {s:Sd}{A:Ar}{E:QQX}
end
section
variable {κ:Type}[DecidableEq κ]
end
noncomputable def A8(env:Env):T0 (Str×wS)->T0 (Str×Uf)->T0 (Str×Uf)
 | [],acc=>acc
 | (n,k)::r,acc=>A8 env r (if k==.free then(n,(env.cells.lookup n).getD 0)::acc else acc)
theorem Hm{env:Env}{f:(Str×wS)->T0 (Str×Uf)->Sem (ForInStep (T0 (Str×Uf)))} (hf:∀x cs,(x.2=.free->∃c,env.cells.lookup x.1=Fa c)->f x cs=pure (.yield (if x.2==.free then(x.1,(env.cells.lookup x.1).getD 0)::cs else cs))):
  ∀(l:T0 (Str×wS)) (acc:T0 (Str×Uf)),(∀x∈l,x.2=.free->∃c,env.cells.lookup x.1=Fa c)->forIn l acc f=pure (A8 env l acc)
 | [],acc,_=>by rw[kB];rfl
 | (n,k)::r,acc,h=>by rw[kl,hf (n,k) acc (h _ dY),pure_bind];exact Hm hf r _ λx hx=>h x (dN _ hx)
def yH{scope:XXb}{env:Env}(h:∀x∈scope.names,x.2=.free->∃c,env.cells.lookup x.1=Fa c):closureFor scope env=pure (A8 env scope.names []):=by
 unfold closureFor;have e:=Hm (env:=env) (f:=λ(x:Str×wS) (cs:T0 (Str×Uf))=>(do
   if x.2==.free then
    let a<-cellOf env x.1
    pure (ForInStep.yield ((x.1,a)::cs))
   else pure (ForInStep.yield cs))) (λx cs hx=>by
  cases hk:x.2==NameKind.free with
  | false=>simp
  | true=>
   obtain⟨c,hc⟩:=hx (by simpa using hk);simp[cellOf,hc]) scope.names [] h
 first
  | exact(eZ (·>>=pure) e).trans (by simp)
  | (simp only[bind_pure];exact e)
  | (rw[<-e];rfl)
theorem NV{env:Env}{x:Str}{c:Uf}:∀{l:T0 (Str×wS)} {acc:T0 (Str×Uf)},(∀x∈l,x.2=.free->∃c,env.cells.lookup x.1=Fa c)->(∀x c,acc.lookup x=Fa c->env.cells.lookup x=Fa c)->(A8 env l acc).lookup x=Fa c->env.cells.lookup x=Fa c
 | [],acc,_,ha,h=>ha x c h
 | (n,k)::r,acc,hl,ha,h=>by
  refine NV (l:=r) (acc:=if k==.free then(n,(env.cells.lookup n).getD 0)::acc else acc) (λy hy=>hl y (dN _ hy)) (λy d hd=>?_) h;cases hk:k==NameKind.free with
  | false=>rw[hk]at hd;exact ha y d (by simpa using hd)
  | true=>
   rw[hk,dw Z']at hd;obtain⟨e,he⟩:=hl (n,k) dY (by simpa using hk);rw[eP]at hd;cases hy:y==n with
   | true=>
    rw[hy]at hd;have yn:y=n:=by simpa using hy
    subst yn;have he:env.cells.lookup y=Fa e:=he;rw[he]at hd ⊢;exact hd
   | false=>rw[hy]at hd;exact ha y d hd
theorem Mg{x:Str}:∀{l:T0 (Str×wS)} {acc:T0 (Str×Uf)},(∃c,acc.lookup x=Fa c)->∃c,(A8 env l acc).lookup x=Fa c
 | [],_,h=>h
 | (n,k)::r,acc,h=>by
  refine Mg (l:=r) ?_;cases hk:k==NameKind.free with
  | false=>simpa using h
  | true=>
   rw[dw Z',eP];cases hy:x==n with
   | true=>exact⟨_,Z'⟩
   | false=>exact h
theorem Iw{x:Str}:∀{l:T0 (Str×wS)} {acc:T0 (Str×Uf)},l.lookup x=Fa .free->∃c,(A8 env l acc).lookup x=Fa c
 | [],_,h=>by simp at h
 | (n,k)::r,acc,h=>by
  rw[eP]at h;cases hy:x==n with
  | true=>rw[hy]at h;have hk:k=.free:=dD h;subst hk;refine Mg (l:=r) ⟨(env.cells.lookup n).getD 0,?_⟩;show List.lookup x (if NameKind.free==NameKind.free then(n,(env.cells.lookup n).getD 0)::acc else acc)=Fa ((env.cells.lookup n).getD 0);rw[dw (by rfl),eP,hy]
  | false=>rw[hy]at h;exact Iw (l:=r) h
theorem uK{env:Env}{x:Str}:∀{l:T0 (Str×wS)},(l.map λ(n,k)=>if (k==NameKind.free&&env.scope.kind==.function&&env.kindOf n==Fa .cell)then(n,NameKind.cell)else(n,k)).lookup x
   = (l.lookup x).map λk=>if (k==NameKind.free&&env.scope.kind==.function&&env.kindOf x==Fa .cell)then NameKind.cell else k
 | []=>rfl
 | (n,k)::r=>by
  rw[eh];show List.lookup x ((if (k==NameKind.free&&env.scope.kind==.function&&env.kindOf n==Fa .cell)=pc then(n,NameKind.cell)else(n,k))::_)=_;cases hy:x==n with
  | true=>
   have yn:x=n:=by simpa using hy
   subst yn;by_cases hc:(k==NameKind.free&&env.scope.kind==.function&&env.kindOf x==Fa .cell)=pc
   .rw[dw hc,eP,eP,hy];simp only[km];rw[dw hc]
   .rw[dh hc,eP,eP,hy];simp only[km];rw[dh hc]
  | false=>
   by_cases hc:(k==NameKind.free&&env.scope.kind==.function&&env.kindOf n==Fa .cell)=pc
   .rw[dw hc,eP,eP,hy];exact uK
   .rw[dh hc,eP,eP,hy];exact uK
noncomputable def Pn(ix:T0 (Option Nat))(Y:St):St:=ix.map λo=>o.bind λi=>(Y[i]?).join
abbrev Cx.comp(X:Cx)(scope:XXb)(N':QQQ)(C:Uf)(s0:Sd)(H0:Hp)(ex:QXQ):Cx:=
 {X with N:=N',s₀:=s0,H₀:=H0,env:=compEnvC scope (A8 X.env scope.names []) C X.env,outer:=X.stack,ex:=ex,fn:=λ_=>lf,pn:=[],xe:=λ_ _=>False}
structure sF(X:Cx)(scope:XXb)(ix:List (Option Nat))(N':QQQ):Prop where
 kind:scope.kind=.function
 oK:∀y∈scope.names,y.2≠.cell
 nam:∀y∈scope.names,y.2=.local->scope.names.lookup y.1=Fa .local
 fre:∀y∈scope.names,y.2=.free->X.env.scope.names.lookup y.1=Fa .cell\/X.env.scope.names.lookup y.1=Fa .free
 len:ix.length=N'.length
 at_:∀(j i:Nat) (x:Str),ix[j]?=Fa (Fa i)->N'[j]?=Fa x->X.N[i]?=Fa x/\scope.names.lookup x=Fa .free
variable {scope:XXb}{ix:T0 (Option Nat)}{N':QQQ}{fp:QXQ}
section
variable {s:Sd}
def sF.cells(S:sF X scope ix N')(ok:X.Ok):∀x∈scope.names,x.2=.free->∃c,X.env.cells.lookup x.1=Fa c:=λx hx hk=>ok.has x.1 (S.fre x hx hk)
def sF.sub(S:sF X scope ix N')(ok:X.Ok){x:Str}{c:Uf}(h:(A8 X.env scope.names []).lookup x=Fa c):X.env.cells.lookup x=Fa c:=NV (S.cells ok) (λ_ _ z=>by simp at z) h
theorem vv{x:Str}{k:wS}:∀{l:T0 (Str×wS)},l.lookup x=Fa k->(x,k)∈l
 | [],h=>by simp at h
 | (n,j)::r,h=>by
  rw[eP]at h;cases hy:x==n with
  | true=>
   rw[hy]at h;have yn:x=n:=by simpa using hy
   subst yn;rw[dD h];exact dY
  | false=>rw[hy]at h;exact dN _ (vv h)
def Inv.comp{C:Uf}{h1:No}{tk:Nat}(I:Inv X XQ Y H s)(S:sF X scope ix N')(hf:∀b∈fp,Bq X XQ H b)(X3:∀b∈fp,b<s.heap.objs.size)(hC:s.heap.objs.size<=C) (k:∀b o,s.heap.get? b=Fa o->h1.get? b=Fa o) (hn:h1.Ns C (λ_=>Db)):Inv (X.comp scope N' C s H fp) (X.pn++XQ) (Pn ix Y) H {s with heap:=h1,toks:=tk}:=by
 have sub:∀{x:Str} {c:Uf},(A8 X.env scope.names []).lookup x=Fa c->X.env.cells.lookup x=Fa c:=λh=>S.sub I.ok h;refine⟨⟨I.ok.mod,S.kind,I.ok.glob,I.ok.blt,hC,λx y c e1 e2=>I.ok.inj x y c (sub e1) (sub e2),λx hx=>?_,λ_ _ z=>(dH z).elim,I.ok.hd,I.ok.frames,.inl Z',λb hb=>⟨dP (dU (X3 b hb) hC),λx c e=>(hf b hb).2.2.2.2.1 x c (sub e)⟩,I.bs,eE I.ok.ow I.sz,λb o e hb=>?_,λb hb hfs=>?_,I.stack,I.nR⟩,Z',I.bare,Un.kept k,⟨_,hn,λi x v e1 e2 e3=>?_⟩,λx c e=>?_,I.m8.fresh hC,λx c e=>I.nv x c (sub e),λp hp=>?_,I.m8.kept k,?_⟩
 .have hx:(relabel scope X.env).names.lookup x=Fa .cell\/(relabel scope X.env).names.lookup x=Fa .free:=hx;have e:(relabel scope X.env).names.lookup x=(scope.names.lookup x).map λk=>if (k==NameKind.free&&X.env.scope.kind==.function&&X.env.kindOf x==Fa .cell)then NameKind.cell else k:=uK
  rw[e]at hx;cases q:scope.names.lookup x with
  | none=>rw[q]at hx;rcases hx with hx|hx<;>simp at hx
  | some kd=>
   cases kd with
   | free=>exact Iw q
   | cell=>exact absurd Z' (S.oK _ (vv q))
   | _=>rw[q]at hx;rcases hx with hx|hx<;>simp at hx
 .rcases(hf b hb).2.2.2.1 with z|z
  .exact I.ok.n9 b o e z
  .exact absurd (dU (dG e) (eE I.ok.ow z)) (fu _)
 .rcases dC.mp (I.nM b hfs)with z|z
  .exact(hf b hb).2.1 z
  .exact(hf b hb).2.2.1 z
 .have ZX:(ix[i]?).map (λo=>o.bind λi=>(Y[i]?).join)=Fa (Fa v):=by have z:(Pn ix Y)[i]?=Fa (Fa v):=e2;unfold Pn at z;rw[dM]at z;exact z
  cases q:ix[i]? with
  | none=>rw[q]at ZX;cases ZX
  | some o=>
   rw[q]at ZX;cases o with
   | none=>cases ZX
   | some j=>
    have ZY:(Y[j]?).join=Fa v:=dD ZX;have e4:Y[j]?=Fa (Fa v):=by
     cases r:Y[j]? with
     | none=>rw[r]at ZY;cases ZY
     | some w=>rw[r]at ZY;exact eZ Fa ZY
    obtain⟨n1,n2⟩:=S.at_ i j x q e1;obtain⟨m,hm,hl⟩:=I.loc;have hk:=S.fre _ (vv n2) Z';have hv:RV X.env.scope x:=by
     rcases hk with z|z
     .exact .inr (.inl z)
     .exact .inr (.inr z)
    obtain⟨u,ru,lk⟩:=hl j x v n1 e4 hv;refine⟨u,ru,?_⟩;have hk':X.env.kindOf x=Fa .cell\/X.env.kindOf x=Fa .free:=hk;rcases lk with⟨z,_⟩|⟨_,c,hc,hcell⟩
    .rcases hk' with y|y<;>(rw[y]at z;cases z)
    .obtain⟨c',hc'⟩:=Iw (env:=X.env) (acc:=[]) n2;have:=sub hc';rw[hc]at this;cases this;refine .inr ⟨?_,c,hc',hcell.keeps k⟩;show(relabel scope X.env).names.lookup x=Fa .cell\/(relabel scope X.env).names.lookup x=Fa .free;have e:(relabel scope X.env).names.lookup x=(scope.names.lookup x).map λk=>if (k==NameKind.free&&X.env.scope.kind==.function&&X.env.kindOf x==Fa .cell)then NameKind.cell else k:=uK
     rw[e,n2];simp only[km];split
     .exact .inl Z'
     .exact .inr Z'
 .obtain⟨v,q⟩:=I.cell x c (sub e);exact⟨v,q.keeps k⟩
 .obtain⟨e,n,ne,nf,d⟩:=I.pin p (by simpa using hp);refine⟨k _ _ e,n,dP (dU (dG e) hC),λz=>?_,d⟩;rcases dC.mp (I.nM p.1 z)with y|y
  .exact ne y
  .exact nf y
 .show(Pn ix Y).length=N'.length;unfold Pn;rw[de];exact S.len
end
section
variable {prog:Pg}{w:Wo}{A:Ar}{R:Result→Sd→Prop}{s:Sd}
def x9{YG Ym iter:Go}{Ys:T0 Go}{scope:XXb}{pos:Pos}{it acc:Vl}{env:Env}(I:Nat->Sd->Prop){EX:QQX}(hEX:∀e s',EX e s'->notedBy (Tk prog w) A env (λx s'=>R (.error x) s') e s') (turn:∀n s,I n s->pi (Tk prog w) A (pyNext it) (λr s₁=>match r with
   | none=>R (.ok .next) s₁
   | some v=>pi (Tk prog w) A (XXg Ym it v) (λ_ s₁=>pi (Tk prog w) A (assign Ym env v) (λ_ s₂=>
     pi (Tk prog w) A (forIn Ys pc λc r=>if r=pc then do let ok<-isTrue c env (wp c env);pure (ForInStep.yield ok)else pure (ForInStep.yield r)) (λok s₃=>
      if ok=pc then pi (Tk prog w) A (wp YG env) (λx s₄=>
       pi (Tk prog w) A (call (.builtin "list.append") [acc,x]) (λ_ s₅=>∃m,m<n/\I m s₅) (λ_ _=>False) s₄) EX s₃
      else ∃m,m<n/\I m s₃) (λ_ _=>False) s₂) (λ_ _=>False) s₁) (λ_ _=>False) s₁) (λ_ _=>False) s)
  (n:Nat) (h:I n s):
  XXh (Tk prog w) A (.compLoop (.ListComp YG [⟨Ym,iter,Ys,0⟩] scope pos) 0 it acc env) R s:=by
 refine codeAny_loop Z' I (λn s hI=>?_) n h;show pi _ A ((compTurn (.ListComp YG [⟨Ym,iter,Ys,0⟩] scope pos) 0 it acc env).onRaise (λx=>do noteFrame x env;theTreesLotGoes x)) _ _ s;refine wpAny_noted ?_;rw[compTurn_list];refine df (hW (df (eJ (turn n s hI) (λr s₁ h₁=>?_) λ_ _ h'=>h'.elim)));cases r with
 | none=>exact dA h₁
 | some v=>
  refine df (eJ h₁ (λ_ s₁' h₁'=>?_) λ_ _ h'=>h'.elim);refine df (eJ h₁' (λ_ s₂ h₂=>df (eJ h₂ (λok s₃ h₃=>?_) λ_ _ h'=>h'.elim)) λ_ _ h'=>h'.elim);cases ok with
  | false=>exact dA ⟨Z',h₃⟩
  | true=>exact df (df (eJ h₃ (λx s₄ h₄=>df (eJ h₄ (λ_ s₅ h₅=>dA (dA ⟨Z',h₅⟩)) λ_ _ h'=>h'.elim)) hEX))
end
def PF(X:Cx)(Ys:T0 Go)(t:TT):Prop:=
 ∀(XQ:QQY) (s:Sd) (Y:St) (H:Hp) (Q:Bool->Hp->Prop),Inv X XQ Y H s->t Y H Q->
  pi (Tk X.prog X.w) X.A (forIn Ys pc λc r=>if r=pc then do let ok<-isTrue c X.env (wp c X.env);pure (ForInStep.yield ok)else pure (ForInStep.yield r)) (TP X XQ Y Q) X.xe s
def UC:TT:=λ_ H Q=>Q pc H
def Tw:PF X [] UC:=λ_ _ _ H _ I h=>wpAny_tests_nil ⟨H,I,h⟩
def SJ(h:PT X c t):PF X [c] t:=λXQ s Y H Q I q=>wpAny_tests_one (h XQ s Y H Q I q)
def RB(ix:T0 (Option Nat))(g:TG)(tt:TT)(te:TE)(Y:St)(J:It)(Q:VK)(H:Hp):Prop:=
 ∃W:Nat->Nat->T0 V->St->Hp->Prop,(∃m,W 0 m [] (Pn ix Y) H)/\∀i m ys σ' H,W i m ys σ' H->
  (J.stop i H/\ys.length<=Ch/\∀D,H D=Db->Q (.ref D) (upd H D (.lst ys)))\/
  (J.go i H/\ys.length<Ch/\∀x H',J.oZ i H x H'->g x σ' H' λσ2 H2=>tt σ2 H2 λb H3=>if b=pc then te σ2 H3 λy H4=>∃m',m'<m/\W (i+1) m' (ys++[y]) σ2 H4 else ∃m',m'<m/\W (i+1) m' ys σ2 H3)
def MF(ix:T0 (Option Nat))(wi:TI)(g:TG)(tt:TT)(te:TE):TE:=λY H Q=>wi Y H λJ H1=>RB ix g tt te Y J Q H1
variable {tg iter YG:Go}{Ys:T0 Go}{g:TG}{tt:TT}{te:TE}{J:It}{it:Uf}{tn:Nat→No→Prop}{Q:VK}
section
variable {s:Sd}
def CS{XP:Uf->Sd->Hp->QXQ->QQY->St->Vl->Sd->Prop}{RR:Vl->Uf->Result->Sd->Prop}{E:QQX}(hc:X.calm=pc)(S:sF X scope ix N')(I:Inv X XQ Y H s)(T:Gp X.prog X.w X.K tg J fp it tn)(st:tn 0 s.heap)(hf:∀b∈fp,Bq X XQ H b) (hg:∀C s0 H0 ex,PG (X.comp scope N' C s0 H0 ex) tg g) (ht:∀C s0 H0 ex,PF (X.comp scope N' C s0 H0 ex) Ys tt) (he:∀C s0 H0 ex XQ s Y H Q,Inv (X.comp scope N' C s0 H0 ex) XQ Y H s->te Y H Q->pi (Tk X.prog X.w) X.A (wp YG (X.comp scope N' C s0 H0 ex).env) (EP (X.comp scope N' C s0 H0 ex) XQ Y Q) (XP C s0 H0 ex XQ Y) s) (hx:∀C D e s',s.heap.objs.size<=C->(∃YO σ',(∀b∈fp,∃o,(b,o)∈YO)/\XP C s H fp YO σ' e s')->notedBy (Tk X.prog X.w) X.A (compEnvC scope (A8 X.env scope.names []) C X.env) (λx s'=>RR D C (.error x) s') e s') (hw:RB ix g tt te Y J Q H) (XX:∀D C s' H' m,s.heap.objs.size<=C->H' C=Db->s'.heap.Ns C m->Inv X XQ Y H' s'->Q (.ref D) H'->RR (.ref D) C (.ok .next) s'):
  pi (Tk X.prog X.w) X.A (newList []) (λacc s₃=>pi (Tk X.prog X.w) X.A (newFunctionEnv scope X.env.globals (A8 X.env scope.names []) [] X.env.qual Db .none (Fa X.env)) (λYy s₄=>
   XXh (Tk X.prog X.w) X.A (.compStart (.ListComp YG [⟨tg,iter,Ys,0⟩] scope pos) 0 (.ref it) acc {Yy with scope:=relabel scope X.env}) (RR acc Yy.locals) s₄) E s₃) E s:=by
 obtain⟨W,⟨m0,w0⟩,turn⟩:=hw;have X3:∀b∈fp,b<s.heap.objs.size:=λb hb=>by obtain⟨o,e,_⟩:=T.obj _ _ st b hb;exact dG e
 refine fZ (wpAny_newFunctionEnv S.oK (by intro y hy;simp at hy) (λh₁ Zz ZZ=>?_) S.kind);dsimp only at Zz ZZ ⊢;generalize hH2:s.heap.push {cls:=.type "list",dict:=none,data:=.seq ([]:T0 Vl).toArray}=H2 at Zz ZZ ⊢;have hC:H2.objs.size=s.heap.objs.size+1:=by rw[<-hH2,fS]
 have hDC:s.heap.objs.size≠H2.objs.size:=by rw[hC];exact dP (fP _)
 have Z0:s.heap.objs.size<=H2.objs.size:=by rw[hC];exact ie _
 have below:∀b,b<s.heap.objs.size->b≠H2.objs.size/\b≠s.heap.objs.size:=λb hb=>⟨by rw[hC];exact dP (gN hb),dP hb⟩;have Yp:∀b o,s.heap.get? b=Fa o->h₁.get? b=Fa o:=λb o e=>ZZ.extBut b o (below b (dG e)).1 (dz _ (hH2 ▸ dz _ e));have hacc:h₁.get? s.heap.objs.size=Fa {cls:=.type "list",data:=.seq ([]:T0 Vl).toArray 0}:=ZZ.extBut _ _ hDC (dz _ (hH2 ▸ dO _ Z'));have Zz:h₁.Ns H2.objs.size (λ_=>Db):=Zz;have Y1:∀{H':Hp} {pl:QQY},(∀b∈fp,H' b=Db)->(∀p∈pl,p.1∉fp)->∀b∈fp,Bq (X.comp scope N' H2.objs.size s H fp) (X.pn++XQ++pl) H' b:=λ{H' pl} hn X9 b hb=>by
  refine⟨hn b hb,dP (dU (X3 b hb) Z0),λz=>?_,.inl hb,λx c e=>(hf b hb).2.2.2.2.1 x c (S.sub I.ok e),λp hp=>?_⟩
  .rcases dC.mp (I.nM b z)with y|y
   .exact(hf b hb).2.1 y
   .exact(hf b hb).2.2.1 y
  .rcases eF.mp (show p∈X.pn++XQ++pl by simpa using hp)with z|z
   .exact(hf b hb).2.2.2.2.2 p z
   .intro q;exact X9 p z (q ▸ hb)
 have loop:∀s₃:Sd,s₃={s with heap:=h₁,toks:=s.toks+([]:T0 (Str×Vl)).length}->
   XXh (Tk X.prog X.w) X.A (.compLoop (.ListComp YG [⟨tg,iter,Ys,0⟩] scope pos) 0 (.ref it) (.ref s.heap.objs.size) (compEnvC scope (A8 X.env scope.names []) H2.objs.size X.env))
    (RR (.ref s.heap.objs.size) H2.objs.size) s₃:=by
  rintro s₃ rfl
  refine x9 (hEX:=λe s' z=>hx _ _ e s' Z0 z) (λn s'=>∃(i:Nat) (ys:T0 V) (us:T0 Vl) (k:Nat) (σ':St) (H':Hp),Inv (X.comp scope N' H2.objs.size s H fp) (X.pn++XQ) σ' H' s'/\tn i s'.heap/\(∀b∈fp,H' b=Db)/\H' s.heap.objs.size=Db/\
   s'.heap.get? s.heap.objs.size=Fa {cls:=.type "list",data:=.seq us.toArray k}/\qK ys us/\ys.length<=Ch/\W i n ys σ' H') ?_ m0
   ⟨0,[],[],0,Pn ix Y,H,I.comp S hf X3 Z0 Yp Zz,T.keep _ _ _ st λb _ o e=>Yp b o e,λb hb=>(hf b hb).1,I.m8.fresh (dE _),hacc,.nil,eX _,w0⟩
  rintro n s' ⟨i,ys,us,k,σ',H',I',YE,fr',hD',Yw,rv',hz',w'⟩
  have cellD:∀x c,(X.comp scope N' H2.objs.size s H fp).env.cells.lookup x=Fa c->c≠s.heap.objs.size:=λx c e=>by obtain⟨v,q⟩:=I.cell x c (S.sub I.ok e);exact dP q.lt
  have pinD:∀p∈X.pn++XQ,p.1≠s.heap.objs.size:=λp hp=>dP (dG (I.pin p hp).1);have dfs:s.heap.objs.size∉(X.comp scope N' H2.objs.size s H fp).fs:=λz=>by
   rcases dC.mp (I.nM _ z)with y|y
   .exact absurd I.lt (by rw[<-y];exact fu _)
   .exact I.oX (dE _) y
  have dfp:s.heap.objs.size∉fp:=λz=>absurd (X3 _ z) (fu _);have IpD:Inv (X.comp scope N' H2.objs.size s H fp) (X.pn++XQ++[(s.heap.objs.size,{cls:=.type "list",data:=.seq us.toArray k})]) σ' H' s':=I'.nX λp hp=>by
   rcases eF.mp hp with z|z
   .exact I'.pin p (eO _ z)
   .have e:p=(s.heap.objs.size,{cls:=.type "list",data:=.seq us.toArray k}):=by simpa using z
    subst e;exact⟨Yw,hD',hDC,dfs,λv z=>by cases z⟩
  have pfp:∀p∈[((s.heap.objs.size,{cls:=.type "list",data:=.seq us.toArray k}):Uf×Obj)],p.1∉fp:=λp hp=>by
   have e:p=(s.heap.objs.size,{cls:=.type "list",data:=.seq us.toArray k}):=by simpa using hp
   subst e;exact dfp
  rcases turn i n ys σ' H' w' with⟨stop,hz,q⟩|⟨go,hz,step⟩
  .refine eJ (T.done (X.comp scope N' H2.objs.size s H fp) Z' Z' Z' hc i _ s' σ' H' (λ_ _=>False) IpD (Y1 fr' pfp) YE stop) (λr s1 ⟨hr,I1⟩=>?_) λ_ _ z=>z;subst hr;show RR _ _ _ _;have ho1:s1.heap.get? s.heap.objs.size=Fa {cls:=.type "list",data:=.seq us.toArray k}:=(I1.pin (s.heap.objs.size,{cls:=.type "list",data:=.seq us.toArray k}) (by simp)).1;obtain⟨m,hnC,_⟩:=id I1.loc;refine XX _ _ s1 (upd H' s.heap.objs.size (.lst ys)) m Z0 (by rw[qk (dW hDC)];exact I1.free) hnC ?_ (q _ hD');have nD:∀b o,s.heap.get? b=Fa o->b≠s.heap.objs.size:=λb o e=>(below b (dG e)).2;have hD0:H s.heap.objs.size=Db:=I.m8.fresh (dE _);refine I.oW (s':=s1) (ch:=fp) I1.os ⟨λb o e n1 n2 n3=>?_,λb o e n1 n2 n3=>?_,λb o e n1 n2=>?_,λb o e n1=>?_,λb xs e=>?_,λb o u e=>?_,λb ps e=>?_⟩ (λb u e=>?_) I1.bare λb hb=>⟨(hf b hb).2.2.2.1,(hf b hb).2.1,(hf b hb).2.2.2.2.1,(hf b hb).2.2.2.2.2⟩
   .exact I1.base.keep b o e n1 n2 n3
   .exact I1.base.slot b o e n1 n2 n3
   .rw[qk (nD b o e)];exact I1.base.free b o e n1 n2
   .exact I1.base.there b o e n1
   .rw[qk (ra e hD0)];exact I1.base.nK b xs e
   .rw[qk (ra e hD0)];exact I1.base.nI b o u e
   .obtain⟨more,z⟩:=I1.base.nP b ps e;exact⟨more,by rw[qk (ra e hD0)];exact z⟩
   .by_cases hb:b=s.heap.objs.size
    .subst hb;rw[qw]at e;cases e;exact⟨hz,us,k,rv',ho1⟩
    .rw[qk hb]at e;exact(I1.m8 b u e).nG (λc v _ z=>z) (λc z=>by rw[qk (ra z hD')];exact z) (λc xs z=>by rw[qk (ra z hD')];exact z)
  .refine eJ (T.item (X.comp scope N' H2.objs.size s H fp) Z' Z' Z' hc i _ s' σ' H' (λ_ _=>False) IpD (Y1 fr' pfp) YE go) (λr s1 ⟨v,hr,h4⟩=>?_) λ_ _ z=>z;subst hr;show pi _ _ (XXg tg (.ref it) v) _ _ s1;refine eJ h4 (λ_ s2 zz=>?_) λ_ _ z=>z;obtain⟨x,H5,I5,r5,y5,ZK,fr5⟩:=zz;have I5':=I5.pinned (Y1 fr5 pfp) (T.obj _ _ ZK);refine eJ (hg H2.objs.size s H fp _ s2 σ' H5 x v _ I5' r5 (step x H5 y5)) (λ_ s3 ⟨σ6,H6,I6,q6⟩=>?_) λ_ _ z=>z;refine eJ (ht H2.objs.size s H fp _ s3 σ6 H6 _ I6 q6) (λok s4 ⟨H7,I7,q7⟩=>?_) λ_ _ z=>z;have facts:∀{σ7:St} {H7:Hp} {s7:Sd},Inv (X.comp scope N' H2.objs.size s H fp) (X.pn++XQ++[(s.heap.objs.size,{cls:=.type "list",data:=.seq us.toArray k})]++Ca fp s2.heap) σ7 H7 s7->
     tn (i+1) s7.heap/\(∀b∈fp,H7 b=Db)/\H7 s.heap.objs.size=Db/\s7.heap.get? s.heap.objs.size=Fa {cls:=.type "list",data:=.seq us.toArray k}:=λ{σ7 H7 s7} K7=>by
    have pd:=K7.pin (s.heap.objs.size,{cls:=.type "list",data:=.seq us.toArray k}) (by simp);refine⟨T.keep _ _ _ ZK λb hb o e=>(K7.pin (b,o) (eO _ (eO _ (vw hb e)))).1,λb hb=>?_,pd.2.1,pd.1⟩;obtain⟨o,e,d⟩:=T.obj _ _ ZK b hb;exact(K7.pin (b,o) (eO _ (eO _ (vw hb e)))).2.1
   cases ok with
   | false=>rw[dh dH]at q7 ⊢;obtain⟨m',hm,w7⟩:=q7;obtain⟨t7,f7,d7,o7⟩:=facts I7;exact⟨m',hm,i+1,ys,us,k,σ6,H7,I7.ny.ny,t7,f7,d7,o7,rv',hz',w7⟩
   | true=>
    rw[dw Z']at q7 ⊢;refine eJ (he H2.objs.size s H fp _ s4 σ6 H7 _ I7 q7) (λyv s5 ⟨y,H8,I8,r8,m',hm,w8⟩=>?_) λ_ _ z=>⟨_,_,λb hb=>(by
     obtain⟨o,e,_⟩:=T.obj _ _ ZK b hb;exact⟨o,eO _ (vw hb e)⟩),z⟩
    obtain⟨t8,f8,d8,o8⟩:=facts I8;have hsz:us.toArray.size<=Ch:=by rw[dF,<-rv'.length];exact hz'
    refine append_at (hsz:=hsz) o8 λh' sb od=>?_;refine⟨m',hm,i+1,ys++[y],us++[yv],k+1,σ6,H8,?_,T.keep _ _ _ t8 λb hb o e=>(sb.2 b λq=>dfp (q ▸ hb)).trans e,f8,d8,?_,rv'.append (.cons r8 .nil),?_,w8⟩
    .exact I8.ny.ny.turned (it:=s.heap.objs.size) (t':=s5.toks) (λb o hb e=>(sb.2 b hb).trans e) d8 hDC (.inr (dE _)) cellD (by simpa using pinD)
    .rw[od,List.push_toArray]
    .rw[dq,dX];exact hz
 exact codeAny_compStart_list (loop _ Z') (T.self _ 0 _ _ _ (T.keep _ _ _ st λb _ o e=>Yp b o e) (loop _ Z'))
def Inv.letGo{C:Uf}(I:Inv X XQ Y H s)(I':Inv X XQ σ' H' s')(hC:s.heap.objs.size<=C)(hn:H' C=Db)(hs:Heap.SameBut C s'.heap h'):Inv X XQ σ' H' {s' with heap:=h'}:=
 I'.turned (t':=s'.toks) (it:=C) (λb o hb e=>(hs.2 b hb).trans e) hn (λz=>absurd (dU I.lt hC) (by rw[z];exact fu _)) (.inr (eE I.sz hC))
  (λx c e z=>by
   obtain⟨v,r⟩:=I.cell x c e;exact absurd (dU r.lt hC) (by rw[z];exact fu _))
  (λp hp z=>absurd (dU (dG (I.pin p hp).1) hC) (by rw[z];exact fu _))
def OJ(hc:X.calm=pc)(S:sF X scope ix N')(hi:PI X tg iter wi)(hg:∀C s0 H0 ex,PG (X.comp scope N' C s0 H0 ex) tg g)(ht:∀C s0 H0 ex,PF (X.comp scope N' C s0 H0 ex) Ys tt)(he:∀C s0 H0 ex,PE (X.comp scope N' C s0 H0 ex) YG te) (hs:∀x,AT iter X.env x=pure x:=by intro _;rfl):PE X (.ListComp YG [⟨tg,iter,Ys,0⟩] scope pos) (MF ix wi g tt te):=by
 intro XQ s Y H Q I h;rw[eval_ListComp];refine jY (use:=none) Z' hs (yH (S.cells I.ok)) S.kind S.nam (eJ (hi XQ s Y H _ I h) (λxv s₁ h₁=>eJ h₁ (λitv s₂ h₂=>?_) λ_ _ e=>e) λ_ _ e=>e);obtain⟨it,fp,tn,J,H2,e,I2,T,Yh,f2,hw⟩:=h₂;subst e;refine CS (RR:=λacc C=>compPost (Tk X.prog X.w) X.A X.xe Db (EP X XQ Y Q) acc C) hc S I2 T Yh f2 hg ht (XP:=λ_ _ _ _ _ _ _ _=>False) he (λ_ _ _ _ _ z=>by obtain⟨_,_,_,z⟩:=z;exact z.elim) hw λD C s' H' m hCs hCn hn I3 q=>?_;exact⟨m,hn,λh' hs'=>⟨.ref D,_,I2.letGo I3 hCs hCn hs',Z',q⟩⟩
def IC{i:Nat}{x:Str}{px ZA:Pos}(hN:X.N.Nodup)(hix:X.N[i]?=Fa x)(hx:Os X.env.scope x)(hc:X.calm=pc)(S:sF X scope ix N')(hi:PI X tg iter wi)(hg:∀C s0 H0 ex,PG (X.comp scope N' C s0 H0 ex) tg g)(ht:∀C s0 H0 ex,PF (X.comp scope N' C s0 H0 ex) Ys tt) (he:∀C s0 H0 ex,PE (X.comp scope N' C s0 H0 ex) YG te) (Zj:sB (.ListComp YG [⟨tg,iter,Ys,0⟩] scope pos) (Fa (.Name x px)) ZA.line X.env=pure pc) (hf:NA X x:=by first|exact .inl Z'|exact .inr Z'|assumption) (hs:∀x,AT iter X.env x=pure x:=by intro _;rfl):
  PS X (.Assign [.Name x px] (.ListComp YG [⟨tg,iter,Ys,0⟩] scope pos) ZA) (QD (MF ix wi g tt te) (Jw i)):=by
 intro XQ s Y H D I h;rw[exec_Assign_Name_used _ _ _ _ Zj];refine df (hW (df ?_));show pi _ X.A (do let _<-comprehension (.ListComp YG [⟨tg,iter,Ys,0⟩] scope pos) scope X.env _ (newList []) lf (wp iter X.env) (Fa (assign (.Name x px) X.env))) _ _ s;refine df (eJ (jY (use:=some (assign (.Name x px) X.env)) (Q:=λ_ s'=>SP X XQ D .next s') Z' hs (yH (S.cells I.ok)) S.kind S.nam
  (eJ (hi XQ s Y H _ I h) (λxv s₁ h₁=>eJ h₁ (λitv s₂ h₂=>?_) λ_ _ e=>e) λ_ _ e=>e)) (λ_ s' hq=>dA (dA hq)) λ_ _ e=>e)
 obtain⟨it,fp,tn,J,H2,e,I2,T,Yh,f2,hw⟩:=h₂;subst e;refine CS (RR:=λacc C=>compPost (Tk X.prog X.w) X.A X.xe (Fa (assign (.Name x px) X.env)) (λ_ s'=>SP X XQ D .next s') acc C) hc S I2 T Yh f2 hg ht (XP:=λ_ _ _ _ _ _ _ _=>False) he (λ_ _ _ _ _ z=>by obtain⟨_,_,_,z⟩:=z;exact z.elim) hw λDa C s' H' m hCs hCn hn I3 q=>?_;show pi _ X.A (assign (.Name x px) X.env (.ref Da)) _ _ _;refine lF (DW I3 hN hix hx (v:=.ref Da) Z' (λs4 I4 ⟨a,sb,ha⟩=>?_) hf);have ca:C≠a:=λz=>by
  rcases ha with y|y
  .exact absurd (dU I2.lt hCs) (by rw[z,y];exact fu _)
  .obtain⟨v,r⟩:=I2.cell x a y;exact absurd (dU r.lt hCs) (by rw[z];exact fu _)
 exact⟨m,hn.sameBut sb ca,λh' hs'=>⟨_,H',I2.letGo I4 hCs hCn hs',q⟩⟩
end
def Bo:typeLookup (.type "list") "__getattr__"=pure Db:=by rw[typeLookup_type,kC];kernel_rfl
def FC:typeLookup (.type "list") "keys"=pure Db:=by rw[typeLookup_type,kC];kernel_rfl
section
variable {prog:Pg}{w:Wo}{A:Ar}{E:QQX}
def MB(a:Uf)(u:Tok)(its:Array Vl)(n:Nat)(sl:Array (Option Vl)):
  Meets (Builtin.«object.__getattribute__» ⟨[.ref a,.str "keys" u],[]⟩) λA R s=>s.heap.get? a=Fa ⟨.type "list",Db,.seq its n,sl⟩/\A.handled=Db/\∀h' tk e,Heap.NewAttrErr s.heap h' e (.ref a) "keys"->R (.error (.ref e)) {s with heap:=h',toks:=tk}:=
 Meets.of_wp λprog w A R s hs=>by
  obtain⟨hp,g,d,tk,os⟩:=s;obtain⟨h1,h2,h3⟩:=hs;have hT:(⟨hp,g,d,tk,os⟩:Sd).TypeIs (.ref a) "list":=⟨_,h1,Z'⟩;have f1:=FC;unfold Builtin.«object.__getattribute__»
  repeat (any_goals(first|assumption|wp_step))
  exact wpAny_raiseAttrError h2 h3 (attrMsg_fits (by decide+kernel) (by decide))
def Fc{s:Sd}{a:Uf}{its:Array Vl}{n:Nat}{sl:Array (Option Vl)}{Q:Option Vl->Sd->Prop}(ha:s.heap.get? a=Fa ⟨.type "list",Db,.seq its n,sl⟩)(hA:A.handled=Db) (h:∀h' tk,(∀b o,s.heap.get? b=Fa o->h'.get? b=Fa o)->Q Db {s with heap:=h',toks:=tk}):pi (Tk prog w) A (getAttr? (.ref a) "keys") Q E s:=by
 obtain⟨hp,g,d,tk,os⟩:=s;have hT:(⟨hp,g,d,tk,os⟩:Sd).TypeIs (.ref a) "list":=⟨_,ha,Z'⟩;have f1:=sub_AttributeError;have f3:=iH.lookup;have f4:=iH.bind (.ref a);have f5:=Bo;unfold getAttr? getAttrBy? getAttrBy
 repeat (any_goals(first|assumption|((with_reducible show pi _ _ (call (Value.builtin "list.__getattribute__") _ _) _ _ _);refine jN iH hT F.entry_list_ga (F.args_list_getattribute_2 _ _) (MB a _ its n sl) ⟨ha,hA,λh' tk' e hx=>?_⟩)|wp_step))
 obtain⟨t',u',he⟩:=hx.there;show pi _ _ (getattributeRaised _ _ _ _ _ _ _) _ _ _;unfold getattributeRaised
 repeat (any_goals(first|assumption|wp_step))
 all_goals first|exact h _ _ hx.keeps|skip
end
def AN:entryFor table "dict.update.loop"=Fa Builtin.«dict.update.loop»:=entryFor_of_tree (by kernel_rfl)
def wc:plainId "dict.update.loop"=pc:=by decide+kernel
section
variable {prog:Pg}{w:Wo}{A:Ar}{E:QQX}{R:Result→Sd→Prop}{κ:Type}[DecidableEq κ]{knd:PySem.KeyKind prog w κ}
 {I:Uf} {fp wr:QXQ} {G:Array GenState->Array GenState->Prop} {P:Nat->Vl->Prop} {St:Nat->Sd->Prop}
def PK{s:Sd}{t:Uf}{x y:Vl}{Q:T0 Vl->Sd->Prop}(h:s.heap.IsTuple t #[x,y])(q:Q [x,y] s):pi (Tk prog w) A (Builtin.Dict.pairItems (.ref t)) Q E s:=by
 obtain⟨⟨oc,od,oda,YK⟩,h1,h2,n,h3⟩:=h;simp only at h2 h3;subst h2 h3;have hT:s.TypeIs (.ref t) "tuple":=⟨_,h1,Z'⟩;obtain⟨hp,g,d,tk,os⟩:=s;unfold Builtin.Dict.pairItems
 repeat (any_goals(first|assumption|wp_step))
def Kd{all:T0 (κ×Vl)}(W:WalksS prog w A.in1 I fp wr G all.length P St)(d:Uf)(hdf:d∉fp)(kv:Nat->Vl)(tp:Nat->Uf)(hP:∀i v,P i v->v=.ref (tp i))(hw:∀j,j<all.length->tp j∉wr/\tp j≠d) (hk:∀j p,all[j]?=Fa p->knd.is p.1 (kv j)=pc) (hz:all.length<=Ch):
  ∀(k i:Nat) (z:Int) (s:Sd),all.length - i=k->i<=all.length->St i s->(∀j p,all[j]?=Fa p->s.heap.IsTuple (tp j) #[kv j,p.2])->s.heap.DictOf knd d (merged [] (all.take i))->
   (∀s',Moved (d::wr) G s s'->s'.heap.DictOf knd d (merged [] all)->R (.ok (.ret .none)) s')->XXh (Tk prog w) A (.builtin "dict.update.loop" ⟨[.ref d,.ref I,.int z 0,.none],[]⟩) R s:=by
 have hdw:d∉wr:=λh=>hdf (W.sub _ h);have Z1:∀b∈wr,b∈d::wr:=λb hb=>dN _ hb;intro k;induction k with
 | zero=>
  intro i z s hk0 hi Ye hT hD hR;have Zk:i=all.length:=by lia
  subst Zk;refine iC AN ?_;rw[ir wc _];show pi _ A.in1 (pyNext (.ref I)>>=_) _ _ s;refine df (W.done s _ _ Ye λs' hm=>?_);show pi _ A.in1 (Builtin.Dict.addKeywords d []>>=_) _ _ s';refine df (dA (dA (hR s' (hm.mono Z1) ?_)));rw[fA]at hD;obtain⟨o,es,ep,ho,rest⟩:=hD;exact⟨o,es,ep,hm.heap d _ hdw ho,rest⟩
 | succ k ih=>
  intro i z s hk0 hi Ye hT hD hR;have X3:i<all.length:=by lia
  have Y5:all[i]?=Fa all[i]:=dg X3;refine iC AN ?_;rw[ir wc _];show pi _ A.in1 (pyNext (.ref I)>>=_) _ _ s;refine df (W.item i s _ _ X3 Ye λv s' hPv hst' hm=>?_);obtain rfl:=hP i v hPv;have hT':∀j p,all[j]?=Fa p->s'.heap.IsTuple (tp j) #[kv j,p.2]:=λj p e=>by obtain⟨o,h1,h2⟩:=hT j p e;exact⟨o,hm.heap _ _ (hw j (dv.mp e).1).1 h1,h2⟩
  have hD':s'.heap.DictOf knd d (merged [] (all.take i)):=by obtain⟨o,es,ep,ho,rest⟩:=hD;exact⟨o,es,ep,hm.heap d _ hdw ho,rest⟩
  show pi _ A.in1 (ZB [Value.ref (tp i)] _>>=_) _ _ s';refine df (eD (df (wpAny_tryCatch (PK (hT' i _ Y5) ?_))));show pi _ A.in1 (ZB [kv i,all[i].2] (dictSet d (kv i) all[i].2)) _ _ s';refine eD ?_;unfold dictSet;refine eD (df (knd.pyHash (hk i _ Y5) ?_));have hl:(merged [] (all.take i)).length<=Ch:=by have:=merged_length_le [] (all.take i);rw[fQ]at this;simp only[dS]at this;lia
  refine wpAny_dictSetHashed_pairs (hsz:=hl) (hk i _ Y5) hD' λh' dd hs=>?_;rw[<-merged_take_succ [] all i _ Y5]at dd;refine dA ⟨kS wc _,ih (i+1) _ _ (by lia) X3 (W.frame _ s' _ _ hst' (ie _) λb hb o e=>?_) (λj p e=>?_) dd λs'' hm'' hD''=>?_⟩
  .rw[hs.2 b (λz:b=d=>hdf (z ▸ hb))];exact e
  .obtain⟨o,h1,h2⟩:=hT' j p e;refine⟨o,?_,h2⟩;show h'.get? (tp j)=Fa o;rw[hs.2 _ (hw j (dv.mp e).1).2];exact h1
  .refine hR s'' (mQ W.gtrans ((hm.mono Z1).then_heap (ie _) λb o hb e=>?_) hm'') hD'';rw[hs.2 b (λz:b=d=>hb (by rw[z];exact dY))];exact e
end
section
variable {prog:Pg}{w:Wo}{A:Ar}{E:QQX}{κ:Type}[DecidableEq κ]{knd:PySem.KeyKind prog w κ}{s:Sd}
def Bw{l:Uf}{its:Array Vl}{n:Nat}{sl:Array (Option Vl)}{all:T0 (κ×Vl)}{Q:QQX}(kv:Nat->Vl)(tp:Nat->Uf)(hh:A.handled=Db)(hl:s.heap.get? l=Fa ⟨.type "list",Db,.seq its n,sl⟩) (hits:∀(j:Nat) (v:Vl),its[j]?=Fa v->v=.ref (tp j)) (XY:its.size=all.length) (hT:∀j p,all[j]?=Fa p->s.heap.IsTuple (tp j) #[kv j,p.2]) (hk:∀j p,all[j]?=Fa p->knd.is p.1 (kv j)=pc) (hz:all.length<=Ch) (h:∀h' tk,h'.DictOf knd s.heap.objs.size (merged [] all)->(∀b o,s.heap.get? b=Fa o->h'.get? b=Fa o)->Q (.ref s.heap.objs.size) {s with heap:=h',toks:=tk}):
  pi (Tk prog w) A (call (.type "dict") [.ref l]) Q E s:=by
 refine callType_codes (Q₁:=λobj s₁=>obj=Value.ref s.heap.objs.size/\s₁={s with heap:=s.heap.push {cls:=.type "dict",data:=.dict #[]}}) PySem.F.kt_called_dict (PySem.F.kt_typeCall_dict_1 _) F.entry_dict_init (kt_code_dict_new _ ⟨Z',Z'⟩) ?_
 rintro obj s₁ ⟨rfl,rfl⟩
 have Zx:(s.heap.push {cls:=.type "dict",data:=.dict #[]}).DictOf knd s.heap.objs.size []:=Heap.DictOf.new s.heap;have hl':(s.heap.push {cls:=.type "dict",data:=.dict #[]}).get? l=Fa ⟨.type "list",Db,.seq its n,sl⟩:=dz _ hl;have hTl:Shared.TypeIs {s with heap:=s.heap.push {cls:=.type "dict",data:=.dict #[]}} (.ref l) "list":=⟨_,hl',Z'⟩;have lsz:l<s.heap.objs.size:=dG hl;refine⟨Zx.typeIs,F.args_dict_init_2 _ _,?_⟩;unfold Builtin.«dict.__init__»;refine df ?_;unfold Builtin.Dict.selfAndRest;refine df (wpAny_notOrdered_dict Zx.typeIs ?_);show pi _ _ (pure (s.heap.objs.size,[Value.ref l])) _ _ _;refine dA ?_;show pi _ _ (Builtin.Dict.updateFrom "dict.__init__" s.heap.objs.size (.ref l) [] .none) _ _ _;unfold Builtin.Dict.updateFrom;refine df (jW hTl ?_);rw[dw (by decide)];refine df (Fc hl' (by simpa using hh) λh' tk keep=>?_);have hl2:h'.IsList l its:=⟨_,keep _ _ hl',Z',n,Z'⟩;show pi _ _ (rule _>>=_) _ _ _;refine df (kI (df (gO hl2 ?_)));have nd:h'.objs.size>s.heap.objs.size:=by have z:h'.get? s.heap.objs.size=Fa _:=keep _ _ (dO _ Z');exact dG z
 have hDn:h'.DictOf knd s.heap.objs.size []:=by obtain⟨o,es,ep,ho,rest⟩:=Zx;exact⟨o,es,ep,keep _ _ ho,rest⟩
 have hTs:∀j p,all[j]?=Fa p->h'.IsTuple (tp j) #[kv j,p.2]:=λj p e=>by obtain⟨o,h1,h2⟩:=hT j p e;exact⟨o,keep _ _ (dz _ h1),h2⟩
 have Yc:l≠h'.objs.size:=dP (iG lsz nd);have W:=(kK (prog:=prog) (w:=w) (A:=A.in1.in1) (by simpa using hh) h'.objs.size l Yc its).toS;rw[XY]at W;refine dA ⟨kS wc _,Kd (A:=A.in1) W s.heap.objs.size ?_ kv tp (λi v e=>hits i v e) (λj hj=>?_) hk hz all.length 0 0 _ (by lia) (eX _) ⟨⟨_,dO _ Z',Z',Z'⟩,hl2.push _⟩ (λj p e=>(hTs j p e).push _) ?_ λs' hm hD=>?_⟩
 .simp only[dC,dQ,fv,fV];exact⟨dP nd,il lsz⟩
 .have hj':all[j]?=Fa all[j]:=dg hj;obtain⟨o,h1,_⟩:=hT j _ hj';have tsz:=dG h1;simp only[dC,dQ,fv];exact⟨dP (iG tsz nd),dP tsz⟩
 .obtain⟨o,es,ep,ho,rest⟩:=hDn;exact⟨o,es,ep,dz _ ho,rest⟩
 .obtain⟨h2,g2,d2,t2,o2⟩:=s';have eg:g2=s.gens:=hm.gens;have ed:d2=s.drawn:=hm.drawn;have eo:o2=s.os:=hm.os;subst eg ed eo;refine⟨Z',h h2 t2 hD λb o e=>?_⟩;have hb:=dG e;refine hm.heap b o ?_ (dz _ (keep _ _ (dz _ e)));simp only[dC,dQ,fv,fV];exact⟨dP hb,dP (iG hb nd)⟩
end
noncomputable def ud{κ:Type}[DecidableEq κ](l:List κ):List κ:=l.foldl (λacc k=>if k∈acc then acc else acc++[k]) []
def yA{κ:Type}[DecidableEq κ](l:List κ)(k:κ):ud (l++[k])=if k∈ud l then ud l else ud l++[k]:=by unfold ud;rw[lK];rfl
def JM{κ:Type}[DecidableEq κ]:∀l:List κ,(ud l).length<=l.length:=by
 have go:∀(l acc:List κ),(l.foldl (λacc k=>if k∈acc then acc else acc++[k]) acc).length<=acc.length+l.length:=by
  intro l;induction l with
  | nil=>intro acc;simp
  | cons k r ih=>
   intro acc;rw[gc];refine eE (ih _) ?_;split
   .simp only[eK];lia
   .simp only[eK,dq,dS];lia
 intro l;have:=go l []
 simpa [ud]using this
def Of{κ:Type}[DecidableEq κ](x:κ):∀l:List κ,x∈ud l↔x∈l:=by
 have go:∀(l acc:List κ),x∈l.foldl (λacc k=>if k∈acc then acc else acc++[k]) acc↔x∈acc\/x∈l:=by
  intro l;induction l with
  | nil=>intro acc;simp
  | cons k r ih=>
   intro acc;rw[gc,ih];by_cases h:k∈acc
   .rw[dw h,dC];constructor
    .rintro (z|z)
     .exact .inl z
     .exact .inr (.inr z)
    .rintro (z|z|z)
     .exact .inl z
     .subst z;exact .inl h
     .exact .inr z
   .rw[dh h,eF,dI,dC,or_assoc]
 intro l;have:=go l []
 simpa [ud]using this
def HR{κ:Type}[DecidableEq κ]:∀l:List κ,l.Nodup->ud l=l:=by
 have go:∀(l acc:List κ),(acc++l).Nodup->l.foldl (λacc k=>if k∈acc then acc else acc++[k]) acc=acc++l:=by
  intro l;induction l with
  | nil=>intro acc _;simp
  | cons k r ih=>
   intro acc h;have hk:k∉acc:=λz=>by rw[gx]at h;exact h.2.2 k z k dY Z'
   rw[gc,dh hk,ih]
   .rw[fC];rfl
   .rw[fC];exact h
 intro l h;have:=go l [] (by simpa using h)
 simpa [ud]using this
section
variable {prog:Pg}{w:Wo}{A:Ar}{E:QQX}{R:Result→Sd→Prop}{κ:Type}[DecidableEq κ][BEq κ][LawfulBEq κ]{knd:PySem.KeyKind prog w κ}
 {I:Uf} {fp wr:QXQ} {G:Array GenState->Array GenState->Prop} {P:Nat->Vl->Prop} {St:Nat->Sd->Prop}
def Hb{all:List κ}(W:WalksS prog w A.in1 I fp wr G all.length P St)(S:Uf)(hSf:S∉fp)(hval:∀i v k,P i v->all[i]?=Fa k->knd.is k v=pc/\v.scannable=pc)(hb:all.length+1<XXi):
  ∀(n i:Nat) (s:Sd),all.length - i=n->i<=all.length->St i s->s.heap.SetOf knd S (λx=>decide (x∈ud (all.take i))) (ud (all.take i)).length->
   (∀s',Moved (S::wr) G s s'->s'.heap.SetOf knd S (λx=>decide (x∈ud all)) (ud all).length->R (.ok (.ret .none)) s')->XXh (Tk prog w) A (.builtin "set.update.loop" ⟨[.ref S,.ref I],[]⟩) R s:=by
 have hSw:S∉wr:=λh=>hSf (W.sub _ h);have up:∀b∈wr,b∈S::wr:=λb hb=>dN _ hb;have kept:∀{s s':Sd} {T:κ->Bool} {m:Nat},Moved wr G s s'->s.heap.SetOf knd S T m->s'.heap.SetOf knd S T m:=λhm ⟨o,es,ep,t,ho,rest⟩=>⟨o,es,ep,t,hm.heap S _ hSw ho,rest⟩;intro n;induction n with
 | zero=>
  intro i s h0 hi Ye hS hR;obtain rfl:i=all.length:=by lia
  refine iC iI ?_;rw[ir gG _];rw[fA]at hS;exact df (W.done s _ _ Ye λs' hm=>dA (hR s' (hm.mono up) (kept hm hS)))
 | succ n ih=>
  intro i s h0 hi Ye hS hR;have X3:i<all.length:=by lia
  have Y5:all[i]?=Fa all[i]:=dg X3;refine iC iI ?_;rw[ir gG _];refine df (W.item i s _ _ X3 Ye λv s' hP hst' hm=>?_);obtain⟨k1,k2⟩:=hval i v _ hP Y5;have hS':=kept hm hS;show pi _ A.in1 (ZB [v] (setAdd S v)>>=_) _ _ s';refine df (eD ?_);unfold setAdd;refine eD (df (knd.pyHash k1 ?_));have room:(ud (all.take i)).length+1<XXi:=by have h1:=JM (all.take i);rw[fQ]at h1;lia
  refine wpAny_setAddHashed_of (knd:=knd) (s:={s' with toks:=s'.toks+1}) k1 k2 hS' room λh' hsb hS2=>?_;have et:all.take (i+1)=all.take i++[all[i]]:=by rw[ii,Y5];rfl
  have hSi:h'.SetOf knd S (λx=>decide (x∈ud (all.take (i+1)))) (ud (all.take (i+1))).length:=by
   refine jZ hS2 (λx=>?_) ?_
   .rw[et];by_cases XT:all[i]∈ud (all.take i)
    .rw[yA,dw XT];by_cases hx:x=all[i]
     .subst hx;simp[XT]
     .simp[hx]
    .rw[yA,dh XT];by_cases hx:x=all[i]
     .subst hx;simp
     .simp[hx]
   .rw[et,yA];by_cases XT:all[i]∈ud (all.take i)
    .rw[dw XT];simp[XT]
    .rw[dh XT];simp[XT]
  refine dA ⟨kS gG _,ih (i+1) _ (by lia) X3 (W.frame _ s' _ _ hst' (ie _) λb hb o e=>?_) hSi λs'' hm'' hS''=>?_⟩
  .rw[hsb.2 b (λz:b=S=>hSf (z ▸ hb))];exact e
  .refine hR s'' (mQ W.gtrans ((hm.mono up).then_heap (ie _) λb o hb e=>?_) hm'') hS'';rw[hsb.2 b (λz:b=S=>hb (by rw[z];exact dY))];exact e
end
def DD:isSubtype (.type "tuple") (.type "set")=pure lf:=by rw[jw];kernel_rfl
def Aq:isSubtype (.type "tuple") (.type "frozenset")=pure lf:=by rw[jw];kernel_rfl
def Ft:isSubtype (.type "list") (.type "set")=pure lf:=by rw[jw];kernel_rfl
def Bz:isSubtype (.type "list") (.type "frozenset")=pure lf:=by rw[jw];kernel_rfl
section
variable {prog:Pg}{w:Wo}{A:Ar}{E:QQX}{κ:Type}[DecidableEq κ][BEq κ][LawfulBEq κ]{knd:PySem.KeyKind prog w κ}{s:Sd}
set_option maxHeartbeats 4000000 in
def zA{l:Uf}{XS:Array Vl}{all:List κ}{Q:QQX}(hh:A.handled=Db)(hl:s.heap.IsList l XS\/s.heap.IsTuple l XS)(hn:XS.size=all.length)(hi:∀(i:Nat) (v:Vl) (k:κ),XS[i]?=Fa v->all[i]?=Fa k->knd.is k v=pc/\v.scannable=pc)(hb:all.length+1<XXi) (h:∀(h':No) (tk:Nat),h'.SetOf knd s.heap.objs.size (λx=>decide (x∈ud all)) (ud all).length->(∀b o,s.heap.get? b=Fa o->h'.get? b=Fa o)->Q (.ref s.heap.objs.size) {s with heap:=h',toks:=tk}):
  pi (Tk prog w) A (call (.type "set") [.ref l]) Q E s:=by
 obtain⟨c,tl,hmro⟩:=gW.mro;have hmade:=gW.made;have Z1:=gW.sub;refine h9 (codeAny_of_tree ?_);show pi _ _ (callAny (.type "set") _) _ _ _;refine dA ⟨jB _ (by decide+kernel),iC F.entry_type_call ?_⟩;rw[Around.under_plain (weight_type_call_type "set" [.ref l] []) Z'];have h1:=gW.notType;have h2:=gW.canCreate;have hct:=F.typeCall_set_1 (.ref l)
 repeat (any_goals(first|assumption|wp_step))
 have fresh:∀Zl:Bool,(s.heap.push {cls:=.type "set",dict:=none,data:=.set #[] 0 (.fresh 0 0 Zl)}).get? s.heap.objs.size=Fa {cls:=.type "set",dict:=none,data:=.set #[] 0 (.fresh 0 0 Zl)}:=λZl=>dO _ Z';refine gT (code_set_new_1 (.ref l) (E:=E) (Q₁:=λobj s₁=>∃Zl:Bool,obj=Value.ref s.heap.objs.size/\s₁={s with heap:=s.heap.push {cls:=.type "set",dict:=none,data:=.set #[] 0 (.fresh 0 0 Zl)}}) λZl=>⟨Zl,Z',Z'⟩) λr s₁ hr=>?_;cases r with
 | error e=>exact hr
 | ok fl=>
  cases fl with
  | ret obj=>
   obtain⟨Zl,rfl,rfl⟩:=hr;have hS:=fresh Zl;have hT:Shared.TypeIs {s with heap:=s.heap.push {cls:=.type "set",dict:=none,data:=.set #[] 0 (.fresh 0 0 Zl)}} (.ref s.heap.objs.size) "set":=⟨_,hS,Z'⟩;have hli:=gW.init.lookup;have hbi:=gW.init.bind (.ref s.heap.objs.size)
   repeat (any_goals(first|assumption|wp_step))
   refine gT (iu (R:=wants (λr s₂=>r=.none/\∃h' tk,s₂={s with heap:=h',toks:=tk}/\h'.SetOf knd s.heap.objs.size (λx=>decide (x∈ud all)) (ud all).length/\(∀b o,s.heap.get? b=Fa o->h'.get? b=Fa o)) E) gW.init.plain F.entry_set_init (check_set_init_1 hT ?_)) λr₂ s₂ hr₂=>?_
   .rcases hl with⟨ol,hol,hcl,nl,hdl⟩|⟨ol,hol,hcl,nl,hdl⟩
    all_goals
     obtain⟨ocls,odict,odata,oslots⟩:=ol;simp only at hcl hdl;subst hcl;subst hdl;have Z2:=dz {cls:=.type "set",dict:=none,data:=.set #[] 0 (.fresh 0 0 Zl)} hol;have hsls:=Ft;have hslf:=Bz;have htls:=DD;have htlf:=Aq;have hnd:(Value.type "list"==Value.type "dict")=lf:=by decide
     have hnt:(Value.type "tuple"==Value.type "dict")=lf:=by decide
     unfold Builtin.«set.__init__» noKeywords Builtin.Frozenset.updateFrom;generalize hPI:pyIter=PI
     wp_walk
     subst hPI
     first|refine gO ⟨_,Z2,Z',nl,Z'⟩ ?_|refine iJ ⟨_,Z2,Z',nl,Z'⟩ ?_
     refine df (wpAny_runValue ?_);have lS:l<s.heap.objs.size:=dG hol;have hh3:A.in1.in1.in1.handled=Db:=by simp[hh]
     have lI:l≠(s.heap.push {cls:=.type "set",dict:=none,data:=.set #[] 0 (.fresh 0 0 Zl)}).objs.size:=by rw[fS];exact dP (gN lS)
     first
     | refine Hb (hn ▸ (kK (prog:=prog) (w:=w) hh3 _ l lI XS).toS) s.heap.objs.size ?hf (λi v k e1 e2=>hi i v k e1 e2) hb all.length 0 _ (by lia) (eX _) ⟨⟨_,dO _ rfl,rfl,rfl⟩,_,dz _ Z2,rfl,nl,rfl⟩ ?h0 ?hR
     | refine Hb (hn ▸ (Walks.tuple (prog:=prog) (w:=w) hh3 _ l lI XS).toS) s.heap.objs.size ?hf (λi v k e1 e2=>hi i v k e1 e2) hb all.length 0 _ (by lia) (eX _) ⟨⟨_,dO _ rfl,rfl,rfl⟩,_,dz _ Z2,rfl,nl,rfl⟩ ?h0 ?hR
     case hf=>rw[fS];simp only[dC,dQ,fv,fV];exact⟨dP (fP _),il lS⟩
     case h0=>exact jZ ((PyProof.Rows.setObjOf_fresh (knd:=knd) Zl).setOf (dz _ hS) (by unfold XXi;lia)) (λ_=>rfl) Z'
     case hR=>intro s' hm hS';obtain⟨h',g',d',tk',os'⟩:=s';have eg:g'=s.gens:=hm.gens;have ed:d'=s.drawn:=hm.drawn;have eo:os'=s.os:=hm.os;subst eg;subst ed;subst eo;refine dA ?_;show pi _ _ (ret Value.none) _ _ _;refine dA ⟨Z',h',tk',Z',hS',λb o e=>?_⟩;have hb:=dG e;refine hm.heap b o ?_ (dz _ (dz _ e));rw[fS];simp only[dC,dQ,fv,fV];exact⟨dP hb,dP (gN hb)⟩
   .cases r₂ with
    | error e=>exact hr₂
    | ok fl₂=>
     cases fl₂ with
     | ret r=>
      obtain⟨rfl,h',tk,rfl,hS',hk'⟩:=hr₂
      repeat (any_goals(first|assumption|wp_step))
      exact h _ _ hS' hk'
     | _=>exact hr₂.elim
  | _=>exact hr.elim
end
end L2
namespace HT
open PySem PyProof.Rows
variable {prog:Pg}{w:Wo}{A:Ar}{E:QQX}{s:Sd}
def zW{t sl:Uf}{vl vu:Vl}{lo hi:Option Int}{Q:QQX}(ht:IsTup s.heap t XS)(hs:s.heap.IsSliceOf sl vl vu .none)(pl:IsPart vl lo)(pu:IsPart vu hi) (hw:tQ XS.size 0 lo=0/\tQ XS.size XS.size hi=XS.size) (h:Q (.ref t) s):pi (Tk prog w) A (XXd (.ref t) (.ref sl)) Q E s:=by
 obtain⟨os,hos,hcs,Y2⟩:=id hs;have hTs:s.TypeIs (.ref sl) "slice":=⟨os,hos,hcs⟩;unfold XXd
 try with_reducible refine eD ?_
 first|refine df (dA ?_)|skip
 refine df (jI ht.typeIs (by decide) ?_);refine df (fO (name:=Str.ofString "__getitem__") ht.typeIs fH (fX fH ht.typeIs kX ?_ (lz _ _)));show pi _ _ (Builtin.Tuple.tupleItemsOf (.ref t)>>=_) _ _ s;refine df (tupleItemsOf_ ht ?_);refine df (jW hTs ?_);rw[dw (by decide)];refine df (wI hs pl pu ?_);have yes:(((tQ XS.size 0 lo:Nat):Int)==0&&(1:Int)==1&&(tQ XS.size XS.size hi - tQ XS.size 0 lo)==XS.size)=pc:=by rw[hw.1,hw.2];simp
 show pi _ _ (if (((tQ XS.size 0 lo:Nat):Int)==0&&(1:Int)==1&&(tQ XS.size XS.size hi - tQ XS.size 0 lo)==XS.size)=pc then _ else _) _ _ s;rw[dw yes];have hT:=ht.typeIs;obtain⟨hp,g,d,tk,o⟩:=s
 repeat (any_goals(first|assumption|wp_step))
 exact⟨_,Z',dA h⟩
end HT
namespace L2
variable {X:Cx}{p p2 pos ZC:Pos}{e:Go}{te:TE}
section
def WG(K:qC):V->Option Int->Option Int->Hp->VK->Prop:=λx lo hi H Q=>∃a xs,x=.ref a/\vn K H a xs/\(HT.tQ xs.length 0 lo=0/\HT.tQ xs.length xs.length hi=xs.length)/\Q (.ref a) H
def TN:Va X (WG X.K):=by
 intro XQ s Y H x v vl vu lo hi sl Q I rx hs pl pu h;obtain⟨a,xs,rfl,hx,hw,q⟩:=h;cases rx;obtain⟨its,r,ht,hz⟩:=I.tuple hx;have XY:its.toArray.size=xs.length:=by rw[dF];exact r.length.symm
 exact⟨"tuple",_,fH.lookup,ht.typeIs,HT.zW ht hs pl pu (by rw[XY];exact hw) ⟨.ref a,H,I,Z',q⟩⟩
local instance (priority:=5000) keyBEq:BEq rm:=instBEqOfDecidableEq
local instance (priority:=5000) keyLaw:LawfulBEq rm:=inferInstanceAs (LawfulBEq (Sum Int Str))
def QV(K:qC)(te:TE):TE:=λY H Q=>te Y H λx H1=>∃a,∃ss:QQQ,x=.ref a/\(zj K H1 a (ss.map V.str)\/vn K H1 a (ss.map V.str))/\ss.length+1<XXi/\Q (.int (ud ss).length) H1
def G6{ss:QQQ}(r:qK (ss.map V.str) us):us.length=ss.length/\∀(i:Nat) (v:Vl) (k:rm),us[i]?=Fa v->(ss.map λx=>(Sum.inr x:rm))[i]?=Fa k->(rJ P w).is k v=pc/\v.scannable=pc:=by
 refine⟨by rw[<-r.length,de],λi v k e1 e2=>?_⟩;rw[dM]at e2;cases q:ss[i]? with
 | none=>rw[q]at e2;cases e2
 | some x=>rw[q]at e2;cases e2;obtain⟨u,e3,t,rfl⟩:=r.get (i:=i) (x:=V.str x) (by rw[dM,q];rfl);rw[e3]at e1;cases e1;exact⟨AW P w x t,Z'⟩
def LJ{ss:QQQ}:(ud (ss.map λx=>(Sum.inr x:rm))).length=(ud ss).length:=by
 have go:∀(l acc:QQQ),(l.map λx=>(Sum.inr x:rm)).foldl (λacc k=>if k∈acc then acc else acc++[k]) (acc.map Sum.inr)=(l.foldl (λacc k=>if k∈acc then acc else acc++[k]) acc).map Sum.inr:=by
  intro l;induction l with
  | nil=>intro acc;rfl
  | cons k r ih=>
   intro acc;rw[eh,gc,gc];have hm:(Sum.inr k:rm)∈acc.map Sum.inr↔k∈acc:=by
    rw[dJ];constructor
    .rintro ⟨y,h1,h2⟩;cases h2;exact h1
    .exact λh=>⟨k,h,Z'⟩
   by_cases h:k∈acc
   .rw[dw h,dw (hm.mpr h)];exact ih acc
   .rw[dh h,dh λz=>h (hm.mp z)];have:=ih (acc++[k]);rw[dZ]at this;exact this
 have:=go ss [];unfold ud;rw[je]at this;rw[this,de]
def Kr(hc:X.calm=pc)(he:PE X e te)(hg1:Gl X "len")(XT:X.mg "len"=Db)(hg2:Gl X "set")(Ya:X.mg "set"=Db)(b1:zn "len"=Fa (.builtin "len"))(b2:zn "set"=Fa (.type "set")) (hs:Tl [e] X.env=[(lf,wp e X.env)]:=by rfl):PE X (.Call (.Name "len" p) [.Call (.Name "set" p2) [e] [] ZC] [] pos) (QV X.K te):=by
 intro XQ s Y H Q I h;refine fW (xj I hg1 XT b1 ?_);refine ia ?_ Z' Z';show pi _ _ (spliced ((lf,wp (.Call (.Name "set" p2) [e] [] ZC) X.env)::xz pos (Tl [] X.env))) _ _ s;refine iF ?_;refine fW (xj I hg2 Ya b2 ?_);refine gb ?_ hs Z';rw[hs];show pi _ _ (spliced ((lf,wp e X.env)::xz ZC (Tl [] X.env))) _ _ s;refine iF (sS (he XQ s Y H _ I h) λu s1 ⟨x,H1,I1,r1,a,ss,ex,hq,hb,q⟩=>iR ?_);subst ex;obtain rfl:u=Value.ref a:=r1;have YH:(ss.map λx=>(Sum.inr x:rm)).length+1<XXi:=by rw[de];exact hb
 have XX:∀(h':No) (tk:Nat),h'.SetOf (rJ X.prog X.w) s1.heap.objs.size (λx=>decide (x∈ud (ss.map λx=>(Sum.inr x:rm)))) (ud (ss.map λx=>(Sum.inr x:rm))).length->(∀b o,s1.heap.get? b=Fa o->h'.get? b=Fa o)->
   pi (Tk X.prog X.w) X.A (spliced (xz pos (Tl [] X.env))) (λvs s₁=>pi (Tk X.prog X.w) X.A (call (.builtin "len") (.ref s1.heap.objs.size::vs)) (EP X XQ Y Q) X.xe s₁) X.xe {s1 with heap:=h',toks:=tk}:=λh' tk hS keep=>by
  refine iR ?_;obtain⟨o,es,ep,t,ho,hex,hd,_,_,hz,hf,hn⟩:=hS;have X3:(es.size:Int)<2 ^ 63:=by have:XXi=4096:=rfl;lia
  refine call_len_set ho hex hd hf X3 ?_;refine⟨.int es.size,H1,I1.kept keep,⟨_,Z'⟩,?_⟩;rw[hn,LJ];exact q
 rcases hq with hq|hq
 .obtain⟨its,r,pl,hz⟩:=I1.list hq;obtain⟨k1,k2⟩:=G6 (P:=X.prog) (w:=X.w) r;exact L2.zA (knd:=rJ X.prog X.w) (all:=ss.map λx=>(Sum.inr x:rm)) (I1.ok.hd hc) (.inl pl.isList) (by rw[dF,k1,de]) (λi v k e1 e2=>k2 i v k (by simpa using e1) e2) YH XX
 .obtain⟨its,r,pl,hz⟩:=I1.tuple hq;obtain⟨k1,k2⟩:=G6 (P:=X.prog) (w:=X.w) r;exact L2.zA (knd:=rJ X.prog X.w) (all:=ss.map λx=>(Sum.inr x:rm)) (I1.ok.hd hc) (.inr pl) (by rw[dF,k1,de]) (λi v k e1 e2=>k2 i v k (by simpa using e1) e2) YH XX
end
variable {XQ:T0 (Uf × Obj)}{Y:St}{H:Hp}{s:Sd}
theorem Ei(I:Inv X XQ Y H s):∀(ts:QXQ) (kvs:T0 (rm×V)),ts.length=kvs.length->(∀(j:Nat) (t:Uf) (p:rm×V),ts[j]?=Fa t->kvs[j]?=Fa p->vn X.K H t [kV p.1,p.2])->
  ∃(us:T0 Vl) (all:T0 (rm×Vl)),us.length=kvs.length/\KV kvs all/\∀(j:Nat) (t:Uf) (p:rm×Vl),ts[j]?=Fa t->all[j]?=Fa p->∃u,us[j]?=Fa u/\s.heap.IsTuple t #[u,p.2]/\(rJ X.prog X.w).is p.1 u=pc
 | [],[],_,_=>⟨[],[],Z',.nil,λj t p e=>by simp at e⟩
 | [],_::_,h,_=>by simp at h
 | _::_,[],h,_=>by simp at h
 | t::ts,(k,v)::kvs,h,hq=>by
  obtain⟨us,all,h1,h2,h3⟩:=Ei I ts kvs (by simpa using h) (λj t p e1 e2=>hq (j+1) t p (by simpa using e1) (by simpa using e2));obtain⟨its,r,pl,_⟩:=I.tuple (hq 0 t (k,v) (by simp) (by simp));cases r with
  | cons r1 r2=>
   cases r2 with
   | cons r3 r4=>
    cases r4;rename_i u w;refine⟨u::us,(k,w)::all,by simpa using h1,.cons ⟨Z',r3⟩ h2,λj t' p e1 e2=>?_⟩;cases j with
    | zero=>
     have e1':t=t':=by simpa using e1
     have ZX:(k,w)=p:=by simpa using e2
     subst e1' ZX;exact⟨u,by simp,pl,GI r1⟩
    | succ j=>simpa using h3 j t' p (by simpa using e1) (by simpa using e2)
theorem Mi:∀{kvs:T0 (rm×V)} {all:T0 (rm×Vl)},KV kvs all->all.map (·.1)=kvs.map (·.1)
 | _,_,.nil=>rfl
 | _,_,.cons r rs=>by rw[eh,eh,Mi rs,r.1]
def Il(hc:X.calm=pc):yJ X (.type "dict") (λxs H Q=>∃l,∃ts:QXQ,∃kvs:T0 (rm×V),xs=[V.ref l]/\zj X.K H l (ts.map V.ref)/\ts.length=kvs.length/\
  (∀(j:Nat) (t:Uf) (p:rm×V),ts[j]?=Fa t->kvs[j]?=Fa p->vn X.K H t [kV p.1,p.2])/\(kvs.map (·.1)).Nodup/\∀d,H d=Db->Q (.ref d) (upd H d (.dK kvs))):=by
 intro XQ s Y H xs us Q I r h;obtain⟨l,ts,kvs,rfl,hl,XY,hq,hnd,q⟩:=h;obtain⟨u,rfl,ru⟩:=yK r;cases ru;obtain⟨its,rv,⟨⟨c1,d1,t1,sl1⟩,n,g1,e1,e2,e3⟩,hz⟩:=I.list hl;simp only at e1 e2 e3;subst e1 e2 e3;obtain⟨ks,all,h1,h2,h3⟩:=Ei I ts kvs XY hq;have la:all.length=kvs.length:=(jE h2).symm;have li:its.length=kvs.length:=by rw[<-rv.length,de,XY]
 have zl:all.length<=Ch:=by rw[la,<-XY];simpa using hz
 have at_:∀(j:Nat) (p:rm×Vl),all[j]?=Fa p->∃t,ts[j]?=Fa t:=λj p e=>by have:=(dv.mp e).1;exact⟨ts[j],dg (by lia)⟩
 refine Bw (knd:=rJ X.prog X.w) (all:=all) (λj=>(ks[j]?).getD .none) (λj=>(ts[j]?).getD 0) (I.ok.hd hc) g1 (λj v e=>?_) (by rw[dF,li,la]) (λj p e=>?_) (λj p e=>?_) zl λh' tk hD keep=>?_
 .have e':its[j]?=Fa v:=by simpa using e
  have hj:=(dv.mp e').1;have hj2:j<ts.length:=by lia
  obtain⟨w,e4,e5⟩:=rv.get (i:=j) (x:=V.ref ts[j]) (by rw[dM,dg hj2];rfl);rw[e']at e4;cases e4;show v=Value.ref ((ts[j]?).getD 0);rw[dg hj2];exact e5
 .obtain⟨t,et⟩:=at_ j p e;obtain⟨u,e4,e5,_⟩:=h3 j t p et e;show s.heap.IsTuple ((ts[j]?).getD 0) #[(ks[j]?).getD .none,p.2];rw[et,e4];exact e5
 .obtain⟨t,et⟩:=at_ j p e;obtain⟨u,e4,_,e6⟩:=h3 j t p et e;show(rJ X.prog X.w).is p.1 ((ks[j]?).getD .none)=pc;rw[e4];exact e6
 .rw[merged_nil_of_nodup all (by rw[Mi h2];exact hnd)]at hD;have fr:=I.m8.fresh (dE s.heap.objs.size);exact⟨.ref s.heap.objs.size,_,I.laid (t':=tk) (o:=.dK kvs) keep (dE _) (Ma (by rw[<-la];exact zl) (gB.mpr (dW (dP I.big))) h2 hD),Z',q _ fr⟩
def WT:R2:=λx y H Q=>∃a v,x=.ref a/\Fu H a y (Fa v)/\Q v H
def ON(hu:X.A.units+1<X'):Ui X WT:=by
 intro value X4 XQ s Y H x y o i Q I rx ry h hs;obtain⟨a,v,rfl,g,q⟩:=h;obtain rfl:o=Value.ref a:=rx;have hT:=Gj I g;have h2:pi (Tk X.prog X.w) X.A (XXd (.ref a) i) (EP X XQ Y Q) X.xe s:=Kl hu I g ry λw' s3 I3 ZV=>⟨v,H,I3,ZV,q⟩;unfold subscriptTail;refine df ?_;rw[kD hT.not_modules];refine df (jf hT jO.lookup ?_);have XX:pi (Tk X.prog X.w) X.A (subscripted X4 lf (.ref a) i) (λr s₃=>pi (Tk X.prog X.w) X.A (letTemporaryGo value (.ref a) r>>=λ_=>pure r) (EP X XQ Y Q) X.xe s₃) X.xe s:=by rw[hs];exact wpAny_operating (eJ h2 (λr s₃ h₃=>df (kM (dA h₃))) λ_ _ x=>x)
 first
  | exact dA (df XX)
  | exact df (dA (df XX))
  | exact df XX
def RW(hu:X.A.units+1<X'):xI X (Op .In) (λx y H Q=>∃a o,y=.ref a/\Fu H a x o/\Q (.bl o.isSome) H):=by intro XQ s Y H x y v u Q I rx ry h;obtain⟨a,o,rfl,g,q⟩:=h;obtain rfl:u=Value.ref a:=ry;exact WR hu I g rx λs3 I3=>⟨.bl o.isSome,H,I3,Z',q⟩
variable {prog:Pg}{w:Wo}{A:Ar}{E:QQX}{a:Uf}{U:Type}{k:Str}{tk:Tok}
section
variable {R:U→Vl→Prop}{D:T0 (Str × U)}
def yX(T:KTD.TabOf R s.heap a D):s.TypeIs (.ref a) "dict":=let⟨_,o,_,_,ho,hc,_⟩:=T;⟨o,ho,hc.1⟩
def J4{Q:Option Vl->Sd->Prop}(T:KTD.TabOf R s.heap a D)(h1:∀d v,KTD.datumAt k D=Fa d->R d v->Q (Fa v) {s with toks:=s.toks+1})(h2:KTD.datumAt k D=Db->Q Db {s with toks:=s.toks+1}):
  pi (Tk prog w) A (dictGet a (.str k tk)) Q E s:=by
 obtain⟨_,o,es,ep,ho,hc,hd,hr⟩:=T;have hq:Q (findBy (λk v=>v.isStr k) es k) {s with toks:=s.toks+1}:=by
  have hf:findBy (λk v=>v.isStr k) es k=(es.toList.find? λe=>e.key.isStr k).map (·.val):=by obtain⟨l⟩:=es;simp[findBy]
  rw[hf];cases hat:KTD.datumAt k D with
  | none=>rw[hr.find_none hat];exact h2 hat
  | some d=>obtain⟨v,hv,hfl⟩:=hr.find_some hat;rw[hv];exact h1 d v hat hfl
 have Yx:(es.all λe=>isExactStrKey e.key)=pc:=by
  obtain⟨l⟩:=es
  simpa using hr.exact
 unfold dictGet
 try with_reducible refine eD ?_
 refine df (lU (df (KTD.kt_dictFind_strs (s:={s with toks:=s.toks+1}) ho hd Yx ?_)));rw[findBy_of_findIdx?]at hq;cases hi:es.findIdx? λe=>e.key.isStr k with
 | none=>rw[hi]at hq;exact dA hq
 | some i=>rw[hi]at hq;exact df (wpAny_dictEntries (s:={s with toks:=s.toks+1}) ho hd (dA hq))
def Tg{Q:QQX}(T:KTD.TabOf R s.heap a D)(h:Q (.bool (KTD.datumAt k D).isSome) {s with toks:=s.toks+1}):pi (Tk prog w) A (Op .In (.str k tk) (.ref a)) Q E s:=by
 have hT:=yX T;show pi _ _ (do return .bool (<-contains (.ref a) (.str k tk))) Q E s;refine df ?_;unfold contains
 try with_reducible refine eD ?_
 refine df (jf hT jC.lookup ?_);show pi _ _ (if (Fa (Value.builtin "dict.__contains__")==Fa Value.none)=pc then _ else _) _ E s;rw[dh (by rw[beq_builtin_none];exact dH)];refine df (wpAny_callSpecialUnlessNone?_slot (name:=Str.ofString "__contains__") hT jC (fX jC hT entry_dict_contains ?_ (args_dict_contains _ _)));show pi _ _ (dictGet a (.str k tk)>>=_) _ _ s;refine df (J4 T (λd v ha _=>?_) λhn=>?_)
 .rw[ha]at h;show pi _ _ (ret (.bool pc)) _ _ _;exact dA ⟨_,Z',fB (dA h)⟩
 .rw[hn]at h;show pi _ _ (Builtin.Dict.pendingKey? a (.str k tk)>>=_) _ _ _;exact df (wpAny_pendingKey_other T.1 (dA ⟨_,Z',fB (dA h)⟩))
def Ly{Q:QQX}{d:U}(T:KTD.TabOf R s.heap a D)(hd:KTD.datumAt k D=Fa d)(h:∀v,R d v->Q v {s with toks:=s.toks+1}):pi (Tk prog w) A (XXd (.ref a) (.str k tk)) Q E s:=by
 have hT:=yX T;unfold XXd
 try with_reducible refine eD ?_
 refine df (jI hT (by decide) ?_);refine df (fO (name:=Str.ofString "__getitem__") hT lL (fX lL hT entry_dict_getitem ?_ (args_dict_getitem _ _)));show pi _ _ (dictGet a (.str k tk)>>=_) _ _ s;refine df (J4 T (λd' v ha hv=>dA ⟨v,Z',dA (h v ?_)⟩) λhn=>?_)
 .rw[hd]at ha;cases ha;exact hv
 .rw[hd]at hn;cases hn
end
def Lr(K:qC)(mg:QQZ)(x:Str)(F:T0 (Str×QQQ)):Prop:=∃a o es ep,mg x=Fa (.ref a)/\(a==XV)=lf/\K.lookup a=Fa o/\o.ExactDict/\o.data=.dict es ep/\
 KTD.Rows (λ(ss:QQQ) v=>∃t,v=Value.ref t/\vn K (λ_=>Db) t (ss.map V.str)) es.toList F
variable {x:Str}{F:T0 (Str × QQQ)}
def Jh{K:qC}(h:vn K (λ_=>Db) t xs):vn K H t xs:=by
 rcases h with(h|⟨o,h⟩)|h
 .cases h
 .cases h
 .exact .inr h
def GD{K:qC}(T:Lr K mg x F):∃a,mg x=Fa (.ref a)/\∀h:No,K.In h->KTD.TabOf (λ(ss:QQQ) v=>∃t,v=Value.ref t/\vn K (λ_=>Db) t (ss.map V.str)) h a F:=by obtain⟨a,o,es,ep,h1,h2,h3,h4,h5,h6⟩:=T;exact⟨a,h1,λh hk=>⟨h2,o,es,ep,hk a o h3,h4,h5,h6⟩⟩
noncomputable def WA(x:Str):It:=⟨λi _=>i<x.cps.size,λi H v H'=>H'=H/\∃c,x.cps[i]?=Fa c/\v=.str ⟨#[c]⟩,λi _=>i=x.cps.size⟩
def GP{K:qC}{ty:String}{x:Str}{t:Tok}(it:Uf)(W:∀A':Ar,A'.handled=Db->Walks P w A' it [it] [it] x.cps.size (SignAt x) (λi h=>h.IsStrIter it ty x t i)) (hself:∀(A:Ar) (i:Nat) (s:Sd) (Q:QQX) (E:QQX),s.heap.IsStrIter it ty x t i->Q (.ref it) s->pi (Tk P w) A (pyIter (.ref it)) Q E s) (hn:["enumerate","zip","dict_itemiterator","dict_reverseitemiterator","odict_iterator","itertools.zip_longest","itertools.pairwise"].contains ty=lf):Gp P w K tg (WA x) [it] it (λi h=>h.IsStrIter it ty x t i) where
 mem:=by simp
 obj:=λi h st b hb=>by
  obtain rfl:b=it:=by simpa using hb
  obtain⟨o,e,c,d⟩:=st;exact⟨o,e,λv z=>by rw[d]at z;cases z⟩
 keep:=λi h h' st k=>by obtain⟨o,e,r⟩:=st;exact⟨o,k it (by simp) o e,r⟩
 item:=by intro X hP hw hK hc i XQ s Y H E I hf st hg;subst hP hw hK;obtain⟨f0,f1,f2,f3,f4,f5⟩:=hf it (by simp);refine(W X.A (I.ok.hd hc)).item i s _ _ hg st λv h' tk hv YE kp=>?_;obtain⟨c,u,e1,e2⟩:=hv;have I1:Inv X XQ Y H {s with heap:=h',toks:=tk}:=I.turned (t':=tk) (λb o hb e=>kp b o (by simpa using hb) e) f0 f1 f3 f4 f5;obtain⟨o,e,cl,d⟩:=id YE;exact⟨v,Z',Jk (s:={s with heap:=h',toks:=tk}) e cl d hn ⟨.str ⟨#[c]⟩,H,I1,⟨u,e2⟩,⟨Z',c,e1,Z'⟩,YE,λb hb=>(hf b hb).1⟩⟩
 done:=by intro X hP hw hK hc i XQ s Y H E I hf st hg;subst hP hw hK;obtain⟨f0,f1,f2,f3,f4,f5⟩:=hf it (by simp);obtain rfl:i=x.cps.size:=hg;exact(W X.A (I.ok.hd hc)).done s _ _ st λh' tk kp=>⟨Z',I.turned (t':=tk) (λb o hb e=>kp b o (by simpa using hb) e) f0 f1 f3 f4 f5⟩
 self:=hself
variable {tg:Go}
def OF(hc:X.calm=pc)(hl:PE X l tl):PI X tg l (λY H R=>tl Y H λx H1=>(∃a,x=.ref a/\(((∃xs,zj X.K H1 a xs)/\R (Wb X.K a) H1)\/((∃xs,vn X.K H1 a xs)/\R (WJ X.K a) H1)))\/∃z,x=.str z/\R (WA z) H1):=by
 intro XQ s Y H R I h;refine sS (hl XQ s Y H _ I h) λv s1 zz=>x5 zz λx H1 I1 r1 q1=>?_;rcases q1 with⟨a,e,q1⟩|⟨z,e,q⟩
 .subst e;cases r1;rcases q1 with⟨⟨xs,hq⟩,q⟩|⟨⟨xs,hq⟩,q⟩
  .obtain⟨its,rv,p,hz⟩:=I1.list hq;refine gO p.isList ?_;refine⟨s1.heap.objs.size,[s1.heap.objs.size],_,_,H1,Z',I1.kept (t':=s1.toks) λb o e=>dz _ e,Ld a _,⟨_,dO _ Z',Z',Z'⟩,λb hb=>?_,q⟩;obtain rfl:b=s1.heap.objs.size:=by simpa using hb
   exact I1.oo (dE _) (I1.m8.fresh (dE _))
  .obtain⟨its,rv,p,hz⟩:=I1.tuple hq;refine iJ (show s1.heap.IsTuple a its.toArray from p) ?_;refine⟨s1.heap.objs.size,[s1.heap.objs.size],_,_,H1,Z',I1.kept (t':=s1.toks) λb o e=>dz _ e,IJ a _,⟨_,dO _ Z',Z',Z'⟩,λb hb=>?_,q⟩;obtain rfl:b=s1.heap.objs.size:=by simpa using hb
   exact I1.oo (dE _) (I1.m8.fresh (dE _))
 .subst e;obtain⟨t,rfl⟩:=r1;have fp:∀b∈[s1.heap.objs.size],Bq X XQ H1 b:=λb hb=>by
   obtain rfl:b=s1.heap.objs.size:=by simpa using hb
   exact I1.oo (dE _) (I1.m8.fresh (dE _))
  cases ha:z.cps.all (·<128)
  .refine wpAny_pyIter_wide ha ?_;exact⟨s1.heap.objs.size,[s1.heap.objs.size],_,_,H1,Z',I1.kept (t':=s1.toks) λb o e=>dz _ e,GP _ (λA' hA=>Walks.strWide hA _ z t) (λA i s Q E st h=>wpAny_pyIter_striter_wide st h) (by decide),⟨_,dO _ Z',Z',Z'⟩,fp,q⟩
  .refine wpAny_pyIter_ascii ha ?_;exact⟨s1.heap.objs.size,[s1.heap.objs.size],_,_,H1,Z',I1.kept (t':=s1.toks) λb o e=>dz _ e,GP _ (λA' hA=>Walks.strAscii hA _ z t) (λA i s Q E st h=>wpAny_pyIter_striter_ascii st h) (by decide),⟨_,dO _ Z',Z',Z'⟩,fp,q⟩
end L2
namespace L2
inductive z9{α0:Sort u}{α1:Sort v}(p:α0->α1->Prop):Prop
 | mk (a0:α0) (a1:α1) (h:p a0 a1):z9 p
inductive Di{α0:Sort u}{α1:Sort v}{α2:Sort w}(p:α0->α1->α2->Prop):Prop
 | mk (a0:α0) (a1:α1) (a2:α2) (h:p a0 a1 a2):Di p
def x7{α:Sort u}{β:Sort v}{γ:Sort w}{p q r s:α->β->γ->Prop}{C:Prop}(h:Di λa b c=>p a b c/\q a b c/\r a b c/\s a b c)(f:∀a b c,p a b c->q a b c->r a b c->s a b c->C):C:=by obtain⟨a,b,c,h1,h2,h3,h4⟩:=h;exact f a b c h1 h2 h3 h4
def Lq{α:Sort u}{β:Sort v}{γ:Sort w}{p q r s s1 s2 s3:α->β->γ->Prop}{C:Prop}(h:Di λa b c=>p a b c/\q a b c/\r a b c/\s a b c/\s1 a b c/\s2 a b c/\s3 a b c)(f:∀a b c,p a b c->q a b c->r a b c->s a b c->s1 a b c->s2 a b c->s3 a b c->C):C:=by obtain⟨a,b,c,h1,h2,h3,h4,h5,h6,h7⟩:=h;exact f a b c h1 h2 h3 h4 h5 h6 h7
inductive Au{α0:Sort u}{α1:Sort v}{α2:Sort w}{α3:Sort u1}(p:α0->α1->α2->α3->Prop):Prop
 | mk (a0:α0) (a1:α1) (a2:α2) (a3:α3) (h:p a0 a1 a2 a3):Au p
inductive FV{α0:Sort u}{α1:Sort v}{α2:Sort w}{α3:Sort u1}{α4:Sort u2}(p:α0->α1->α2->α3->α4->Prop):Prop
 | mk (a0:α0) (a1:α1) (a2:α2) (a3:α3) (a4:α4) (h:p a0 a1 a2 a3 a4):FV p
inductive IS{α0:Sort u}{α1:Sort v}{α2:Sort w}{α3:Sort u1}{α4:Sort u2}{α5:Sort u3}(p:α0->α1->α2->α3->α4->α5->Prop):Prop
 | mk (a0:α0) (a1:α1) (a2:α2) (a3:α3) (a4:α4) (a5:α5) (h:p a0 a1 a2 a3 a4 a5):IS p
inductive Uk{α0:Sort u}{α1:Sort v}{α2:Sort w}{α3:Sort u1}{α4:Sort u2}{α5:Sort u3}{α6:Sort u4}(p:α0->α1->α2->α3->α4->α5->α6->Prop):Prop
 | mk (a0:α0) (a1:α1) (a2:α2) (a3:α3) (a4:α4) (a5:α5) (a6:α6) (h:p a0 a1 a2 a3 a4 a5 a6):Uk p
inductive Uh{α0:Sort u}{α1:Sort v}{α2:Sort w}{α3:Sort u1}{α4:Sort u2}{α5:Sort u3}{α6:Sort u4}{α7:Sort u5}(p:α0->α1->α2->α3->α4->α5->α6->α7->Prop):Prop
 | mk (a0:α0) (a1:α1) (a2:α2) (a3:α3) (a4:α4) (a5:α5) (a6:α6) (a7:α7) (h:p a0 a1 a2 a3 a4 a5 a6 a7):Uh p
inductive VN{α0:Sort u}{α1:Sort v}{α2:Sort w}{α3:Sort u1}{α4:Sort u2}{α5:Sort u3}{α6:Sort u4}{α7:Sort u5}{α8:Sort u6}(p:α0->α1->α2->α3->α4->α5->α6->α7->α8->Prop):Prop
 | mk (a0:α0) (a1:α1) (a2:α2) (a3:α3) (a4:α4) (a5:α5) (a6:α6) (a7:α7) (a8:α8) (h:p a0 a1 a2 a3 a4 a5 a6 a7 a8):VN p
inductive K'{α0:Sort u}{α1:Sort v}{α2:Sort w}{α3:Sort u1}{α4:Sort u2}{α5:Sort u3}{α6:Sort u4}{α7:Sort u5}{α8:Sort u6}{α9:Sort u7}(p:α0->α1->α2->α3->α4->α5->α6->α7->α8->α9->Prop):Prop
 | mk (a0:α0) (a1:α1) (a2:α2) (a3:α3) (a4:α4) (a5:α5) (a6:α6) (a7:α7) (a8:α8) (a9:α9) (h:p a0 a1 a2 a3 a4 a5 a6 a7 a8 a9):K' p
end L2
namespace L2
open PySem
def VJ(a C:Uf)(h:No):Prop:=z9 λoe vs=>h.get? a=Fa oe/\oe.cls=.ref C/\oe.data=.fields vs/\oe.dict=Db
def G7(a C d:Uf)(h:No):Prop:=z9 λoe vs=>h.get? a=Fa oe/\oe.cls=.ref C/\oe.data=.fields vs/\oe.dict=Fa d
end L2
namespace L3
open L2
inductive D where
 | mY|bl (b:Bool)|int (i:Int)|str (x:Str)|tup (ds:List D)|ref (a:Uf)|ty (n:String)
 | rl (ds:List D)
def OP(K:qC)(H:Hp)(a:Uf)(xs:T0 V):Prop:=(∃o,H a=Fa (.frz o (.lst xs)))\/
 ∃(o:Obj) (its:Array Vl) (n:Nat),K.lookup a=Fa o/\o.cls=.type "list"/\o.dict=Db/\o.data=.seq its n/\its.size<=Ch/\qK xs its.toList
def OP.sq{K:qC}(h:OP K H a xs):zj K H a xs:=by
 rcases h with⟨o,h⟩|h
 .exact .inl (.inr ⟨o,h⟩)
 .exact .inr h
mutual
def rZ(K:qC)(H:Hp):D->V->Prop
 | .mY,v=>v=.mY
 | .bl b,v=>v=.bl b
 | .int i,v=>v=.int i
 | .str x,v=>v=.str x
 | .ref a,v=>v=.ref a
 | .ty n,v=>v=.ty n
 | .tup ds,v=>∃a xs,v=.ref a/\vn K H a xs/\qA K H ds xs
 | .rl ds,v=>∃a xs,v=.ref a/\OP K H a xs/\qA K H ds xs
def qA(K:qC)(H:Hp):T0 D->T0 V->Prop
 | [],xs=>xs=[]
 | d::ds,xs=>∃x r,xs=x::r/\rZ K H d x/\qA K H ds r
end
structure qY(K:qC)(H H':Hp):Prop where
 t:∀a xs,vn K H a xs->vn K H' a xs
 f:∀a o xs,H a=Fa (.frz o (.lst xs))->H' a=Fa (.frz o (.lst xs))
def qY.refl{K:qC}:qY K H H:=⟨λ_ _ h=>h,λ_ _ _ h=>h⟩
def qY.trans{K:qC}(a:qY K H H1)(b:qY K H1 H2):qY K H H2:=⟨λc xs h=>b.t c xs (a.t c xs h),λc o xs h=>b.f c o xs (a.f c o xs h)⟩
def qY.upd{K:qC}(h:∀xs,¬Rd H p (.tup xs))(h':∀u xs,H p≠Fa (.frz u (.lst xs))):qY K H (upd H p o):=⟨λa xs q=>by
 rcases q with q|q
 .have ne:a≠p:=λz=>h xs (z ▸ q);rcases q with q|⟨u,q⟩
  .exact .inl (.inl (by rw[qk ne];exact q))
  .exact .inl (.inr ⟨u,by rw[qk ne];exact q⟩)
 .exact .inr q,λa u xs q=>by
 have ne:a≠p:=λz=>h' u xs (z ▸ q);rw[qk ne];exact q⟩
def qY.new{K:qC}{H:Hp}{p:Uf}(h:H p=Db):qY K H (L2.upd H p o):=.upd (λxs q=>by
 rcases q with q|⟨u,q⟩<;>(rw[h]at q;cases q)) λu xs q=>by rw[h]at q;cases q
def OP.mono{K:qC}(e:qY K H H')(h:OP K H a xs):OP K H' a xs:=by
 rcases h with⟨o,h⟩|h
 .exact .inl ⟨o,e.f a o xs h⟩
 .exact .inr h
mutual
theorem rZ.mono{K:qC}(e:qY K H H'):∀{d:D} {v:V},rZ K H d v->rZ K H' d v
 | .mY,_,h=>h
 | .bl _,_,h=>h
 | .int _,_,h=>h
 | .str _,_,h=>h
 | .ref _,_,h=>h
 | .ty _,_,h=>h
 | .tup ds,v,h=>by unfold rZ at h ⊢;obtain⟨a,xs,e1,e2,e3⟩:=h;exact⟨a,xs,e1,e.t _ _ e2,qA.mono e e3⟩
 | .rl ds,v,h=>by unfold rZ at h ⊢;obtain⟨a,xs,e1,e2,e3⟩:=h;exact⟨a,xs,e1,e2.mono e,qA.mono e e3⟩
theorem qA.mono{K:qC}(e:qY K H H'):∀{ds:T0 D} {xs:T0 V},qA K H ds xs->qA K H' ds xs
 | [],_,h=>h
 | d::ds,xs,h=>by unfold qA at h ⊢;obtain⟨x,r,e1,e2,e3⟩:=h;exact⟨x,r,e1,rZ.mono e e2,qA.mono e e3⟩
end
variable {K:qC}{H H':Hp}
def qA.nil:qA K H [] []:=by unfold qA;rfl
def qA.cons(a:rZ K H d x)(b:qA K H ds xs):qA K H (d::ds) (x::xs):=by unfold qA;exact⟨x,xs,Z',a,b⟩
def qA.inv{d:D}{ds:T0 D}(h:qA K H (d::ds) xs):∃x r,xs=x::r/\rZ K H d x/\qA K H ds r:=by unfold qA at h;exact h
def qA.nil_inv(h:qA K H [] xs):xs=[]:=by unfold qA at h;exact h
theorem qA.length:∀{ds:T0 D} {xs:T0 V},qA K H ds xs->ds.length=xs.length
 | [],_,h=>by rw[h.nil_inv];rfl
 | d::ds,_,h=>by obtain⟨x,r,rfl,_,e⟩:=h.inv;simp[qA.length e]
theorem qA.get:∀{ds:T0 D} {xs:T0 V} {i:Nat} {d:D},qA K H ds xs->ds[i]?=Fa d->∃x,xs[i]?=Fa x/\rZ K H d x
 | [],_,_,_,_,e=>by simp at e
 | d::ds,_,0,_,h,e=>by obtain⟨x,r,rfl,a,_⟩:=h.inv;simp at e;subst e;exact⟨x,by simp,a⟩
 | d::ds,_,i+1,_,h,e=>by obtain⟨x,r,rfl,_,b⟩:=h.inv;obtain⟨y,e1,e2⟩:=qA.get b (by simpa using e);exact⟨y,by simpa using e1,e2⟩
theorem qA.append:∀{ds es:T0 D} {xs ys:T0 V},qA K H ds xs->qA K H es ys->qA K H (ds++es) (xs++ys)
 | [],_,_,_,h,g=>by rw[h.nil_inv];exact g
 | d::ds,_,_,_,h,g=>by obtain⟨x,r,rfl,a,b⟩:=h.inv;exact .cons a (qA.append b g)
theorem qA.take:∀{ds:T0 D} {xs:T0 V} (n:Nat),qA K H ds xs->qA K H (ds.take n) (xs.take n)
 | _,_,0,_=>by simp only[List.take_zero];exact .nil
 | [],_,n+1,h=>by rw[h.nil_inv];exact .nil
 | d::ds,_,n+1,h=>by obtain⟨x,r,rfl,a,b⟩:=h.inv;exact .cons a (qA.take n b)
theorem qA.drop:∀{ds:T0 D} {xs:T0 V} (n:Nat),qA K H ds xs->qA K H (ds.drop n) (xs.drop n)
 | _,_,0,h=>h
 | [],_,n+1,h=>by rw[h.nil_inv];exact .nil
 | d::ds,_,n+1,h=>by obtain⟨x,r,rfl,a,b⟩:=h.inv;exact qA.drop n b
def qA.snoc(h:qA K H ds xs)(a:rZ K H d x):qA K H (ds++[d]) (xs++[x]):=h.append (.cons a .nil)
theorem qA.ints:∀{ns:T0 Int},qA K H (ns.map D.int) (ns.map V.int)
 | []=>.nil
 | n::r=>.cons (by unfold rZ;rfl) qA.ints
def rZ.tup(q:vn K H a xs)(h:qA K H ds xs):rZ K H (.tup ds) (.ref a):=by unfold rZ;exact⟨a,xs,Z',q,h⟩
def rZ.m7{ds:T0 D}(h:rZ K H (.tup ds) v):∃a xs,v=.ref a/\vn K H a xs/\qA K H ds xs:=by unfold rZ at h;exact h
def rZ.nz{ds:T0 D}(h:rZ K H (.rl ds) v):∃a xs,v=.ref a/\OP K H a xs/\qA K H ds xs:=by unfold rZ at h;exact h
def rZ.int{i:Int}:rZ K H (.int i) (.int i):=by unfold rZ;rfl
def rZ.bl{i:Bool}:rZ K H (.bl i) (.bl i):=by unfold rZ;rfl
def rZ.str{i:Str}:rZ K H (.str i) (.str i):=by unfold rZ;rfl
def rZ.ref{i:Uf}:rZ K H (.ref i) (.ref i):=by unfold rZ;rfl
def rZ.mY:rZ K H .mY .mY:=by unfold rZ;rfl
def rZ.int_inv{i:Int}(h:rZ K H (.int i) v):v=.int i:=by unfold rZ at h;exact h
def rZ.mX{i:Bool}(h:rZ K H (.bl i) v):v=.bl i:=by unfold rZ at h;exact h
def rZ.str_inv{i:Str}(h:rZ K H (.str i) v):v=.str i:=by unfold rZ at h;exact h
def rZ.mT{i:Uf}(h:rZ K H (.ref i) v):v=.ref i:=by unfold rZ at h;exact h
def rZ.nW{i:String}(h:rZ K H (.ty i) v):v=.ty i:=by unfold rZ at h;exact h
def rZ.mW{v:V}(h:rZ K H .mY v):v=.mY:=by unfold rZ at h;exact h
inductive vd where
 | lst (ds:List D)
 | ins (C:Uf) (fs:List (Str×D))
 | dk (kvs:List (rm×D))
 | exc (φ:No->Prop)
abbrev Mp:=Uf->Option vd
noncomputable def pQ(M:Mp)(a:Uf)(c:vd):Mp:=λb=>if b=a then Fa c else M b
def pZ:pQ M a c a=Fa c:=by unfold pQ;rw[dw Z']
def sU{a b:Uf}(h:b≠a):pQ M a c b=M b:=by unfold pQ;rw[dh h]
def rY:pQ (pQ M a c) a d=pQ M a d:=by funext b;unfold pQ;split<;>rfl
def PH{M:Mp}{a b:Uf}{c:vd}(h:M a=Fa c)(h':M b=Db):a≠b:=by intro e;subst e;rw[h]at h';cases h'
def Dd(K:qC)(H:Hp)(fs:T0 (Str×D))(vs:T0 (Str×V)):Prop:=vs.map (·.1)=fs.map (·.1)/\qA K H (fs.map (·.2)) (vs.map (·.2))
def ye(K:qC)(H:Hp)(a:Uf):vd->Prop
 | .lst ds=>∃xs,H a=Fa (.lst xs)/\qA K H ds xs
 | .ins C fs=>∃dx vs,H a=Fa (.ins C dx vs)/\Cls K C/\(∀f,f∈fs.map (·.1)->uC K C f)/\Dd K H fs vs
 | .dk kvs=>∃vs,H a=Fa (.dK vs)/\vs.map (·.1)=kvs.map (·.1)/\qA K H (kvs.map (·.2)) (vs.map (·.2))
 | .exc φ=>H a=Fa (.ext φ)
def HM(K:qC)(H:Hp)(M:Mp):Prop:=∀a c,M a=Fa c->ye K H a c
variable {M:Mp}
def Dd.mono(e:qY K H H')(h:Dd K H fs vs):Dd K H' fs vs:=⟨h.1,h.2.mono e⟩
def ye.keep(e:qY K H H')(k:H' a=H a)(h:ye K H a c):ye K H' a c:=by
 cases c with
 | lst ds=>obtain⟨xs,e1,e2⟩:=h;exact⟨xs,by rw[k];exact e1,e2.mono e⟩
 | ins C fs=>obtain⟨dx,vs,e1,c,n,e2⟩:=h;exact⟨dx,vs,by rw[k];exact e1,c,n,e2.mono e⟩
 | dk kvs=>obtain⟨vs,e1,e2,e3⟩:=h;exact⟨vs,by rw[k];exact e1,e2,e3.mono e⟩
 | exc C=>exact k.trans h
def ye.there(h:ye K H a c):∃o,H a=Fa o/\(∀xs,¬Rd H a (.tup xs))/\∀u xs,H a≠Fa (.frz u (.lst xs)):=by
 have go:∀o,H a=Fa o->(∀xs,o≠.tup xs)->(∀u v,o≠.frz u v)->∃o,H a=Fa o/\(∀xs,¬Rd H a (.tup xs))/\∀u xs,H a≠Fa (.frz u (.lst xs)):=λo e n1 n2=>⟨o,e,λxs q=>by
  rcases q with q|⟨u,q⟩
  .rw[e]at q;exact n1 xs (dD q)
  .rw[e]at q;exact n2 u _ (dD q),λu xs q=>by rw[e]at q;exact n2 u _ (dD q)⟩
 cases c with
 | lst ds=>obtain⟨xs,e1,e2⟩:=h;exact go _ e1 (λ_ z=>by cases z) λ_ _ z=>by cases z
 | ins C fs=>obtain⟨dx,vs,e1,e2⟩:=h;exact go _ e1 (λ_ z=>by cases z) λ_ _ z=>by cases z
 | dk kvs=>obtain⟨vs,e1,e2,e3⟩:=h;exact go _ e1 (λ_ z=>by cases z) λ_ _ z=>by cases z
 | exc C=>exact go _ h (λ_ z=>by cases z) λ_ _ z=>by cases z
def HM.fresh(h:HM K H M){p:Uf}(n:H p=Db):M p=Db:=by
 cases e:M p with
 | none=>rfl
 | some c=>obtain⟨o,q,_⟩:=(h p c e).there;rw[n]at q;cases q
def HM.keep(h:HM K H M)(e:qY K H H')(k:∀a c,M a=Fa c->H' a=H a):HM K H' M:=λa c q=>(h a c q).keep e (k a c q)
def HM.add(h:HM K H M){p:Uf}{o:HO}(n:H p=Db):HM K (upd H p o) M:=h.keep (.new n) λa c q=>by obtain⟨u,e,_⟩:=(h a c q).there;rw[qk (ra e n)]
def HM.new(h:HM K H M){p:Uf}{o:HO}{c:vd}(n:H p=Db)(ok:ye K (upd H p o) p c):HM K (upd H p o) (pQ M p c):=λa d q=>by
 by_cases e:a=p
 .subst e;rw[pZ]at q;cases q;exact ok
 .rw[sU e]at q;exact h.add n a d q
def HM.put(h:HM K H M){p:Uf}{o:HO}{c c0:vd}(e0:M p=Fa c0)(ok:qY K H (upd H p o)->ye K (upd H p o) p c):HM K (upd H p o) (pQ M p c)/\qY K H (upd H p o):=by
 obtain⟨u,eu,nt,nf⟩:=(h p c0 e0).there;have x:qY K H (upd H p o):=.upd nt nf;refine⟨λa d q=>?_,x⟩;by_cases e:a=p
 .subst e;rw[pZ]at q;cases q;exact ok x
 .rw[sU e]at q;exact(h a d q).keep x (qk e)
abbrev St:=L2.St
abbrev vq:=T0 (Option D)
abbrev DK:=D->Mp->Prop
abbrev T3:=vq->Mp->DK->Prop
abbrev AY:=vq->Mp->(Bool->Mp->Prop)->Prop
abbrev ya:=vq->Mp->(T0 D->Mp->Prop)->Prop
structure Hw where
 nx:vq->Mp->Prop
 rt:DK
 bk:vq->Mp->Prop:=λ_ _=>False
 ct:vq->Mp->Prop:=λ_ _=>False
abbrev xT:=Hw->vq->Mp->Prop
def yU(K:qC)(H:Hp)(Y:St)(U:vq):Prop:=∀(i:Nat) (d:D),U[i]?=Fa (Fa d)->∃v,Y[i]?=Fa (Fa v)/\rZ K H d v
def yU.mono{K:qC}(e:qY K H H')(h:yU K H Y U):yU K H' Y U:=λi d q=>by obtain⟨v,e1,e2⟩:=h i d q;exact⟨v,e1,e2.mono e⟩
def yU.set{K:qC}{i:Nat}(h:yU K H Y U)(hv:rZ K H d v)(hi:i<Y.length):yU K H (Y.set i (Fa v)) (U.set i (Fa d)):=λj e q=>by
 by_cases hj:j=i
 .subst hj;rw[eW hi];by_cases hl:j<U.length
  .rw[eW hl]at q;cases q;exact⟨v,Z',hv⟩
  .rw[gJ (by simpa using hl)]at q;cases q
 .rw[fg (dW hj)]at q ⊢;exact h j e q
def lo(K:qC)(t:T3):TE:=λY H Q'=>Di λU M Q=>yU K H Y U/\HM K H M/\t U M Q/\∀v H' d M',rZ K H' d v->HM K H' M'->qY K H H'->Q d M'->Q' v H'
def Ul(K:qC)(t:AY):TT:=λY H Q'=>Di λU M Q=>yU K H Y U/\HM K H M/\t U M Q/\∀b H' M',HM K H' M'->qY K H H'->Q b M'->Q' b H'
def Xj(K:qC)(t:ya):TA:=λY H Q'=>Di λU M Q=>yU K H Y U/\HM K H M/\t U M Q/\∀vs H' ds M',qA K H' ds vs->HM K H' M'->qY K H H'->Q ds M'->Q' vs H'
def WB(K:qC)(t:xT):TS:=λD' Y H=>Di λU M D=>yU K H Y U/\HM K H M/\t D U M/\(∀σ' H' δ' M',yU K H' σ' δ'->HM K H' M'->qY K H H'->σ'.length=Y.length->D.nx δ' M'->D'.nx σ' H')/\
 (∀v H' d M',rZ K H' d v->HM K H' M'->qY K H H'->D.rt d M'->D'.rt v H')/\(∀σ' H' δ' M',yU K H' σ' δ'->HM K H' M'->qY K H H'->σ'.length=Y.length->D.bk δ' M'->D'.bk σ' H')/\
 (∀σ' H' δ' M',yU K H' σ' δ'->HM K H' M'->qY K H H'->σ'.length=Y.length->D.ct δ' M'->D'.ct σ' H')
def E3(X:Cx)(e:Go)(t:T3):Prop:=PE X e (lo X.K t)
def B3(X:Cx)(e:Go)(t:AY):Prop:=PT X e (Ul X.K t)
def A3(X:Cx)(es:T0 Go)(t:ya):Prop:=PA X es (Xj X.K t)
def S3(X:Cx)(st:TD)(t:xT):Prop:=PS X st (WB X.K t)
def HZ(X:Cx)(st:T0 TD)(t:xT):Prop:=Cq X st (WB X.K t)
def PE.mono{t t':TE}(h:PE X e t)(m:∀Y H Q,t' Y H Q->t Y H Q):PE X e t':=λXQ s Y H Q I q=>h XQ s Y H Q I (m Y H Q q)
def PT.mono{t t':TT}(h:PT X e t)(m:∀Y H Q,t' Y H Q->t Y H Q):PT X e t':=λXQ s Y H Q I q=>h XQ s Y H Q I (m Y H Q q)
def PA.mono{t t':TA}(h:PA X e t)(m:∀Y H Q,t' Y H Q->t Y H Q):PA X e t':=λpos XQ s Y H Q I q=>h pos XQ s Y H Q I (m Y H Q q)
def PS.mono{t t':TS}(h:PS X e t)(m:∀D Y H,t' D Y H->t D Y H):PS X e t':=λXQ s Y H D I q=>h XQ s Y H D I (m D Y H q)
def Cq.mono{t t':TS}(h:Cq X e t)(m:∀D Y H,t' D Y H->t D Y H):Cq X e t':=λXQ s Y H D I q=>h XQ s Y H D I (m D Y H q)
def PS.og{t t':TS}(h:PS X e t)(m:∀D Y H,Y.length=X.N.length->t' D Y H->t D Y H):PS X e t':=λXQ s Y H D I q=>h XQ s Y H D I (m D Y H I.len q)
def vT{K:qC}{Q':VK}{Q:DK}(x:qY K H H1)(f:∀v H' d M',rZ K H' d v->HM K H' M'->qY K H H'->Q d M'->Q' v H'):∀v H' d M',rZ K H' d v->HM K H' M'->qY K H1 H'->Q d M'->Q' v H':=
 λv H' d M' a b c e=>f v H' d M' a b (x.trans c) e
variable {X:Cx}{pos:Pos}
def v3(i:Nat):T3:=λU M Q=>(U.getD i Db).elim False λd=>Q d M
def Kx{U:vq}{i:Nat}{P:D->Prop}(h:(U.getD i Db).elim False P):∃d,U[i]?=Fa (Fa d)/\P d:=by
 cases e:U[i]? with
 | none=>rw[gj,e]at h;exact h.elim
 | some o=>
  rw[gj,e]at h;cases o with
  | none=>exact h.elim
  | some d=>exact⟨d,Z',h⟩
def Se(i:Nat){x:Str}(h:PE X (.Name x pos) (ED i)):E3 X (.Name x pos) (v3 i):=PE.mono h λY H Q' zz=>x7 zz λU M Q hs hm ht k=>by obtain⟨d,e,q⟩:=Kx ht;obtain⟨v,e1,e2⟩:=hs i d e;exact⟨v,e1,k v H d M e2 hm .refl q⟩
def c3(d:D):T3:=λ_ M Q=>Q d M
def pI{i j}:E3 X (.Constant (.int i) j pos) (c3 (.int i)):=PE.mono Su λY H Q' zz=>x7 zz λU M Q hs hm ht k=>k _ H _ M .int hm .refl ht
def wb{i j}:E3 X (.Constant (.bool i) j pos) (c3 (.bl i)):=PE.mono VL λY H Q' zz=>x7 zz λU M Q hs hm ht k=>k _ H _ M .bl hm .refl ht
def pJ{i j}:E3 X (.Constant (.str i) j pos) (c3 (.str i)):=PE.mono TL λY H Q' zz=>x7 zz λU M Q hs hm ht k=>k _ H _ M .str hm .refl ht
def rb{j}:E3 X (.Constant .none j pos) (c3 .mY):=PE.mono RS λY H Q' zz=>x7 zz λU M Q hs hm ht k=>k _ H _ M .mY hm .refl ht
def FR{a:Uf}(hg:Gl X x)(hm:X.mg x=Fa (.ref a))(hd:yI x:=by decide):E3 X (.Name x pos) (c3 (.ref a)):=
 PE.mono (BJ (v:=.ref a) hg hm Z' hd) λY H Q' zz=>x7 zz λU M Q hs hm ht k=>k _ H _ M .ref hm .refl ht
def RC{n:String}(hg:Gl X x)(hm:X.mg x=Db)(hv:zn x=Fa (.type n))(hn:x≠"__name__":=by decide)(hd:yI x:=by decide):E3 X (.Name x pos) (c3 (.ty n)):=
 PE.mono (PR (v:=.ty n) hg hm hv Z' hn hd) λY H Q' zz=>x7 zz λU M Q hs hm ht k=>k _ H _ M (by unfold rZ;rfl) hm .refl ht
noncomputable def oN(M:Mp)(a:Uf):Option (T0 D):=match M a with
 | some (.lst ds)=>Fa ds
 | _=>Db
noncomputable def yV(x:Str)(n:Int):Str:=⟨(List.replicate n.toNat x.cps).foldl (·++·) #[]⟩
def V9(op:XYa)(x y:D)(M:Mp)(Q:DK):Prop:=match op,x,y with
 | .Add,.int i,.int j=>Q (.int (i+j)) M
 | .Add,.str i,.str j=>i.length+j.length<=Ch/\Q (.str (i++j)) M
 | .Add,.tup i,.tup j=>i≠[]/\i.length+j.length<=Ch/\Q (.tup (i++j)) M
 | .Add,.ref a,.ref b=>(oN M a).elim False λi=>(oN M b).elim False λj=>i.length+j.length<=Ch/\∀p,M p=Db->Q (.ref p) (pQ M p (.lst (i++j)))
 | .Add,.rl i,.ref b=>(oN M b).elim False λj=>i.length+j.length<=Ch/\∀p,M p=Db->Q (.ref p) (pQ M p (.lst (i++j)))
 | .Sub,.int i,.int j=>Q (.int (i - j)) M
 | .Mult,.int i,.int j=>DC i j/\Q (.int (i*j)) M
 | .Mult,.str i,.int j=>(j<4096/\-4096<j/\i.length<4096)/\Q (.str (yV i j)) M
 | .FloorDiv,.int i,.int j=>VX i j/\Q (.int (i / j)) M
 | .Mod,.int i,.int j=>0<j/\Q (.int (i % j)) M
 | _,_,_=>False
def o3(op:XYa)(ta tb:T3):T3:=λU M Q=>ta U M λx M1=>tb U M1 λy M2=>V9 op x y M2 Q
def Up(K:qC)(H:Hp)(Q':VK)(Q:DK):Prop:=∀v H' d M',rZ K H' d v->HM K H' M'->qY K H H'->Q d M'->Q' v H'
variable {ta tb:T3}
section
def qG{K:qC}{ds:T0 D}(hm:HM K H M)(h:oN M a=Fa ds):∃xs,zj K H a xs/\qA K H ds xs/\Rd H a (.lst xs):=by
 unfold oN at h;cases e:M a with
 | none=>rw[e]at h;cases h
 | some c=>
  rw[e]at h;have ok:=hm a c e;cases c with
  | lst es=>cases h;obtain⟨xs,e1,e2⟩:=ok;exact⟨xs,.inl (.inl e1),e2,.inl e1⟩
  | ins _ _=>cases h
  | dk _=>cases h
  | exc _=>cases h
def qZ{α:Type}{o:Option α}{P:α->Prop}(h:o.elim False P):∃a,o=Fa a/\P a:=by
 cases o with
 | none=>exact h.elim
 | some a=>exact⟨a,Z',h⟩
def JK:xI X (sK .Add) (λx y H Q=>∃l b xs zs,x=.ref l/\y=.ref b/\zj X.K H l xs/\zj X.K H b zs/\xs.length+zs.length<=Ch/\∀p,H p=Db->Q (.ref p) (upd H p (.lst (xs++zs)))):=by
 intro XQ s Y H x y v u Q I rx ry h;obtain⟨l,b,xs,zs,rfl,rfl,hH,hB,hz,q⟩:=h;cases rx;cases ry;obtain⟨its,r,⟨⟨c1,d1,t1,sl1⟩,n,g1,e1,_,f1⟩,_⟩:=I.list hH;obtain⟨ZL,r2,⟨⟨c2,d2,t2,sl2⟩,m,g2,e2,_,f2⟩,_⟩:=I.list hB;simp only at e1 f1 e2 f2;subst e1 f1 e2 f2;have hl:=r.length;have hl2:=r2.length;refine ly ⟨_,g1,Z'⟩ ⟨_,g2,Z'⟩ noFill_list_add seq_list_add PySem.F.slot_list_add PySem.F.entry_list_add (PySem.F.args_list_add_2 _ _) (list_addW l b its.toArray ZL.toArray n m d1 d2 sl1 sl2 (by rw[dF,dF];lia)) ⟨g1,g2,?_⟩;have ea:its.toArray++ZL.toArray=(its++ZL).toArray:=by simp
 rw[ea];exact⟨.ref _,_,I.pf (t':=s.toks) (r.append r2) (by rw[dq];lia),Z',q _ I.fresh⟩
def JU(x:Array Nat):∀k,((List.replicate k x).foldl (·++·) #[]:Array Nat).size=k*x.size:=by
 have go:∀(k:Nat) (acc:Array Nat),((List.replicate k x).foldl (·++·) acc).size=acc.size+k*x.size:=by
  intro k;induction k with
  | zero=>intro acc;simp
  | succ k ih=>intro acc;rw[eQ,gc,ih,Array.size_append,mG];lia
 intro k;rw[go];simp
def Pu:xI X (sK .Mult) (λx y H Q=>∃i j,x=.str i/\y=.int j/\(j<4096/\-4096<j/\i.length<4096)/\Q (.str (yV i j)) H):=by
 intro XQ s Y H x y v u Q I rx ry h;obtain⟨i,j,rfl,rfl,⟨h1,h2,h3⟩,q⟩:=h;obtain⟨t,rfl⟩:=rx;obtain⟨t',rfl⟩:=ry;refine PySem.P.mul_str ?_ ?_ ?_ ?_
 .rw[e9 (by lia),e9 (by lia)];rfl
 .intro h0 _;have:(4096:Int)<=(2 ^ 63 - 1) / j:=by
   have:(4096:Int)*j<=2 ^ 63 - 1:=by lia
   exact(Int.le_ediv_iff_mul_le (by lia)).mpr this
  lia
 .intro h0 _;have hm:i.length*j.toNat<=4096*4096:=kE (by lia) (by lia);have hz:=dR;unfold Builtin.Str.tooLong;exact e9 (by lia)
 .by_cases h0:j<1
  .rw[dw h0];have e:yV i j=Str.empty:=by unfold yV;rw[show j.toNat=0 by lia];rfl
   rw[e]at q;exact⟨by decide,⟨.str Str.empty,H,I.tok _,⟨_,Z'⟩,q⟩⟩
  .rw[dh h0];by_cases hj:(j==1||i.length==0)=pc
   .rw[dw hj];have e:yV i j=i:=by
     have hj':j=1\/i.length=0:=by simpa using hj
     unfold yV;rcases hj' with z|z
     .subst z;show(⟨#[]++i.cps⟩:Str)=i;simp
     .have ec:i.cps=#[]:=Array.size_eq_zero_iff.mp z;have er:∀k:Nat,((List.replicate k (#[]:Array Nat)).foldl (·++·) #[]:Array Nat)=#[]:=by
       intro k;induction k with
       | zero=>rfl
       | succ k ih=>rw[eQ,gc];simpa using ih
      rw[ec,er,<-ec]
    rw[e]at q;exact⟨.str i,H,I,⟨t,Z'⟩,q⟩
   .rw[dh hj];refine⟨?_,⟨.str _,H,I.tok _,⟨_,Z'⟩,q⟩⟩;have hz:=dR;have hm:j.toNat*i.length<=4096*4096:=kE (by lia) (by lia);show((List.replicate j.toNat i.cps).foldl (·++·) #[]:Array Nat).size<=_;rw[JU];have YY:j.toNat*i.cps.size<=4096*4096:=hm;lia
def R3(K:qC)(f:D->D->Mp->DK->Prop):R2:=λvx vy H Q'=>Au λx y M Q=>rZ K H x vx/\rZ K H y vy/\HM K H M/\f x y M Q/\Up K H Q' Q
def Xz(op:XYa):xI X (sK op) (R3 X.K (V9 op)):=by
 intro XQ s Y H vx vy v u Q' I rx ry h;obtain⟨x,y,M,Q,hx,hy,hm,q,k⟩:=h;unfold V9 at q;split at q
 .cases hx.int_inv;cases hy.int_inv;exact T5 XQ s Y H _ _ v u Q' I rx ry ⟨_,_,Z',Z',k _ _ _ _ .int hm .refl q⟩
 .cases hx.str_inv;cases hy.str_inv;exact HI XQ s Y H _ _ v u Q' I rx ry ⟨_,_,Z',Z',q.1,k _ _ _ _ .str hm .refl q.2⟩
 .rename_i i j;obtain⟨q1,q2,q3⟩:=q;obtain⟨a,xs,rfl,ha,Zq⟩:=hx.m7;obtain⟨b,ys,rfl,hb,YH⟩:=hy.m7;have l1:=Zq.length;have l2:=YH.length;refine QW XQ s Y H _ _ v u Q' I rx ry ⟨a,b,xs,ys,Z',Z',ha,hb,λz=>q1 (by rw[z]at l1;exact gA.mp l1),by lia,λz=>?_,λz p hp=>?_⟩
  .refine k _ _ _ _ (.tup ha ?_) hm .refl q3;rw[z]at YH;have e0:j=[]:=gA.mp (by simpa using YH.length);rw[e0,fk];exact Zq
  .have e:qY X.K H (upd H p (.tup (xs++ys))):=.new hp;exact k _ _ _ _ (.tup (.of qw) ((Zq.append YH).mono e)) (hm.add hp) e q3
 .obtain⟨i,ei,q⟩:=qZ q;obtain⟨j,ej,q1,q2⟩:=qZ q;cases hx.mT;cases hy.mT;obtain⟨xs,rx',hxs,_⟩:=qG hm ei;obtain⟨ys,ry',hys,_⟩:=qG hm ej;have l1:=hxs.length;have l2:=hys.length;refine JK XQ s Y H _ _ v u Q' I rx ry ⟨_,_,xs,ys,Z',Z',rx',ry',by lia,λp hp=>?_⟩;have e:qY X.K H (upd H p (.lst (xs++ys))):=.new hp;exact k _ _ _ _ .ref (hm.new (c:=.lst (i++j)) hp ⟨_,qw,(hxs.append hys).mono e⟩) e (q2 p (hm.fresh hp))
 .obtain⟨j,ej,q1,q2⟩:=qZ q;obtain⟨l,xs,rfl,rx',hxs⟩:=hx.nz;cases hy.mT;obtain⟨ys,ry',hys,_⟩:=qG hm ej;have l1:=hxs.length;have l2:=hys.length;refine JK XQ s Y H _ _ v u Q' I rx ry ⟨_,_,xs,ys,Z',Z',rx'.sq,ry',by lia,λp hp=>?_⟩;have e:qY X.K H (upd H p (.lst (xs++ys))):=.new hp;exact k _ _ _ _ .ref (hm.new (c:=.lst (_++j)) hp ⟨_,qw,(hxs.append hys).mono e⟩) e (q2 p (hm.fresh hp))
 .cases hx.int_inv;cases hy.int_inv;exact SH XQ s Y H _ _ v u Q' I rx ry ⟨_,_,Z',Z',k _ _ _ _ .int hm .refl q⟩
 .cases hx.int_inv;cases hy.int_inv;exact Ts XQ s Y H _ _ v u Q' I rx ry ⟨_,_,Z',Z',q.1,k _ _ _ _ .int hm .refl q.2⟩
 .cases hx.str_inv;cases hy.int_inv;exact Pu XQ s Y H _ _ v u Q' I rx ry ⟨_,_,Z',Z',q.1,k _ _ _ _ .str hm .refl q.2⟩
 .cases hx.int_inv;cases hy.int_inv;exact P4 XQ s Y H _ _ v u Q' I rx ry ⟨_,_,Z',Z',q.1,k _ _ _ _ .int hm .refl q.2⟩
 .cases hx.int_inv;cases hy.int_inv;exact SK XQ s Y H _ _ v u Q' I rx ry ⟨_,_,Z',Z',q.1,k _ _ _ _ .int hm .refl q.2⟩
 .exact q.elim
variable {a b:Go}
def Gz{f:D->D->Mp->DK->Prop}:∀Y H Q',lo X.K (λU M Q=>ta U M λx M1=>tb U M1 λy M2=>f x y M2 Q) Y H Q'->UO (R3 X.K f) (lo X.K ta) (lo X.K tb) Y H Q':=λY H Q' zz=>x7 zz λU M Q hs hm ht k=>⟨U,M,_,hs,hm,ht,λv H1 x M1 hx XT e1 q1=>⟨U,M1,_,hs.mono e1,XT,q1,λu H2 y M2 hy Ya e2 q2=>⟨x,y,M2,Q,hx.mono e2,hy,Ya,q2,vT (e1.trans e2) k⟩⟩⟩
def qe(ha:E3 X a ta)(hb:E3 X b tb):E3 X (.BinOp a op b pos) (o3 op ta tb):=PE.mono (LB (Xz op) ha hb) Gz
end
noncomputable def sQ(f:D->D->Option Bool):T0 D->T0 D->Option Bool
 | x::a,y::b=>(f x y).bind λp=>(sQ f a b).map λq=>p&&q
 | _,_=>Fa pc
noncomputable def xA(M:Mp):Nat->D->D->Option Bool
 | 0,_,_=>Db
 | n+1,x,y=>match x,y with
  | .mY,.mY=>Fa pc
  | .bl a,.bl b=>Fa (a==b)
  | .int a,.int b=>Fa (a==b)
  | .str a,.str b=>Fa (a==b)
  | .mY,.bl _=>Fa lf
  | .mY,.int _=>Fa lf
  | .mY,.str _=>Fa lf
  | .bl _,.mY=>Fa lf
  | .bl _,.str _=>Fa lf
  | .int _,.mY=>Fa lf
  | .int _,.str _=>Fa lf
  | .str _,.mY=>Fa lf
  | .str _,.bl _=>Fa lf
  | .str _,.int _=>Fa lf
  | .tup a,.tup b=>(sQ (xA M n) a b).map λp=>p&&a.length==b.length
  | .ref a,.ref b=>(oN M a).bind λi=>(oN M b).bind λj=>if i.length=j.length then sQ (xA M n) i j else Fa lf
  | _,_=>Db
variable {XQ:T0 (Uf × Obj)}{Y:St}{s:Sd}
theorem yT{f:D->D->Option Bool}:∀{ds es:T0 D} {xs:T0 V} {b:Bool},qA X.K H ds xs->qA X.K H es xs->(∀x y v b,rZ X.K H x v->rZ X.K H y v->f x y=Fa b->b=pc)->sQ f ds es=Fa b->b=pc
 | [],[],_,_,_,_,_,e=>(dD e).symm
 | [],_::_,_,_,h,g,_,_=>by have h1:=h.length;have h2:=g.length;rw[<-h1]at h2;simp at h2
 | _::_,[],_,_,h,g,_,_=>by have h1:=h.length;have h2:=g.length;rw[<-h1]at h2;simp at h2
 | d::ds,e::es,xs,b,h,g,k,q=>by
  obtain⟨x,r,rfl,h1,h2⟩:=h.inv;obtain⟨x',r',e',g1,g2⟩:=g.inv;cases e';unfold sQ at q;cases p1:f d e with
  | none=>rw[p1]at q;cases q
  | some b1=>
   rw[p1]at q;cases p2:sQ f ds es with
   | none=>rw[p2]at q;cases q
   | some b2=>rw[p2]at q;have q':(b1&&b2)=b:=dD q;rw[<-q',k _ _ _ _ h1 g1 p1,yT h2 g2 k p2];rfl
theorem zU(I:Inv X XQ Y H s)(hm:HM X.K H M):∀(n:Nat) (x y:D) (v:V) (b:Bool),rZ X.K H x v->rZ X.K H y v->xA M n x y=Fa b->b=pc
 | 0,_,_,_,_,_,_,e=>by cases e
 | n+1,x,y,v,b,hx,hy,e=>by
  unfold xA at e;split at e
  .exact(dD e).symm
  .rw[hx.mX]at hy;cases hy.mX;exact(dD e).symm.trans (by simp)
  .rw[hx.int_inv]at hy;cases hy.int_inv;exact(dD e).symm.trans (by simp)
  .rw[hx.str_inv]at hy;cases hy.str_inv;exact(dD e).symm.trans (by simp)
  .rw[hx.mW]at hy;cases hy.mX
  .rw[hx.mW]at hy;cases hy.int_inv
  .rw[hx.mW]at hy;cases hy.str_inv
  .rw[hx.mX]at hy;cases hy.mW
  .rw[hx.mX]at hy;cases hy.str_inv
  .rw[hx.int_inv]at hy;cases hy.mW
  .rw[hx.int_inv]at hy;cases hy.str_inv
  .rw[hx.str_inv]at hy;cases hy.mW
  .rw[hx.str_inv]at hy;cases hy.mX
  .rw[hx.str_inv]at hy;cases hy.int_inv
  .obtain⟨a,xs,rfl,h1,h2⟩:=hx.m7;obtain⟨a',ys,e',g1,g2⟩:=hy.m7;cases e';rw[I.nF g1 h1]at g2;cases p:sQ (xA M n) _ _ with
   | none=>rw[p]at e;cases e
   | some b1=>rw[p]at e;have e':=dD e;rw[<-e',yT h2 g2 (zU I hm n) p,h2.length,g2.length];simp
  .rw[hx.mT]at hy;cases hy.mT;cases p:oN M _ with
   | none=>rw[p]at e;cases e
   | some i=>rw[p]at e;have e:(if i.length=i.length then sQ (xA M n) i i else Fa lf)=Fa b:=e;rw[dw Z']at e;obtain⟨xs,_,h2,_⟩:=qG hm p;exact yT h2 h2 (zU I hm n) e
  .cases e
theorem Cg{A:Ar}:∀{ds es:T0 D} {xs ys:T0 V} {us ws:T0 Vl} {b:Bool},sQ f ds es=Fa b->qA X.K H ds xs->qA X.K H es ys->qK xs us->qK ys ws->
  (∀x y b vx vy u w,f x y=Fa b->rZ X.K H x vx->rZ X.K H y vy->qQ vx u->qQ vy w->SeqAt.EqAt A s u w b)->
  ∃e:Nat->Bool,(∀j (h1:j<us.length) (h2:j<ws.length),SeqAt.EqAt A s us[j] ws[j] (e j))/\(List.range (min us.length ws.length)).all e=b
 | [],es,xs,ys,us,ws,b,q,hx,hy,rx,ry,k=>by
  have e1:=hx.nil_inv;subst e1;cases rx;refine⟨λ_=>pc,λj h1=>absurd h1 (by simp),?_⟩;have q':Fa pc=Fa b:=by cases es<;>exact q
  simpa using(dD q')
 | d::ds,[],xs,ys,us,ws,b,q,hx,hy,rx,ry,k=>by
  have e1:=hy.nil_inv;subst e1;cases ry;refine⟨λ_=>pc,λj _ h2=>absurd h2 (by simp),?_⟩;have q':Fa pc=Fa b:=q
  simpa using(dD q')
 | d::ds,e::es,xs,ys,us,ws,b,q,hx,hy,rx,ry,k=>by
  obtain⟨x,r,rfl,h1,h2⟩:=hx.inv;obtain⟨y,r',rfl,g1,g2⟩:=hy.inv;cases rx with
  | cons r1 r2=>
   cases ry with
   | cons t1 t2=>
    unfold sQ at q;cases p1:f d e with
    | none=>rw[p1]at q;cases q
    | some b1=>
     rw[p1]at q;cases p2:sQ f ds es with
     | none=>rw[p2]at q;cases q
     | some b2=>
      rw[p2]at q;have q':(b1&&b2)=b:=dD q;obtain⟨e',he,ha⟩:=Cg p2 h2 g2 r2 t2 k;refine⟨λj=>match j with|0=>b1|j+1=>e' j,λj l1 l2=>?_,?_⟩
      .cases j with
       | zero=>exact k _ _ _ _ _ _ _ p1 h1 g1 r1 t1
       | succ j=>exact he j (by simpa using l1) (by simpa using l2)
      .rw[<-q',<-ha];simp only[eK];rw[Nat.succ_min_succ,List.range_succ_eq_map,eL,j3];rfl
theorem FO(I:Inv X XQ Y H s)(hm:HM X.K H M):∀(n:Nat) (A:Ar) (x y:D) (b:Bool) (vx vy:V) (u w:Vl),A.units+n<X'->xA M n x y=Fa b->rZ X.K H x vx->rZ X.K H y vy->qQ vx u->qQ vy w->
  SeqAt.RcAt A s u w b/\SeqAt.EqAt A s u w b/\SeqAt.RcNeAt A s u w (!b)
 | 0,_,_,_,_,_,_,_,_,_,e,_,_,_,_=>by cases e
 | n+1,A,x,y,b,vx,vy,u,w,hu,e,hx,hy,rx,ry=>by
  have hu1:A.units<X':=by lia
  have hui:A.in1.units+n<X':=by show A.units+1+n<X';lia
  unfold xA at e;split at e
  .cases hx.mW;cases hy.mW;cases rx;cases ry;cases e;exact⟨.none_none,.same _,.none_none⟩
  .cases hx.mX;cases hy.mX;cases rx;cases ry;cases e;exact⟨.bool_bool _ _,.bool_bool _ _,.bool_bool _ _⟩
  .cases hx.int_inv;cases hy.int_inv;obtain⟨t,rfl⟩:=rx;obtain⟨t',rfl⟩:=ry;cases e;exact⟨.int_int _ _ _ _,.int_int _ _ _ _,.int_int _ _ _ _⟩
  .cases hx.str_inv;cases hy.str_inv;obtain⟨t,rfl⟩:=rx;obtain⟨t',rfl⟩:=ry;cases e;exact⟨.str_str _ _ _ _,.str_str _ _ _ _,.str_str _ _ _ _⟩
  .cases hx.mW;cases hy.mX;cases rx;cases ry;cases e;exact⟨.none_bool _,.none_bool _,.none_bool _⟩
  .cases hx.mW;cases hy.int_inv;cases rx;obtain⟨t',rfl⟩:=ry;cases e;exact⟨.none_int _ _,.none_int _ _,.none_int _ _⟩
  .cases hx.mW;cases hy.str_inv;cases rx;obtain⟨t',rfl⟩:=ry;cases e;exact⟨.none_str _ _,.none_str _ _,.none_str _ _⟩
  .cases hx.mX;cases hy.mW;cases rx;cases ry;cases e;exact⟨.bool_none _,.bool_none _,.bool_none _⟩
  .cases hx.mX;cases hy.str_inv;cases rx;obtain⟨t',rfl⟩:=ry;cases e;exact⟨.bool_str _ _ _,.bool_str _ _ _,.bool_str _ _ _⟩
  .cases hx.int_inv;cases hy.mW;obtain⟨t,rfl⟩:=rx;cases ry;cases e;exact⟨.int_none _ _,.int_none _ _,.int_none _ _⟩
  .cases hx.int_inv;cases hy.str_inv;obtain⟨t,rfl⟩:=rx;obtain⟨t',rfl⟩:=ry;cases e;exact⟨.int_str _ _ _ _,.int_str _ _ _ _,.int_str _ _ _ _⟩
  .cases hx.str_inv;cases hy.mW;obtain⟨t,rfl⟩:=rx;cases ry;cases e;exact⟨.str_none _ _,.str_none _ _,.str_none _ _⟩
  .cases hx.str_inv;cases hy.mX;obtain⟨t,rfl⟩:=rx;cases ry;cases e;exact⟨.str_bool _ _ _,.str_bool _ _ _,.str_bool _ _ _⟩
  .cases hx.str_inv;cases hy.int_inv;obtain⟨t,rfl⟩:=rx;obtain⟨t',rfl⟩:=ry;cases e;exact⟨.str_int _ _ _ _,.str_int _ _ _ _,.str_int _ _ _ _⟩
  .rename_i da db;obtain⟨a1,xs,rfl,h1,h2⟩:=hx.m7;obtain⟨a2,ys,rfl,g1,g2⟩:=hy.m7;cases rx;cases ry;obtain⟨us,r1,p1,_⟩:=I.tuple h1;obtain⟨ws,r2,p2,_⟩:=I.tuple g1;cases p:sQ (xA M n) da db with
   | none=>rw[p]at e;cases e
   | some b1=>
    have e0:=e;rw[p]at e;have e':(b1&&da.length==db.length)=b:=dD e;obtain⟨f,hf,ha⟩:=Cg (A:=A.in1) (s:=s) p h2 g2 r1 r2 λx y b vx vy u w q1 q2 q3 q4 q5=>(FO I hm n A.in1 x y b vx vy u w hui q1 q2 q3 q4 q5).2.1;have hb:((List.range (min us.toArray.size ws.toArray.size)).all f&&us.toArray.size==ws.toArray.size)=b:=by rw[dF,dF,ha,<-e',<-r1.length,<-r2.length,h2.length,g2.length]
    have hf':∀j (l1:j<us.toArray.size) (l2:j<ws.toArray.size),SeqAt.EqAt A.in1 s us.toArray[j] ws.toArray[j] (f j):=λj l1 l2=>by simpa using hf j (by simpa using l1) (by simpa using l2)
    have c1:SeqAt.RcAt A s (.ref a1) (.ref a2) b:=by rw[<-hb];exact .tuples p1 p2 hu1 hf'
    have c3:SeqAt.RcNeAt A s (.ref a1) (.ref a2) (!b):=by have:=SeqAt.RcNeAt.tuples p1 p2 hu1 hf';rw[hb]at this;exact this
    refine⟨c1,?_,c3⟩;by_cases ea:a1=a2
    .subst ea;have:b=pc:=zU I hm (n+1) (.tup da) (.tup db) (.ref a1) b hx hy (by unfold xA;exact e0);rw[this];exact .same _
    .exact .of_refs ea c1
  .cases hx.mT;cases hy.mT;cases rx;cases ry;rename_i a1 a2;have e0:=e;cases p:oN M a1 with
   | none=>rw[p]at e;cases e
   | some i=>
    cases p':oN M a2 with
    | none=>rw[p,p']at e;cases e
    | some j=>
     rw[p,p']at e;have e:(if i.length=j.length then sQ (xA M n) i j else Fa lf)=Fa b:=e;obtain⟨xs,q1,h2,_⟩:=qG hm p;obtain⟨ys,q2,g2,_⟩:=qG hm p';obtain⟨us,r1,p1,_⟩:=I.list q1;obtain⟨ws,r2,p2,_⟩:=I.list q2;have XX:SeqAt.RcAt A s (.ref a1) (.ref a2) b/\SeqAt.RcNeAt A s (.ref a1) (.ref a2) (!b):=by
      by_cases hl:i.length=j.length
      .rw[dw hl]at e;obtain⟨f,hf,ha⟩:=Cg (A:=A.in1) (s:=s) e h2 g2 r1 r2 λx y b vx vy u w q1 q2 q3 q4 q5=>(FO I hm n A.in1 x y b vx vy u w hui q1 q2 q3 q4 q5).2.1;have hsz:us.toArray.size=ws.toArray.size:=by rw[dF,dF,<-r1.length,<-r2.length,<-h2.length,<-g2.length];exact hl
       have hf':∀j (l1:j<us.toArray.size) (l2:j<ws.toArray.size),SeqAt.EqAt A.in1 s us.toArray[j] ws.toArray[j] (f j):=λj l1 l2=>by simpa using hf j (by simpa using l1) (by simpa using l2)
       have hb:(List.range us.toArray.size).all f=b:=by rw[<-ha];rw[dF,dF]at hsz;rw[dF,<-hsz,Nat.min_self]
       rw[<-hb];exact⟨.lists p1.isList p2.isList hsz hu1 hf',.lists p1.isList p2.isList hsz hu1 hf'⟩
      .rw[dh hl]at e;cases e;have hsz:(us.toArray.size != ws.toArray.size)=pc:=by
        rw[dF,dF,<-r1.length,<-r2.length,<-h2.length,<-g2.length]
        simpa using hl
       exact⟨.lists_lengths p1.isList p2.isList hsz hu1,.lists_lengths p1.isList p2.isList hsz hu1⟩
     refine⟨XX.1,?_,XX.2⟩;by_cases ea:a1=a2
     .subst ea;have:b=pc:=zU I hm (n+1) (.ref a1) (.ref a1) (.ref a1) b .ref .ref (by unfold xA;exact e0);rw[this];exact .same _
     .exact .of_refs ea XX.1
  .cases e
noncomputable def vi:D->Bool
 | .mY=>pc
 | .bl _=>pc
 | .int _=>pc
 | .str _=>pc
 | _=>lf
noncomputable def Q1:D->D->Bool
 | .mY,.mY=>pc
 | .bl a,.bl b=>a==b
 | .bl a,.int b=>(if a then 1 else 0)==b
 | .int a,.bl b=>a==(if b then 1 else 0)
 | .int a,.int b=>a==b
 | .str a,.str b=>a==b
 | _,_=>lf
noncomputable def inD(x:D)(ds:T0 D):Bool:=ds.any λy=>Q1 y x
noncomputable def Oq(M:Mp):D->Option (T0 D)
 | .tup ds=>Fa ds
 | .ref a=>oN M a
 | .rl ds=>Fa ds
 | _=>Db
noncomputable def Dt(i j:Str):Bool:=!(Builtin.Str.occurrences j i 0 j.length 1).isEmpty
def S9(Zp:Bool)(x y:D)(M:Mp)(Q:DK):Prop:=match x,y with
 | .str i,.str j=>Q (.bl (if Zp then !Dt i j else Dt i j)) M
 | _,_=>(Oq M y).elim False λds=>vi x=pc/\ds.all vi=pc/\Q (.bl (if Zp then !inD x ds else inD x ds)) M
def QK(op:CmpOp)(x y:D)(M:Mp)(Q:DK):Prop:=match op with
 | .Eq=>(xA M 9 x y).elim False λb=>Q (.bl b) M
 | .NotEq=>(xA M 9 x y).elim False λb=>Q (.bl (!b)) M
 | .Lt=>match x,y with|.int i,.int j=>Q (.bl (decide (i<j))) M|_,_=>False
 | .LtE=>match x,y with|.int i,.int j=>Q (.bl (decide (i<=j))) M|_,_=>False
 | .Gt=>match x,y with|.int i,.int j=>Q (.bl (decide (j<i))) M|_,_=>False
 | .GtE=>match x,y with|.int i,.int j=>Q (.bl (decide (j<=i))) M|_,_=>False
 | .Is=>match y with|.mY=>Q (.bl (match x with|.mY=>pc|_=>lf)) M|_=>False
 | .IsNot=>match y with|.mY=>Q (.bl (match x with|.mY=>lf|_=>pc)) M|_=>False
 | .In=>S9 lf x y M Q
 | .NotIn=>S9 pc x y M Q
def k3(op:CmpOp)(ta tb:T3):T3:=λU M Q=>ta U M λx M1=>tb U M1 λy M2=>QK op x y M2 Q
def zF(h:rZ K H d v)(f:vi d=pc):yL v=pc:=by
 cases d with
 | mY=>rw[h.mW];rfl
 | bl _=>rw[h.mX];rfl
 | int _=>rw[h.int_inv];rfl
 | str _=>rw[h.str_inv];rfl
 | _=>cases f
def Jb(h:rZ K H d v)(g:rZ K H e w)(f:vi d=pc)(f':vi e=pc):OB v w=Q1 d e:=by
 cases d with
 | mY=>
  rw[h.mW];cases e with
  | mY=>rw[g.mW];rfl
  | bl _=>rw[g.mX];rfl
  | int _=>rw[g.int_inv];rfl
  | str _=>rw[g.str_inv];rfl
  | _=>cases f'
 | bl _=>
  rw[h.mX];cases e with
  | mY=>rw[g.mW];rfl
  | bl _=>rw[g.mX];rfl
  | int _=>rw[g.int_inv];rfl
  | str _=>rw[g.str_inv];rfl
  | _=>cases f'
 | int _=>
  rw[h.int_inv];cases e with
  | mY=>rw[g.mW];rfl
  | bl _=>rw[g.mX];rfl
  | int _=>rw[g.int_inv];rfl
  | str _=>rw[g.str_inv];rfl
  | _=>cases f'
 | str _=>
  rw[h.str_inv];cases e with
  | mY=>rw[g.mW];rfl
  | bl _=>rw[g.mX];rfl
  | int _=>rw[g.int_inv];rfl
  | str _=>rw[g.str_inv];rfl
  | _=>cases f'
 | _=>cases f
theorem F1:∀{ds:T0 D} {xs:T0 V},qA K H ds xs->ds.all vi=pc->xs.all yL=pc
 | [],_,h,_=>by rw[h.nil_inv];rfl
 | d::ds,_,h,f=>by obtain⟨x,r,rfl,h1,h2⟩:=h.inv;rw[eL,d9]at f ⊢;exact⟨zF h1 f.1,F1 h2 f.2⟩
theorem Ng(g:rZ K H e w)(f':vi e=pc):∀{ds:T0 D} {xs:T0 V},qA K H ds xs->ds.all vi=pc->inV w xs=inD e ds
 | [],_,h,_=>by rw[h.nil_inv];rfl
 | d::ds,_,h,f=>by obtain⟨x,r,rfl,h1,h2⟩:=h.inv;rw[eL,d9]at f;show(OB x w||inV w r)=(Q1 d e||inD e ds);rw[Jb h1 g f.1 f',Ng g f' h2 f.2]
def Fl(hm:HM K H M){y:D}{v:V}{ds:T0 D}(h:rZ K H y v)(q:Oq M y=Fa ds):∃p xs,v=.ref p/\(zj K H p xs\/vn K H p xs)/\qA K H ds xs:=by
 cases y with
 | tup es=>cases q;obtain⟨a,xs,rfl,h1,h2⟩:=h.m7;exact⟨a,xs,Z',.inr h1,h2⟩
 | ref a=>cases h.mT;obtain⟨xs,h1,h2,_⟩:=qG hm q;exact⟨a,xs,Z',.inl h1,h2⟩
 | rl es=>cases q;obtain⟨a,xs,rfl,h1,h2⟩:=h.nz;exact⟨a,xs,Z',.inl h1.sq,h2⟩
 | _=>cases q
variable {c:Go}{tc:T3}
section
def Lb(op:CmpOp)(hu:X.A.units+9<X'):xI X (Op op) (R3 X.K (QK op)):=by
 intro XQ s Y H vx vy v u Q' I rx ry h;obtain⟨x,y,M,Q,hx,hy,hm,q,k⟩:=h;have bk:∀b,Q (.bl b) M->EP X XQ Y Q' (.bool b) s:=λb q=>⟨.bl b,H,I,Z',k _ _ _ _ .bl hm .refl q⟩;have inn:∀Zp:Bool,((Oq M y).elim False λds=>vi x=pc/\ds.all vi=pc/\Q (.bl (if Zp then !inD x ds else inD x ds)) M)->Ww X.K Zp vx vy H Q':=λZp q=>by obtain⟨ds,e,f1,f2,q⟩:=qZ q;obtain⟨p,xs,rfl,h1,h2⟩:=Fl hm hy e;refine⟨p,xs,Z',h1,zF hx f1,F1 h2 f2,?_⟩;rw[Ng hx f1 h2 f2];exact k _ _ _ _ .bl hm .refl q
 cases op with
 | Eq=>obtain⟨b,e,q⟩:=qZ q;exact(FO I hm 9 X.A x y b vx vy v u hu e hx hy rx ry).1 _ _ _ _ (bk b q)
 | NotEq=>obtain⟨b,e,q⟩:=qZ q;exact(FO I hm 9 X.A x y b vx vy v u hu e hx hy rx ry).2.2 _ _ _ _ (bk _ q)
 | Lt=>
  cases x<;>first|exact q.elim|skip
  cases y<;>first|exact q.elim|skip
  cases hx.int_inv;cases hy.int_inv;exact UD XQ s Y H _ _ v u Q' I rx ry ⟨_,_,Z',Z',k _ _ _ _ .bl hm .refl q⟩
 | LtE=>
  cases x<;>first|exact q.elim|skip
  cases y<;>first|exact q.elim|skip
  cases hx.int_inv;cases hy.int_inv;exact Vx XQ s Y H _ _ v u Q' I rx ry ⟨_,_,Z',Z',k _ _ _ _ .bl hm .refl q⟩
 | Gt=>
  cases x<;>first|exact q.elim|skip
  cases y<;>first|exact q.elim|skip
  cases hx.int_inv;cases hy.int_inv;exact U4 XQ s Y H _ _ v u Q' I rx ry ⟨_,_,Z',Z',k _ _ _ _ .bl hm .refl q⟩
 | GtE=>
  cases x<;>first|exact q.elim|skip
  cases y<;>first|exact q.elim|skip
  cases hx.int_inv;cases hy.int_inv;exact UR XQ s Y H _ _ v u Q' I rx ry ⟨_,_,Z',Z',k _ _ _ _ .bl hm .refl q⟩
 | Is=>
  cases y<;>first|exact q.elim|skip
  cases hy.mW;refine Ue XQ s Y H _ _ v u Q' I rx ry ⟨Z',k _ _ _ _ ?_ hm .refl q⟩;cases x with
  | mY=>rw[hx.mW];exact .bl
  | bl _=>rw[hx.mX];exact .bl
  | int _=>rw[hx.int_inv];exact .bl
  | str _=>rw[hx.str_inv];exact .bl
  | tup _=>obtain⟨a,xs,rfl,_⟩:=hx.m7;exact .bl
  | ref _=>rw[hx.mT];exact .bl
  | ty _=>rw[hx.nW];exact .bl
  | rl _=>obtain⟨a,xs,rfl,_⟩:=hx.nz;exact .bl
 | IsNot=>
  cases y<;>first|exact q.elim|skip
  cases hy.mW;refine OK XQ s Y H _ _ v u Q' I rx ry ⟨Z',k _ _ _ _ ?_ hm .refl q⟩;cases x with
  | mY=>rw[hx.mW];exact .bl
  | bl _=>rw[hx.mX];exact .bl
  | int _=>rw[hx.int_inv];exact .bl
  | str _=>rw[hx.str_inv];exact .bl
  | tup _=>obtain⟨a,xs,rfl,_⟩:=hx.m7;exact .bl
  | ref _=>rw[hx.mT];exact .bl
  | ty _=>rw[hx.nW];exact .bl
  | rl _=>obtain⟨a,xs,rfl,_⟩:=hx.nz;exact .bl
 | In=>
  have q:S9 lf x y M Q:=q;unfold S9 at q;split at q
  .cases hx.str_inv;cases hy.str_inv;exact Ki XQ s Y H _ _ v u Q' I rx ry ⟨_,_,Z',Z',k _ _ _ _ .bl hm .refl q⟩
  .exact Ku XQ s Y H _ _ v u Q' I rx ry (inn lf q)
 | NotIn=>
  have q:S9 pc x y M Q:=q;unfold S9 at q;split at q
  .cases hx.str_inv;cases hy.str_inv;exact EM XQ s Y H _ _ v u Q' I rx ry ⟨_,_,Z',Z',k _ _ _ _ .bl hm .refl q⟩
  .exact Gc XQ s Y H _ _ v u Q' I rx ry (inn pc q)
variable {a b:Go}
def ql{op:CmpOp}(hu:X.A.units+9<X')(ha:E3 X a ta)(hb:E3 X b tb)(hm:wT op b=lf:=by first|exact HF _|with_unfolding_all rfl):E3 X (.Compare a [op] [b] pos) (k3 op ta tb):=PE.mono (JF (Lb op hu) ha hb hm) Gz
def b3(t:T3):AY:=λU M Q=>t U M λd M1=>match d with|.bl c=>Q c M1|_=>False
def sR(h:E3 X e t)(he:∀Yq,isTrue e X.env Yq=(do let v<-Yq;XXa e.pos;ZB [v] (truthy v)):=by intro _;rfl):B3 X e (b3 t):=PT.mono (Tc h he) λY H Q' zz=>x7 zz λU M Q hs hm ht k=>
 ⟨U,M,_,hs,hm,ht,λv H1 d M1 hd XT e1 q1=>by
  cases d with
  | bl c=>exact⟨c,hd.mX,k c H1 M1 XT e1 q1⟩
  | _=>exact q1.elim⟩
def pN{op:CmpOp}(hu:X.A.units+9<X')(ha:E3 X a ta)(hb:E3 X b tb)(hm:wT op b=lf:=by first|exact HF _|with_unfolding_all rfl):B3 X (.Compare a [op] [b] pos) (b3 (k3 op ta tb)):=PT.mono (Jt (Lb op hu) ha hb hm) λY H Q' zz=>x7 zz λU M Q hs hm ht k=>
 Gz Y H _ ⟨U,M,_,hs,hm,ht,λv H1 d M1 hd XT e1 q1=>by
  cases d with
  | bl c=>exact⟨c,hd.mX,k c H1 M1 XT e1 q1⟩
  | _=>exact q1.elim⟩
end
variable {tA tB:AY}{rest:T0 Go}
section
variable {a b:Go}
def Pp(t u:AY):AY:=λU M Q=>t U M λc M1=>if c=pc then u U M1 Q else Q lf M1
def Xw(t u:AY):AY:=λU M Q=>t U M λc M1=>if c=pc then Q pc M1 else u U M1 Q
def Ur(t:AY):AY:=λU M Q=>t U M λc M1=>Q (!c) M1
def W3(X:Cx)(e:Go)(t:AY):Prop:=PW X e (Ul X.K t)
def PW.mono{t t':TT}(h:PW X e t)(m:∀Y H Q,t' Y H Q->t Y H Q):PW X e t':=λwh XQ s Y H Q I q=>h wh XQ s Y H Q I (m Y H Q q)
def W3.b3(h:W3 X e t):B3 X e t:=PW.pt h
def sL(h:B3 X a tA):W3 X (.BoolOp .And [a] pos) tA:=Qa h
def tH(h:B3 X a tA):W3 X (.BoolOp .Or [a] pos) tA:=R0 h
def tq(ha:B3 X a tA)(hb:W3 X (.BoolOp .And (b::rest) pos) tB):W3 X (.BoolOp .And (a::b::rest) pos) (Pp tA tB):=PW.mono (RT ha hb) λY H Q' zz=>x7 zz λU M Q hs hm ht k=>
 ⟨U,M,_,hs,hm,ht,λc H1 M1 XT e1 q1=>by
  cases c with
  | true=>exact(dw Z').mpr ⟨U,M1,Q,hs.mono e1,XT,(dw Z').mp q1,λb H' M' x1 x2 x3=>k b H' M' x1 (e1.trans x2) x3⟩
  | false=>exact(dh dH).mpr (k lf H1 M1 XT e1 ((dh dH).mp q1))⟩
def ut(ha:B3 X a tA)(hb:W3 X (.BoolOp .Or (b::rest) pos) tB):W3 X (.BoolOp .Or (a::b::rest) pos) (Xw tA tB):=PW.mono (Uz ha hb) λY H Q' zz=>x7 zz λU M Q hs hm ht k=>
 ⟨U,M,_,hs,hm,ht,λc H1 M1 XT e1 q1=>by
  cases c with
  | true=>exact(dw Z').mpr (k pc H1 M1 XT e1 ((dw Z').mp q1))
  | false=>exact(dh dH).mpr ⟨U,M1,Q,hs.mono e1,XT,(dh dH).mp q1,λb H' M' x1 x2 x3=>k b H' M' x1 (e1.trans x2) x3⟩⟩
def tj(ha:B3 X a tA):B3 X (.UnaryOp .Not a pos) (Ur tA):=PT.mono (S' ha) λY H Q' zz=>x7 zz λU M Q hs hm ht k=>⟨U,M,_,hs,hm,ht,λc H1 M1 XT e1 q1=>k _ H1 M1 XT e1 q1⟩
def Vm(ta tb:T3):T3:=λU M Q=>ta U M λd M1=>match d with|.bl c=>if c=pc then tb U M1 Q else Q (.bl lf) M1|_=>False
def WS(ta tb:T3):T3:=λU M Q=>ta U M λd M1=>match d with|.bl c=>if c=pc then Q (.bl pc) M1 else tb U M1 Q|_=>False
def UP(ta:T3):T3:=λU M Q=>ta U M λd M1=>match d with|.bl c=>Q (.bl (!c)) M1|_=>False
def rN{op}(h:E3 X a ta):E3 X (.BoolOp op [a] pos) ta:=T1 h
def sv(ha:E3 X a ta)(hb:E3 X (.BoolOp .And (b::rest) pos) tb):E3 X (.BoolOp .And (a::b::rest) pos) (Vm ta tb):=PE.mono (SY ha hb) λY H Q' zz=>x7 zz λU M Q hs hm ht k=>
 ⟨U,M,_,hs,hm,ht,λv H1 d M1 hd XT e1 q1=>by
  cases d with
  | bl c=>
   refine⟨c,hd.mX,?_⟩;cases c with
   | true=>exact(dw Z').mpr ⟨U,M1,Q,hs.mono e1,XT,(dw Z').mp q1,vT e1 k⟩
   | false=>exact(dh dH).mpr (k _ H1 _ M1 .bl XT e1 ((dh dH).mp q1))
  | _=>exact q1.elim⟩
def Er(ha:E3 X a ta)(hb:E3 X (.BoolOp .Or (b::rest) pos) tb):E3 X (.BoolOp .Or (a::b::rest) pos) (WS ta tb):=PE.mono (U7 ha hb) λY H Q' zz=>x7 zz λU M Q hs hm ht k=>
 ⟨U,M,_,hs,hm,ht,λv H1 d M1 hd XT e1 q1=>by
  cases d with
  | bl c=>
   refine⟨c,hd.mX,?_⟩;cases c with
   | true=>exact(dw Z').mpr (k _ H1 _ M1 .bl XT e1 ((dw Z').mp q1))
   | false=>exact(dh dH).mpr ⟨U,M1,Q,hs.mono e1,XT,(dh dH).mp q1,vT e1 k⟩
  | _=>exact q1.elim⟩
def Ug(ha:E3 X a ta):E3 X (.UnaryOp .Not a pos) (UP ta):=PE.mono (TJ ha) λY H Q' zz=>x7 zz λU M Q hs hm ht k=>
 ⟨U,M,_,hs,hm,ht,λv H1 d M1 hd XT e1 q1=>by
  cases d with
  | bl c=>exact⟨c,hd.mX,k _ H1 _ M1 .bl XT e1 q1⟩
  | _=>exact q1.elim⟩
def XE(t:AY)(ta tb:T3):T3:=λU M Q=>t U M λc M1=>if c=pc then ta U M1 Q else tb U M1 Q
def Ro(hc:B3 X c tA)(ha:E3 X a ta)(hb:E3 X b tb):E3 X (.IfExp c a b pos) (XE tA ta tb):=PE.mono (Ls hc ha hb) λY H Q' zz=>x7 zz λU M Q hs hm ht k=>
 ⟨U,M,_,hs,hm,ht,λc H1 M1 XT e1 q1=>by
  cases c with
  | true=>exact(dw Z').mpr ⟨U,M1,Q,hs.mono e1,XT,(dw Z').mp q1,vT e1 k⟩
  | false=>exact(dh dH).mpr ⟨U,M1,Q,hs.mono e1,XT,(dh dH).mp q1,vT e1 k⟩⟩
def Xb(x y:D)(M:Mp)(Q:DK):Prop:=match x,y with
 | .tup ds,.int i=>(wO ds i).elim False λd=>Q d M
 | .ref a,.int i=>(oN M a).elim False λds=>(wO ds i).elim False λd=>Q d M
 | .rl ds,.int i=>(wO ds i).elim False λd=>Q d M
 | .str z,.int i=>z.length<=Ch/\(wO z.cps.toList i).elim False λc=>Q (.str ⟨#[c]⟩) M
 | _,_=>False
def i3(ta tb:T3):T3:=λU M Q=>ta U M λx M1=>tb U M1 λy M2=>Xb x y M2 Q
def Fi{K:qC}{d:D}(h:qA K H ds xs)(e:wO ds i=Fa d):∃v,wO xs i=Fa v/\rZ K H d v:=by
 unfold wO at e ⊢;rw[<-h.length];cases q:GT ds.length i with
 | none=>rw[q]at e;cases e
 | some j=>rw[q]at e;exact h.get e
def Xy:Ui X (R3 X.K Xb):=by
 intro value X4 XQ s Y H vx vy v u Q' I rx ry h hs;obtain⟨x,y,M,Q,hx,hy,hm,q,k⟩:=h;unfold Xb at q;split at q
 .obtain⟨d,e,q⟩:=qZ q;obtain⟨p,xs,rfl,h1,h2⟩:=hx.m7;cases hy.int_inv;obtain⟨w,e1,e2⟩:=Fi h2 e;exact Sw value X4 XQ s Y H _ _ v u Q' I rx ry ⟨p,xs,_,w,Z',Z',h1,e1,k _ _ _ _ e2 hm .refl q⟩ hs
 .obtain⟨ds,e0,q⟩:=qZ q;obtain⟨d,e,q⟩:=qZ q;cases hx.mT;cases hy.int_inv;obtain⟨xs,h1,h2,_⟩:=qG hm e0;obtain⟨w,e1,e2⟩:=Fi h2 e;exact I9 value X4 XQ s Y H _ _ v u Q' I rx ry ⟨_,xs,_,w,Z',Z',h1,e1,k _ _ _ _ e2 hm .refl q⟩ hs
 .obtain⟨d,e,q⟩:=qZ q;obtain⟨p,xs,rfl,h1,h2⟩:=hx.nz;cases hy.int_inv;obtain⟨w,e1,e2⟩:=Fi h2 e;exact I9 value X4 XQ s Y H _ _ v u Q' I rx ry ⟨p,xs,_,w,Z',Z',h1.sq,e1,k _ _ _ _ e2 hm .refl q⟩ hs
 .obtain⟨q1,q⟩:=q;obtain⟨c,e,q⟩:=qZ q;cases hx.str_inv;cases hy.int_inv;exact SE value X4 XQ s Y H _ _ v u Q' I rx ry ⟨_,_,c,Z',Z',q1,e,k _ _ _ _ .str hm .refl q⟩ hs
 .exact q.elim
def pS(ha:E3 X a ta)(hb:E3 X b tb)(hs:BM b:=by exact λ_ _=>rfl):E3 X (.Subscript a b pos) (i3 ta tb):=PE.mono (LA Xy ha hb hs) Gz
noncomputable def uu(ds:T0 D)(lo hi:Option Int):T0 D:=(ds.drop (HT.tQ ds.length 0 lo)).take (HT.tQ ds.length ds.length hi - HT.tQ ds.length 0 lo)
def EV{K:qC}(q:qA K H ds xs):qA K H (uu ds l h) (CQ xs l h):=by unfold uu CQ;rw[q.length];exact(q.drop _).take _
abbrev Uo:=vq->Mp->(Option Int->Mp->Prop)->Prop
def XM(K:qC)(t:Uo):TO:=λY H Q'=>Di λU M Q=>yU K H Y U/\HM K H M/\t U M Q/\∀o H' M',HM K H' M'->qY K H H'->Q o M'->Q' o H'
def O3(X:Cx)(e:Option Go)(t:Uo):Prop:=PO X e (XM X.K t)
def OT:Uo:=λ_ M Q=>Q Db M
def VB(t:T3):Uo:=λU M Q=>t U M λd M1=>match d with|.int i=>Q (Fa i) M1|_=>False
def PO.mono{t t':TO}(h:PO X e t)(m:∀Y H Q,t' Y H Q->t Y H Q):PO X e t':=λXQ s Y H Q I q=>h XQ s Y H Q I (m Y H Q q)
def tL:O3 X Db OT:=PO.mono QA λY H Q' zz=>x7 zz λU M Q hs hm ht k=>k Db H M hm .refl ht
def sT(h:E3 X e t):O3 X (Fa e) (VB t):=PO.mono (O5 h) λY H Q' zz=>x7 zz λU M Q hs hm ht k=>
 ⟨U,M,_,hs,hm,ht,λv H1 d M1 hd XT e1 q1=>by
  cases d with
  | int i=>exact⟨i,hd.int_inv,k (Fa i) H1 M1 XT e1 q1⟩
  | _=>exact q1.elim⟩
def Xp(x:D)(lo hi:Option Int)(M:Mp)(Q:DK):Prop:=match x with
 | .tup ds=>Q (.tup (uu ds lo hi)) M
 | .ref a=>(oN M a).elim False λds=>∀p,M p=Db->Q (.ref p) (pQ M p (.lst (uu ds lo hi)))
 | .rl ds=>∀p,M p=Db->Q (.ref p) (pQ M p (.lst (uu ds lo hi)))
 | _=>False
def s3(te:T3)(tl th:Uo):T3:=λU M Q=>te U M λx M1=>tl U M1 λl M2=>th U M2 λu M3=>Xp x l u M3 Q
def Wz(K:qC):V->Option Int->Option Int->Hp->VK->Prop:=λvx l u H Q'=>Di λx M Q=>rZ K H x vx/\HM K H M/\Xp x l u M Q/\Up K H Q' Q
def OS{ds:T0 D}{lo hi:Option Int}(h:HT.tQ ds.length 0 lo=0/\HT.tQ ds.length ds.length hi=ds.length):uu ds lo hi=ds:=by unfold uu;rw[h.1,h.2,jx,lB,fA]
def WV:Va X (Wz X.K):=by
 intro XQ s Y H vx v vl vu l u sl Q' I rx ZM pl pu h;obtain⟨x,M,Q,hx,hm,q,k⟩:=h;cases x with
 | tup ds=>
  have q2:Q (.tup (uu ds l u)) M:=q;obtain⟨a,xs,rfl,h1,h2⟩:=hx.m7;by_cases q1:HT.tQ ds.length 0 l=0/\HT.tQ ds.length ds.length u=ds.length
  .rw[OS q1]at q2;exact TN XQ s Y H _ v vl vu l u sl Q' I rx ZM pl pu ⟨a,xs,Z',h1,by rw[<-h2.length];exact q1,k _ _ _ _ hx hm .refl q2⟩
  refine TM XQ s Y H _ v vl vu l u sl Q' I rx ZM pl pu ⟨a,xs,Z',h1,by rw[<-h2.length];exact q1,λp hp=>?_⟩;have e:qY X.K H (upd H p (.tup (CQ xs l u))):=.new hp;exact k _ _ _ _ (.tup (.of qw) ((EV h2).mono e)) (hm.add hp) e q2
 | ref a=>obtain⟨ds,e0,q⟩:=qZ q;cases hx.mT;obtain⟨xs,h1,h2,_⟩:=qG hm e0;refine JP XQ s Y H _ v vl vu l u sl Q' I rx ZM pl pu ⟨a,xs,Z',h1,λp hp=>?_⟩;have e:qY X.K H (upd H p (.lst (CQ xs l u))):=.new hp;exact k _ _ _ _ .ref (hm.new (c:=.lst (uu ds l u)) hp ⟨_,qw,(EV h2).mono e⟩) e (q p (hm.fresh hp))
 | rl ds=>obtain⟨a,xs,rfl,h1,h2⟩:=hx.nz;refine JP XQ s Y H _ v vl vu l u sl Q' I rx ZM pl pu ⟨a,xs,Z',h1.sq,λp hp=>?_⟩;have e:qY X.K H (upd H p (.lst (CQ xs l u))):=.new hp;exact k _ _ _ _ .ref (hm.new (c:=.lst (uu ds l u)) hp ⟨_,qw,(EV h2).mono e⟩) e (q p (hm.fresh hp))
 | _=>exact q.elim
def sy{lo hi:Option Go}{p2:Pos}(he:E3 X e te)(hl:O3 X lo tl)(hu:O3 X hi th):E3 X (.Subscript e (.Slice lo hi Db p2) pos) (s3 te tl th):=PE.mono (MP WV he hl hu) λY H Q' zz=>x7 zz λU M Q hs hm ht k=>⟨U,M,_,hs,hm,ht,λv H1 x M1 hx XT e1 q1=>⟨U,M1,_,hs.mono e1,XT,q1,λl H2 M2 Ya e2 q2=>⟨U,M2,_,hs.mono (e1.trans e2),Ya,q2,λu H3 M3 YL e3 q3=>⟨x,M3,Q,hx.mono (e2.trans e3),YL,q3,vT (e1.trans (e2.trans e3)) k⟩⟩⟩⟩
def xH:ya:=λ_ M Q=>Q [] M
def vB(ta:T3)(tr:ya):ya:=λU M Q=>ta U M λx M1=>tr U M1 λxs M2=>Q (x::xs) M2
def tI:A3 X [] xH:=PA.mono Ua λY H Q' zz=>x7 zz λU M Q hs hm ht k=>k [] H [] M .nil hm .refl ht
def qg(ha:E3 X e te)(hr:A3 X es t)(hs:BF X e es:=by rfl):A3 X (e::es) (vB te t):=PA.mono (Qq ha hr hs) λY H Q' zz=>x7 zz λU M Q hs hm ht k=>⟨U,M,_,hs,hm,ht,λv H1 x M1 hx XT e1 q1=>⟨U,M1,_,hs.mono e1,XT,q1,λvs H2 xs M2 hxs Ya e2 q2=>k _ H2 _ M2 (.cons (hx.mono e2) hxs) Ya (e1.trans e2) q2⟩⟩
def W0(t:ya):T3:=λU M Q=>t U M λds M1=>ds.length<=Ch/\Q (.tup ds) M1
def VQ(t:ya):T3:=λU M Q=>t U M λds M1=>ds.length<=Ch/\∀p,M1 p=Db->Q (.ref p) (pQ M1 p (.lst ds))
def pW{x1}(h:A3 X es t):E3 X (.Tuple es x1 pos) (W0 t):=PE.mono (RZ h) λY H Q' zz=>x7 zz λU M Q hs hm ht k=>
 ⟨U,M,_,hs,hm,ht,λvs H1 ds M1 Y2 XT e1 q1=>⟨by rw[<-Y2.length];exact q1.1,λp hp=>by
  have e:qY X.K H1 (upd H1 p (.tup vs)):=.new hp;exact k _ _ _ M1 (.tup (.of qw) (Y2.mono e)) (XT.add hp) (e1.trans e) q1.2⟩⟩
def qW(h:A3 X es t):E3 X (.List es pos) (VQ t):=PE.mono (S0 h) λY H Q' zz=>x7 zz λU M Q hs hm ht k=>
 ⟨U,M,_,hs,hm,ht,λvs H1 ds M1 Y2 XT e1 q1=>⟨by rw[<-Y2.length];exact q1.1,λp hp=>by
  have e:qY X.K H1 (upd H1 p (.lst vs)):=.new hp;exact k _ _ _ _ .ref (XT.new (c:=.lst ds) hp ⟨_,qw,Y2.mono e⟩) (e1.trans e) (q1.2 p (XT.fresh hp))⟩⟩
def uR(t u:xT):xT:=λD U M=>t {D with nx:=u D} U M
def Xk:xT:=λD U M=>D.nx U M
def pO:HZ X [] Xk:=Cq.mono QL λD' Y H zz=>Lq zz λU M D hs hm ht k1 k2 k3 k4=>k1 Y H U M hs hm .refl Z' ht
def pF{st:TD}{rest:T0 TD}(h1:S3 X st t)(h2:HZ X rest u):HZ X (st::rest) (uR t u):=Cq.mono (MM h1 h2) λD' Y H zz=>Lq zz λU M D hs hm ht k1 k2 k3 k4=>
 ⟨U,M,{D with nx:=u D},hs,hm,ht,λσ1 H1 δ1 M1 hs1 XT e1 l1 q1=>⟨δ1,M1,D,hs1,XT,q1,λσ' H' δ' M' x1 x2 x3 x4 x5=>k1 σ' H' δ' M' x1 x2 (e1.trans x3) (x4.trans l1) x5,λv H' d M' x1 x2 x3 x4=>k2 v H' d M' x1 x2 (e1.trans x3) x4,λσ' H' δ' M' x1 x2 x3 x4 x5=>k3 σ' H' δ' M' x1 x2 (e1.trans x3) (x4.trans l1) x5,λσ' H' δ' M' x1 x2 x3 x4 x5=>k4 σ' H' δ' M' x1 x2 (e1.trans x3) (x4.trans l1) x5⟩,k2,k3,k4⟩
def pG{st:TD}(h1:S3 X st t):HZ X [st] t:=Cq.mono (EG h1) λD' Y H h=>h
def Vc(te:T3):xT:=λD U M=>te U M λ_ M1=>D.nx U M1
def pY(he:E3 X e te)(Zj:sB e Db pos.line X.env=pure lf:=by rfl):S3 X (.Expr e pos) (Vc te):=PS.mono (Pl he Zj) λD' Y H zz=>Lq zz λU M D hs hm ht k1 k2 k3 k4=>⟨U,M,_,hs,hm,ht,λv H1 d M1 hd XT e1 q1=>k1 Y H1 U M1 (hs.mono e1) XT e1 Z' q1⟩
def T4(te:T3):xT:=λD U M=>te U M D.rt
def pL(he:E3 X e te):S3 X (.Return (Fa e) pos) (T4 te):=PS.mono (R5 he) λD' Y H zz=>Lq zz λU M D hs hm ht k1 k2 k3 k4=>⟨U,M,_,hs,hm,ht,λv H1 d M1 hd XT e1 q1=>k2 v H1 d M1 hd XT e1 q1⟩
def TC(c:AY)(t u:xT):xT:=λD U M=>c U M λb M1=>if b=pc then t D U M1 else u D U M1
def pV{tc:AY}(hc:B3 X c tc)(ha:HZ X as t)(hb:HZ X bs u):S3 X (.If c as bs pos) (TC tc t u):=PS.mono (VI hc ha hb) λD' Y H zz=>Lq zz λU M D hs hm ht k1 k2 k3 k4=>
 ⟨U,M,_,hs,hm,ht,λb H1 M1 XT e1 q1=>by
  have up:∀t:xT,t D U M1->WB X.K t D' Y H1:=λt q=>⟨U,M1,D,hs.mono e1,XT,q,λσ' H' δ' M' x1 x2 x3 x4 x5=>k1 σ' H' δ' M' x1 x2 (e1.trans x3) x4 x5,λv H' d M' x1 x2 x3 x4=>k2 v H' d M' x1 x2 (e1.trans x3) x4,λσ' H' δ' M' x1 x2 x3 x4 x5=>k3 σ' H' δ' M' x1 x2 (e1.trans x3) x4 x5,λσ' H' δ' M' x1 x2 x3 x4 x5=>k4 σ' H' δ' M' x1 x2 (e1.trans x3) x4 x5⟩
  cases b with
  | true=>exact(dw Z').mpr (up t ((dw Z').mp q1))
  | false=>exact(dh dH).mpr (up u ((dh dH).mp q1))⟩
def Ss:xT:=λ_ _ _=>False
def HC{st:TD}:S3 X st Ss:=PS.mono LD λD' Y H ⟨U,M,D,hs,hm,ht,_⟩=>ht
abbrev Dj:=D->vq->Mp->(vq->Mp->Prop)->Prop
def V6(K:qC)(g:Dj):TG:=λv Y H Q'=>Au λd U M Q=>rZ K H d v/\yU K H Y U/\HM K H M/\g d U M Q/\∀σ' H' δ' M',yU K H' σ' δ'->HM K H' M'->qY K H H'->σ'.length=Y.length->Q δ' M'->Q' σ' H'
def G3(X:Cx)(e:Go)(g:Dj):Prop:=PG X e (V6 X.K g)
def PG.og{t t':TG}(h:PG X e t)(m:∀v Y H Q,Y.length=X.N.length->t' v Y H Q->t v Y H Q):PG X e t':=λXQ s Y H v u Q I r q=>h XQ s Y H v u Q I r (m v Y H Q I.len q)
def tU(i:Nat):Dj:=λd U M Q=>Q (U.set i (Fa d)) M
def Jg{i:Nat}{x:Str}(hN:X.N.Nodup)(hi:X.N[i]?=Fa x)(hx:Os X.env.scope x)(hf:NA X x:=by first|exact .inl Z'|exact .inr Z'|assumption):G3 X (.Name x pos) (tU i):=
 PG.og (Rc hN hi hx hf) λv Y H Q' hl ⟨d,U,M,Q,hd,hs,hm,ht,k⟩=>k _ H _ M (hs.set hd (by rw[hl];exact(dv.mp hi).1)) hm .refl (by simp) ht
abbrev Dl:=T0 D->vq->Mp->(vq->Mp->Prop)->Prop
def W4(K:qC)(g:Dl):OX:=λvs Y H Q'=>Au λds U M Q=>qA K H ds vs/\yU K H Y U/\HM K H M/\g ds U M Q/\∀σ' H' δ' M',yU K H' σ' δ'->HM K H' M'->qY K H H'->σ'.length=Y.length->Q δ' M'->Q' σ' H'
def UB(X:Cx)(es:T0 Go)(g:Dl):Prop:=Oy X es (W4 X.K g)
def Oy.mono{t t':OX}(h:Oy X e t)(m:∀v Y H Q,t' v Y H Q->t v Y H Q):Oy X e t':=λXQ s Y H v u Q I r q=>h XQ s Y H v u Q I r (m v Y H Q q)
def PG.mono{t t':TG}(h:PG X e t)(m:∀v Y H Q,t' v Y H Q->t v Y H Q):PG X e t':=λXQ s Y H v u Q I r q=>h XQ s Y H v u Q I r (m v Y H Q q)
def GW:Dl:=λds U M Q=>match ds with|[]=>Q U M|_=>False
def Ax(t:Dj)(u:Dl):Dl:=λds U M Q=>match ds with|d::r=>t d U M λδ' M'=>u r δ' M' Q|[]=>False
def ub:UB X [] GW:=Oy.mono PJ λvs Y H Q' ⟨ds,U,M,Q,hd,hs,hm,ht,k⟩=>by
 cases ds with
 | nil=>exact⟨hd.nil_inv,k Y H U M hs hm .refl Z' ht⟩
 | cons _ _=>exact ht.elim
def qF(h1:G3 X e t)(h2:UB X es u)(hs:(At (e::es) X.env).map (·.2)=assign e X.env::(At es X.env).map (·.2):=by rfl):UB X (e::es) (Ax t u):=
 Oy.mono (Na h1 h2 hs) λvs Y H Q' ⟨ds,U,M,Q,hd,hs,hm,ht,k⟩=>by
 cases ds with
 | nil=>exact ht.elim
 | cons d r=>obtain⟨x,xr,rfl,hx,hr⟩:=hd.inv;exact⟨x,xr,Z',d,U,M,_,hx,hs,hm,ht,λσ1 H1 δ1 M1 hs1 XT e1 l1 q1=>⟨r,δ1,M1,Q,hr.mono e1,hs1,XT,q1,λσ' H' δ' M' x1 x2 x3 x4 x5=>k σ' H' δ' M' x1 x2 (e1.trans x3) (x4.trans l1) x5⟩⟩
def Ry(n:Nat)(t:Dl):Dj:=λd U M Q=>match d with|.tup ds=>ds.length=n/\t ds U M Q|_=>False
def ve{n:Nat}(hc:X.calm=pc)(h:UB X es t)(hn:(At es X.env).length=n:=by rfl)(Ye:(At es X.env).findIdx? (·.1)=Db:=by rfl):G3 X (.Tuple es k pos) (Ry n t):=
 PG.mono (RI hc h hn Ye) λv Y H Q' ⟨d,U,M,Q,hd,hs,hm,ht,k⟩=>by
 cases d with
 | tup ds=>obtain⟨a,xs,rfl,h1,h2⟩:=hd.m7;exact⟨a,xs,Z',h1,by rw[<-h2.length];exact ht.1,ds,U,M,Q,h2,hs,hm,ht.2,k⟩
 | _=>exact ht.elim
def CU(te:T3)(g:Dj):xT:=λD U M=>te U M λx M1=>g x U M1 D.nx
def EU(he:E3 X e te)(hg:G3 X tg g)(hs:swapsWithSole [tg] e pos.line X.env=pure lf:=by rfl)(hw:swappedStores [tg] e X.env=pure Db:=by rfl)
  (h1:(At [tg] X.env).map (·.2)=[assign tg X.env]:=by rfl):S3 X (.Assign [tg] e pos) (CU te g):=PS.mono (TK he hg hs hw h1) λD' Y H zz=>Lq zz λU M D hs hm ht k1 k2 k3 k4=>
 ⟨U,M,_,hs,hm,ht,λv H1 d M1 hd XT e1 q1=>⟨d,U,M1,_,hd,hs.mono e1,XT,q1,λσ' H' δ' M' x1 x2 x3 x4 x5=>k1 σ' H' δ' M' x1 x2 (e1.trans x3) x4 x5⟩⟩
def R9{i:Nat}{x:Str}(hN:X.N.Nodup)(hi:X.N[i]?=Fa x)(hx:Os X.env.scope x)(he:E3 X e te)(Zj:sB e (Fa (.Name x X5)) pos.line X.env=pure lf:=by rfl)
  (hf:NA X x:=by first|exact .inl Z'|exact .inr Z'|assumption):S3 X (.Assign [.Name x X5] e pos) (CU te (tU i)):=PS.og (LQ hN hi hx he Zj hf) λD' Y H hl zz=>Lq zz λU M D hs hm ht k1 k2 k3 k4=>
 ⟨U,M,_,hs,hm,ht,λv H1 d M1 hd XT e1 q1=>k1 _ H1 _ M1 ((hs.mono e1).set hd (by rw[hl];exact(dv.mp hi).1)) XT e1 (by simp) q1⟩
end
abbrev rB:=T0 D->Mp->DK->Prop
def Ox(K:qC)(sp:rB):Sp:=λvs H Q' _=>Di λds M Q=>qA K H ds vs/\HM K H M/\sp ds M Q/\Up K H Q' Q
noncomputable def xg(N:QQQ)(ds:T0 D):vq:=ds.map Fa++List.replicate (N.length - ds.length) Db
def EB{K:qC}(h:qA K H ds vs):yU K H (L2.start N vs) (xg N ds):=λi d q=>by
 unfold xg at q;unfold L2.start;by_cases hi:i<ds.length
 .rw[fm (by simpa using hi),dM]at q;cases e:ds[i]? with
  | none=>rw[e]at q;cases q
  | some d'=>rw[e]at q;cases q;obtain⟨v,e1,e2⟩:=h.get e;refine⟨v,?_,e2⟩;rw[fm (by rw[de,<-h.length];exact hi),dM,e1];rfl
 .rw[fj (by simpa using hi),kc]at q;split at q<;>cases q
variable {P:Pg}{w:Wo}{mg:QQZ}{base:No}
abbrev Uj(P:Pg)(w:Wo)(K:qC)(mg:QQZ)(base:No)(k:Nat)(f:Uf)(fd:Ix)(ps:QQQ)(sp:rB):Prop:=xK P w K mg base OA k f fd ps (Ox K sp)
variable {k:Nat}{f C:Uf}{fd:Ix}{ps:QQQ}{sp:rB}{x m fn:Str}{p XW:Pos}{e o:Go}{es:T0 Go}{t:ya}
def Ec(sp:rB)(t:ya):T3:=λU M Q=>t U M λds M1=>sp ds M1 Q
def Qp(F:Uj X.prog X.w X.K X.mg X.base k f fd ps sp)(hr:sC k X.A)(hg:Gl X x)(hm:X.mg x=Fa (.ref f))(hk:W.keepIn X.K (.ref f)=pc)(hb:vc X.K fd ps [])(ha:A3 X (e::es) t) (Yd:yI x:=by decide) (he:BF X e es:=by rfl) (X9:Dh X pos es:=by rfl):
  E3 X (.Call (.Name x p) (e::es) [] pos) (Ec sp t):=PE.mono (QC F hr hg hm hk hb .nil (G4 (X:=X)) ha Yd he X9) λY H Q' zz=>x7 zz λU M Q hs hm ht k=>
 ⟨U,M,_,hs,hm,ht,λvs H1 ds M1 hd XT e1 q1=>⟨ds,M1,Q,by rw[fk];exact hd,XT,q1,vT e1 k⟩⟩
def C3(X:Cx)(f:Vl)(r:rB):Prop:=yJ X f λvs H Q'=>∃ds M Q,qA X.K H ds vs/\HM X.K H M/\r ds M Q/\Up X.K H Q' Q
def qa{id:String}(hc:C3 X (.builtin id) r)(hg:Gl X x)(hm:X.mg x=Db)(hv:zn x=Fa (.builtin id))(ha:A3 X (e::es) t)(hn:x≠"__name__":=by decide)(Yd:yI x:=by decide)
  (he:BF X e es:=by rfl) (X9:Dh X pos es:=by rfl):E3 X (.Call (.Name x p) (e::es) [] pos) (Ec r t):=
 PE.mono (LP hc hg hm hv ha hn Yd he X9) λY H Q' zz=>x7 zz λU M Q hs hm ht k=>⟨U,M,_,hs,hm,ht,λvs H1 ds M1 hd XT e1 q1=>⟨ds,M1,Q,hd,XT,q1,vT e1 k⟩⟩
def qp{T:String}(hc:C3 X (.type T) r)(hg:Gl X x)(hm:X.mg x=Db)(hv:zn x=Fa (.type T))(ha:A3 X (e::es) t)(hn:x≠"__name__":=by decide)(Yd:yI x:=by decide)
  (he:BF X e es:=by rfl) (X9:Dh X pos es:=by rfl):E3 X (.Call (.Name x p) (e::es) [] pos) (Ec r t):=
 PE.mono (Li hc hg hm hv ha hn Yd he X9) λY H Q' zz=>x7 zz λU M Q hs hm ht k=>⟨U,M,_,hs,hm,ht,λvs H1 ds M1 hd XT e1 q1=>⟨ds,M1,Q,hd,XT,q1,vT e1 k⟩⟩
def VF(ds:T0 D)(M:Mp)(Q:DK):Prop:=match ds with
 | [.str z]=>z.length<=Ch/\Q (.int z.length) M
 | [.tup es]=>Q (.int es.length) M
 | [.ref a]=>(oN M a).elim False λes=>Q (.int es.length) M
 | [.rl es]=>Q (.int es.length) M
 | _=>False
def sN{K:qC}{d:D}(h:qA K H [d] vs):∃v,vs=[v]/\rZ K H d v:=by obtain⟨x,r,rfl,a,b⟩:=h.inv;rw[b.nil_inv];exact⟨x,Z',a⟩
def zK{K:qC}{d e:D}(h:qA K H [d,e] vs):∃v u,vs=[v,u]/\rZ K H d v/\rZ K H e u:=by obtain⟨x,r,rfl,a,b⟩:=h.inv;obtain⟨y,rfl,c⟩:=sN b;exact⟨x,y,Z',a,c⟩
def qD:C3 X (.builtin "len") VF:=by
 intro XQ s Y H vs us Q' I rv h;obtain⟨ds,M,Q,hd,hm,q,k⟩:=h;unfold VF at q;split at q
 .obtain⟨v,rfl,hv⟩:=sN hd;cases hv.str_inv;exact Gd XQ s Y H _ us Q' I rv ⟨_,Z',q.1,k _ _ _ _ .int hm .refl q.2⟩
 .obtain⟨v,rfl,hv⟩:=sN hd;obtain⟨a,xs,rfl,h1,h2⟩:=hv.m7;exact xt XQ s Y H _ us Q' I rv ⟨a,xs,Z',.inr h1,k _ _ _ _ (by rw[<-h2.length];exact .int) hm .refl q⟩
 .obtain⟨v,rfl,hv⟩:=sN hd;obtain⟨es,e0,q⟩:=qZ q;cases hv.mT;obtain⟨xs,h1,h2,_⟩:=qG hm e0;exact xt XQ s Y H _ us Q' I rv ⟨_,xs,Z',.inl h1,k _ _ _ _ (by rw[<-h2.length];exact .int) hm .refl q⟩
 .obtain⟨v,rfl,hv⟩:=sN hd;obtain⟨a,xs,rfl,h1,h2⟩:=hv.nz;exact xt XQ s Y H _ us Q' I rv ⟨a,xs,Z',.inl h1.sq,k _ _ _ _ (by rw[<-h2.length];exact .int) hm .refl q⟩
 .exact q.elim
def UK(ds:T0 D)(M:Mp)(Q:DK):Prop:=match ds with
 | [.int i,.int j]=>Q (.int (if j<i then j else i)) M
 | _=>False
def SM(ds:T0 D)(M:Mp)(Q:DK):Prop:=match ds with
 | [.int i,.int j]=>Q (.int (if j>i then j else i)) M
 | _=>False
def T9(hc:X.calm=pc):C3 X (.builtin "min") UK:=by
 intro XQ s Y H vs us Q' I rv h;obtain⟨ds,M,Q,hd,hm,q,k⟩:=h;unfold UK at q;split at q
 .obtain⟨v,u,rfl,hv,hw⟩:=zK hd;cases hv.int_inv;cases hw.int_inv;exact Ln hc XQ s Y H _ us Q' I rv ⟨_,_,Z',k _ _ _ _ .int hm .refl q⟩
 .exact q.elim
def SD(hc:X.calm=pc):C3 X (.builtin "max") SM:=by
 intro XQ s Y H vs us Q' I rv h;obtain⟨ds,M,Q,hd,hm,q,k⟩:=h;unfold SM at q;split at q
 .obtain⟨v,u,rfl,hv,hw⟩:=zK hd;cases hv.int_inv;cases hw.int_inv;exact Lh hc XQ s Y H _ us Q' I rv ⟨_,_,Z',k _ _ _ _ .int hm .refl q⟩
 .exact q.elim
def NP(ds:T0 D)(M:Mp)(Q:DK):Prop:=match ds with
 | [.tup es]=>Q (.tup es) M
 | [.ref a]=>(oN M a).elim False λes=>Q (.tup es) M
 | [.rl es]=>Q (.tup es) M
 | _=>False
def sO:C3 X (.type "tuple") NP:=by
 intro XQ s Y H vs us Q' I rv h;obtain⟨ds,M,Q,hd,hm,q,k⟩:=h;unfold NP at q;split at q
 .obtain⟨v,rfl,hv⟩:=sN hd;obtain⟨a,xs,rfl,h1,h2⟩:=id hv.m7;exact wq XQ s Y H _ us Q' I rv ⟨a,xs,Z',.inr ⟨h1,k _ _ _ _ hv hm .refl q⟩⟩
 .obtain⟨v,rfl,hv⟩:=sN hd;obtain⟨es,e0,q⟩:=qZ q;cases hv.mT;obtain⟨xs,h1,h2,_⟩:=qG hm e0;refine wq XQ s Y H _ us Q' I rv ⟨_,xs,Z',.inl ⟨h1,λl hl=>?_⟩⟩;have e:qY X.K H (upd H l (.tup xs)):=.new hl;exact k _ _ _ _ (.tup (.of qw) (h2.mono e)) (hm.add hl) e q
 .obtain⟨v,rfl,hv⟩:=sN hd;obtain⟨a,xs,rfl,h1,h2⟩:=hv.nz;refine wq XQ s Y H _ us Q' I rv ⟨_,xs,Z',.inl ⟨h1.sq,λl hl=>?_⟩⟩;have e:qY X.K H (upd H l (.tup xs)):=.new hl;exact k _ _ _ _ (.tup (.of qw) (h2.mono e)) (hm.add hl) e q
 .exact q.elim
def RE(ds:T0 D)(M:Mp)(Q:DK):Prop:=match ds with
 | [d]=>(Oq M d).elim False λes=>∀p,M p=Db->Q (.ref p) (pQ M p (.lst es))
 | _=>False
def tO:C3 X (.type "list") RE:=by
 intro XQ s Y H vs us Q' I rv h;obtain⟨ds,M,Q,hd,hm,q,k⟩:=h;unfold RE at q;split at q
 .obtain⟨v,rfl,hv⟩:=sN hd;obtain⟨es,e0,q⟩:=qZ q;obtain⟨p,xs,rfl,h1,h2⟩:=Fl hm hv e0;refine EE XQ s Y H _ us Q' I rv ⟨p,xs,Z',h1,λl hl=>?_⟩;have e:qY X.K H (upd H l (.lst xs)):=.new hl;exact k _ _ _ _ .ref (hm.new (c:=.lst es) hl ⟨_,qw,h2.mono e⟩) e (q l (hm.fresh hl))
 .exact q.elim
theorem xu{K:qC}{f:Str}:∀{fs:T0 (Str×D)} {vs:T0 (Str×V)},Dd K H fs vs->(∀d,fs.lookup f=Fa d->∃v,vs.lookup f=Fa v/\rZ K H d v)/\(fs.lookup f=Db->vs.lookup f=Db)
 | [],[],_=>⟨λd e=>by simp at e,λ_=>rfl⟩
 | [],_::_,h=>by have:=h.1;simp at this
 | _::_,[],h=>by have:=h.1;simp at this
 | (g,d)::fs,(g',v)::vs,h=>by
  have h1:g'=g/\vs.map (·.1)=fs.map (·.1):=by
   have:=h.1
   simpa using this
  obtain⟨x,r,e,a,b⟩:=h.2.inv;have e':v::vs.map (·.2)=x::r:=e;cases e';obtain⟨i1,i2⟩:=xu (f:=f) (fs:=fs) (vs:=vs) ⟨h1.2,b⟩;rw[h1.1];refine⟨λd' e=>?_,λe=>?_⟩
  .rw[eP]at e ⊢;cases q:f==g with
   | true=>rw[q]at e;cases e;exact⟨v,Z',a⟩
   | false=>rw[q]at e;exact i1 d' e
  .rw[eP]at e ⊢;cases q:f==g with
   | true=>rw[q]at e;cases e
   | false=>rw[q]at e;exact i2 e
theorem J6{f:Str}{d:D}:∀{fs:T0 (Str×D)},fs.lookup f=Fa d->f∈fs.map (·.1)
 | [],h=>by simp at h
 | (g,e)::r,h=>by
  rw[eP]at h;cases q:f==g with
  | true=>
   have z:f=g:=by simpa using q
   rw[z,eh];exact dY
  | false=>rw[q]at h;simp[J6 h]
def AA(o:Option vd)(F:Uf->T0 (Str×D)->Prop):Prop:=match o with
 | some (.ins C fs)=>F C fs
 | _=>False
def pH{o:Option vd}{F:Uf->T0 (Str×D)->Prop}{C:Uf}{fs:T0 (Str×D)}(e:o=Fa (.ins C fs))(h:F C fs):AA o F:=by rw[e];exact h
def xU{o:Option vd}(h:AA o F):∃C fs,o=Fa (.ins C fs)/\F C fs:=by
 unfold AA at h;split at h
 .exact⟨_,_,Z',h⟩
 .exact h.elim
def Wg(f:Str)(ta:T3):T3:=λU M Q=>ta U M λx M1=>match x with
 | .ref a=>AA (M1 a) λ_ fs=>(fs.lookup f).elim False λd=>Q d M1
 | _=>False
def pK{f:Str}(he:E3 X o ta)(hb:Ps o f X.env (wp o X.env)=wp o X.env:=by rfl):E3 X (.Attribute o f pos) (Wg f ta):=PE.mono (Si he hb) λY H Q' zz=>x7 zz λU M Q hs hm ht k=>
 ⟨U,M,_,hs,hm,ht,λv H1 d M1 hd XT e1 q1=>by
  cases d with
  | ref a=>cases hd.mT;obtain⟨C,fs,e,q1⟩:=xU q1;obtain⟨d,e2,q⟩:=qZ q1;obtain⟨dx,vs,h1,cl,na,fo⟩:=XT a _ e;obtain⟨v,e3,hv⟩:=(xu fo).1 d e2;exact⟨a,C,dx,vs,v,Z',h1,cl,na f (J6 e2),e3,k v H1 d M1 hv XT e1 q⟩
  | _=>exact q1.elim⟩
noncomputable def wj(f:Str)(v:D):T0 (Str×D)->T0 (Str×D)
 | []=>[(f,v)]
 | (g,u)::r=>if g=f then(g,v)::r else(g,u)::wj f v r
theorem F5{K:qC}{f:Str}(hv:rZ K H d v):∀{fs:T0 (Str×D)} {vs:T0 (Str×V)},Dd K H fs vs->Dd K H (wj f d fs) (vO f v vs)
 | [],[],_=>⟨Z',.cons hv .nil⟩
 | [],_::_,h=>by have:=h.1;simp at this
 | _::_,[],h=>by have:=h.1;simp at this
 | (g,e)::fs,(g',u)::vs,h=>by
  have h1:g'=g/\vs.map (·.1)=fs.map (·.1):=by
   have:=h.1
   simpa using this
  obtain⟨x,r,e1,a,b⟩:=h.2.inv;have e':u::vs.map (·.2)=x::r:=e1;cases e';obtain⟨hg,ht⟩:=h1;subst hg;rw[show wj f d ((g',e)::fs)=(if g'=f then(g',d)::fs else(g',e)::wj f d fs)from Z',show vO f v ((g',u)::vs)=(if g'=f then(g',v)::vs else(g',u)::vO f v vs)from Z'];by_cases q:g'=f
  .rw[dw q,dw q];exact⟨by simpa using ht,.cons hv b⟩
  .rw[dh q,dh q];obtain⟨i1,i2⟩:=F5 hv (fs:=fs) (vs:=vs) ⟨ht,b⟩;exact⟨by simpa using i1,.cons a i2⟩
theorem Cb{f:Str}:∀{fs:T0 (Str×D)} {g:Str},g∈(wj f d fs).map (·.1)->g=f\/g∈fs.map (·.1)
 | [],g,h=>.inl (by simpa [wj]using h)
 | (k,e)::r,g,h=>by
  rw[show wj f d ((k,e)::r)=(if k=f then(k,d)::r else(k,e)::wj f d r)from Z']at h;by_cases q:k=f
  .rw[dw q]at h;exact .inr (by simpa using h)
  .rw[dh q]at h;rw[eh,dC]at h;rcases h with h|h
   .exact .inr (by simp[h])
   .rcases Cb h with z|z
    .exact .inl z
    .exact .inr (by simp;right;simpa using z)
def Vf(K:qC)(f:Str)(ta tv:T3):xT:=λD U M=>tv U M λy M1=>ta U M1 λx M2=>match x with
 | .ref a=>AA (M2 a) λC fs=>uC K C f/\fs.length<1000/\D.nx U (pQ M2 a (.ins C (wj f y fs)))
 | _=>False
def qr{f:Str}(ha:E3 X o ta)(hv:E3 X value tv)(Zj:sB value (Fa (.Attribute o f X5)) pos.line X.env=pure lf:=by rfl):S3 X (.Assign [.Attribute o f X5] value pos) (Vf X.K f ta tv):=
 PS.mono (SL ha hv Zj) λD' Y H zz=>Lq zz λU M D hs hm ht k1 k2 k3 k4=>
 ⟨U,M,_,hs,hm,ht,λy H1 dy M1 hy XT e1 q1=>⟨U,M1,_,hs.mono e1,XT,q1,λv H2 d M2 hd Ya e2 q2=>by
  cases d with
  | ref a=>
   cases hd.mT;obtain⟨C,fs,e,q2⟩:=xU q2;obtain⟨na,hl,q⟩:=q2;obtain⟨dx,vs,h1,cl,nn,fo⟩:=Ya a _ e;have XY:vs.length=fs.length:=by have:=eZ List.length fo.1;simpa using this
   refine⟨a,C,dx,vs,Z',h1,cl,na,by lia,?_⟩;obtain⟨YL,e3⟩:=Ya.put (p:=a) (o:=.ins C dx (vO f y vs)) (c:=.ins C (wj f dy fs)) e λx=>⟨dx,_,qw,cl,λg hg=>by
    rcases Cb hg with z|z
    .rw[z];exact na
    .exact nn g z,F5 ((hy.mono e2).mono x) (fo.mono x)⟩
   exact k1 Y _ U _ (hs.mono (e1.trans (e2.trans e3))) YL (e1.trans (e2.trans e3)) Z' q
  | _=>exact q2.elim⟩⟩
def Ru(C:Uf)(sp:rB)(t:ya):T3:=λU M Q=>t U M λds M1=>∀x,M1 x=Db->sp (.ref x::ds) (pQ M1 x (.ins C [])) λd M2=>d=.mY/\Q (.ref x) M2
def Mv{K:qC}{xa dx:Uf}(hm:HM K H M)(cl:Cls K C)(h1:H xa=Db)(h2:H dx=Db)(ne:dx≠xa):HM K (upd (upd H dx (.own xa)) xa (.ins C dx [])) (pQ M xa (.ins C []))/\qY K H (upd (upd H dx (.own xa)) xa (.ins C dx [])):=by
 have Yz:upd H dx (.own xa) xa=Db:=by rw[qk (dW ne)];exact h1
 exact⟨(hm.add (p:=dx) (o:=.own xa) h2).new Yz ⟨dx,[],qw,cl,λg hg=>by simp at hg,Z',.nil⟩,qY.trans (.new h2) (.new Yz)⟩
def Qe(cl:Cls X.K C)(Mk':Mk X.K C f)(F:Uj X.prog X.w X.K X.mg X.base k f fd ps sp)(hr:sC (k+1) X.A)(hg:Gl X x)(hm:X.mg x=Fa (.ref C))(hb:vc X.K fd ps [])(ha:A3 X (e::es) t) (Yd:yI x:=by decide) (he:BF X e es:=by rfl) (X9:Dh X pos es:=by rfl):
  E3 X (.Call (.Name x p) (e::es) [] pos) (Ru C sp t):=PE.mono (P3 Mk' F hr hg hm hb .nil (G4 (X:=X)) ha Yd he X9) λY H Q' zz=>x7 zz λU M Q hs hm ht k=>
 ⟨U,M,_,hs,hm,ht,λvs H1 ds M1 hd XT e1 q1=>λxa dx n1 n2 ne=>by
  obtain⟨Ya,e2⟩:=Mv XT cl n1 n2 ne;refine⟨.ref xa::ds,_,_,?_,Ya,q1 xa (XT.fresh n1),λv H3 d M3 hd3 YL e3 q3=>?_⟩
  .rw[fk];exact .cons .ref (hd.mono e2)
  .obtain⟨z,q3⟩:=q3;subst z;exact⟨hd3.mW,k _ H3 _ M3 .ref YL (e1.trans (e2.trans e3)) q3⟩⟩
def HX(m:Str)(R:Uf->Sp->Prop)(ta:TE)(t:TA):TE:=λY H Q=>ta Y H λx H1=>∃a C dx fs sp,x=.ref a/\H1 a=Fa (.ins C dx fs)/\fs.lookup m=Db/\R C sp/\t Y H1 λvs H2=>sp (x::vs) H2 Q E0
def xN(P:Pg)(w:Wo)(K:qC)(mg:QQZ)(base:No)(k:Nat)(m:Str)(C:Uf)(sp:Sp):Prop:=Cls K C/\∃f fd ps,vP K C m f/\xK P w K mg base OA k f fd ps sp/\vc K fd ps []
def Lw{R:Uf->Sp->Prop}{ta:TE}{t:TA}{pl:Sem Bool}(he:PE X o ta)(hR:∀C sp,R C sp->xN X.prog X.w X.K X.mg X.base k m C sp)(hr:sC k X.A)(ha:PA X (e::es) t) (Ye:BF X e es:=by rfl) (X9:Dh X pos es:=by rfl)
  (ht:wp (.Call (.Attribute o m XW) (e::es) [] pos) X.env=(do
   let ov<-wp o X.env
   XXa XW.atName
   let(f,first)<-ZB [ov] (TW ov m pl)
   XXf pos f first (xz pos (Tl (e::es) X.env)) (IN pos (Rs [] X.env))):=by rfl):
  PE X (.Call (.Attribute o m XW) (e::es) [] pos) (HX m R ta t):=by
 intro XQ s Y H Q I h;refine ko (pl:=pl) (sS (he XQ s Y H _ I h) λu s1 zz=>?_) ht;obtain⟨x,H1,I1,rx,a,C,dx,fs,sp,ex,ea,l,hRC,q⟩:=zz;obtain⟨c,f,fd,ps,hm,F,hb⟩:=hR C sp hRC;subst ex;obtain rfl:u=Value.ref a:=rx;refine BN I1 ea c hm l ?_;refine jd (first:=[.ref a]) (h₀:=X.base) I.ok.mod.oM hm.kp (sS (ha pos XQ s1 Y H1 _ I1 q) λus s2 zz=>x5 zz λvs H2 I2 r q2=>⟨I2.nA,?_⟩) Ye X9;exact EF (us:=.ref a::us) (vs:=.ref a::vs) F hr hb .nil (G4 (X:=X)) I2 (.cons Z' r) (by rw[fk];exact q2)
def Kw{R:Uf->Sp->Prop}{ta:TE}{pl:Sem Bool}(he:PE X o ta)(hR:∀C sp,R C sp->xN X.prog X.w X.K X.mg X.base k m C sp)(hr:sC k X.A) (ht:wp (.Call (.Attribute o m XW) [] [] pos) X.env=(do
   let ov<-wp o X.env
   XXa XW.atName
   let(f,first)<-ZB [ov] (TW ov m pl)
   XXf pos f first (xz pos (Tl [] X.env)) (IN pos (Rs [] X.env))):=by rfl):
  PE X (.Call (.Attribute o m XW) [] [] pos) (HX m R ta UN):=by
 intro XQ s Y H Q I h;refine ko (pl:=pl) (sS (he XQ s Y H _ I h) λu s1 zz=>?_) ht;obtain⟨x,H1,I1,rx,a,C,dx,fs,sp,ex,ea,l,hRC,q⟩:=zz;obtain⟨c,f,fd,ps,hm,F,hb⟩:=hR C sp hRC;subst ex;obtain rfl:u=Value.ref a:=rx;refine BN I1 ea c hm l ?_;exact W.callWith_K0 (first:=[.ref a]) I1.nA hm.kp (EF (us:=[.ref a]) (vs:=[.ref a]) F hr hb .nil (G4 (X:=X)) I1 (.cons Z' .nil) (by rw[fk];exact q))
def AK(m:Str)(R:Uf->rB->Prop)(ta:T3)(t:ya):T3:=λU M Q=>ta U M λx M1=>match x with
 | .ref a=>AA (M1 a) λC fs=>fs.lookup m=Db/\∃sp,R C sp/\t U M1 λds M2=>sp (x::ds) M2 Q
 | _=>False
def WU(K:qC)(R:Uf->rB->Prop):Uf->Sp->Prop:=λC sp'=>∃sp,R C sp/\sp'=Ox K sp
def J':∀Y H Q',lo X.K (AK m R ta t) Y H Q'->HX m (WU X.K R) (lo X.K ta) (Xj X.K t) Y H Q':=λY H Q' zz=>x7 zz λU M Q hs hm ht k=>
 ⟨U,M,_,hs,hm,ht,λv H1 d M1 hd XT e1 q1=>by
  cases d with
  | ref a=>cases hd.mT;obtain⟨C,fs,e,q1⟩:=xU q1;obtain⟨hn,sp,hR,q⟩:=q1;obtain⟨dx,vs,h1,cl,na,fo⟩:=XT a _ e;exact⟨a,C,dx,vs,_,Z',h1,(xu fo).2 hn,⟨sp,hR,Z'⟩,U,M1,_,hs.mono e1,XT,q,λus H2 ds M2 Y2 Ya e2 q2=>⟨.ref a::ds,M2,Q,.cons .ref Y2,Ya,q2,vT (e1.trans e2) k⟩⟩
  | _=>exact q1.elim⟩
def F'{R:Uf->rB->Prop}{pl:Sem Bool}(he:E3 X o ta)(hR:∀C sp,R C sp->xN X.prog X.w X.K X.mg X.base k m C (Ox X.K sp))(hr:sC k X.A)(ha:A3 X (e::es) t) (Ye:BF X e es:=by rfl) (X9:Dh X pos es:=by rfl)
  (ht:wp (.Call (.Attribute o m XW) (e::es) [] pos) X.env=(do
   let ov<-wp o X.env
   XXa XW.atName
   let(f,first)<-ZB [ov] (TW ov m pl)
   XXf pos f first (xz pos (Tl (e::es) X.env)) (IN pos (Rs [] X.env))):=by rfl):
  E3 X (.Call (.Attribute o m XW) (e::es) [] pos) (AK m R ta t):=PE.mono (Lw (R:=WU X.K R) he (λC sp' ⟨sp,h,z⟩=>by rw[z];exact hR C sp h) hr ha Ye X9 ht) J'
def Cm{R:Uf->rB->Prop}{pl:Sem Bool}(he:E3 X o ta)(hR:∀C sp,R C sp->xN X.prog X.w X.K X.mg X.base k m C (Ox X.K sp))(hr:sC k X.A) (ht:wp (.Call (.Attribute o m XW) [] [] pos) X.env=(do
   let ov<-wp o X.env
   XXa XW.atName
   let(f,first)<-ZB [ov] (TW ov m pl)
   XXf pos f first (xz pos (Tl [] X.env)) (IN pos (Rs [] X.env))):=by rfl):
  E3 X (.Call (.Attribute o m XW) [] [] pos) (AK m R ta xH):=PE.mono (Kw (R:=WU X.K R) he (λC sp' ⟨sp,h,z⟩=>by rw[z];exact hR C sp h) hr ht) λY H Q' h=>by
 obtain⟨U,M,Q,hs,hm,ht,k⟩:=J' (t:=xH) Y H Q' h;refine⟨U,M,Q,hs,hm,ht,λv H' d M' x1 x2 x3 x4=>?_⟩;obtain⟨a,C,dx,fs,sp,e1,e2,e3,e4,δ',XU,Q'',y1,y2,y3,y4⟩:=k v H' d M' x1 x2 x3 x4;exact⟨a,C,dx,fs,sp,e1,e2,e3,e4,y4 [] H' [] XU .nil y2 .refl y3⟩
structure G1(K:qC)(H1:Hp)(J:It)(ds:List D)(ok:Mp->Prop):Prop where
 go:∀i H M,i<ds.length->HM K H M->ok M->qY K H1 H->J.go i H
 oZ:∀i d H M x H',ds[i]?=Fa d->HM K H M->ok M->qY K H1 H->J.oZ i H x H'->rZ K H' d x/\HM K H' M/\qY K H H'
 stop:∀H M,HM K H M->ok M->qY K H1 H->J.stop ds.length H
abbrev Oz:=vq->Mp->(T0 D->(Mp->Prop)->Mp->Prop)->Prop
def Xo(K:qC)(wi:Oz):TI:=λY H R'=>Di λU M R=>yU K H Y U/\HM K H M/\wi U M R/\∀J H1 ds ok M1,G1 K H1 J ds ok->HM K H1 M1->qY K H H1->ok M1->R ds ok M1->R' J H1
def I3(X:Cx)(tg iter:Go)(wi:Oz):Prop:=PI X tg iter (Xo X.K wi)
def PI.mono{t t':TI}(h:PI X tg e t)(m:∀Y H Q,t' Y H Q->t Y H Q):PI X tg e t':=λXQ s Y H Q I q=>h XQ s Y H Q I (m Y H Q q)
variable {H1:Hp}
def Nf:G1 K H1 (Wb K a) ds (λM=>oN M a=Fa ds) where
 go:=λi H M hi hm ok _=>by obtain⟨xs,h1,h2,_⟩:=qG hm ok;obtain⟨x,e,_⟩:=h2.get (dg hi);exact⟨xs,x,h1,e⟩
 oZ:=λi d H M x H' hd hm ok _ y=>by obtain⟨xs,h1,h2,_⟩:=qG hm ok;obtain⟨e,y⟩:=y;subst e;obtain⟨x',e,hx⟩:=h2.get hd;have:=y xs h1;rw[e]at this;cases this;exact⟨hx,hm,.refl⟩
 stop:=λH M hm ok _=>by obtain⟨xs,h1,h2,_⟩:=qG hm ok;exact⟨xs,h1,by rw[h2.length];exact dE _⟩
def Ra(h1:vn K H1 a xs)(h2:qA K H1 ds xs):G1 K H1 (WJ K a) ds (λ_=>True) where
 go:=λi H M hi hm ok e1=>by obtain⟨x,e,_⟩:=h2.get (dg hi);exact⟨xs,x,e1.t _ _ h1,e⟩
 oZ:=λi d H M x H' hd hm ok e1 y=>by obtain⟨e,y⟩:=y;subst e;obtain⟨x',e,hx⟩:=h2.get hd;have:=y xs (e1.t _ _ h1);rw[e]at this;cases this;exact⟨hx.mono e1,hm,.refl⟩
 stop:=λH M hm ok e1=>⟨xs,e1.t _ _ h1,by rw[h2.length];exact dE _⟩
def Ub(h1:OP K H1 a xs)(h2:qA K H1 ds xs):G1 K H1 (Wb K a) ds (λ_=>True) where
 go:=λi H M hi hm ok e1=>by obtain⟨x,e,_⟩:=h2.get (dg hi);exact⟨xs,x,(h1.mono e1).sq,e⟩
 oZ:=λi d H M x H' hd hm ok e1 y=>by obtain⟨e,y⟩:=y;subst e;obtain⟨x',e,hx⟩:=h2.get hd;have:=y xs (h1.mono e1).sq;rw[e]at this;cases this;exact⟨hx.mono e1,hm,.refl⟩
 stop:=λH M hm ok e1=>⟨xs,(h1.mono e1).sq,by rw[h2.length];exact dE _⟩
def KG{lo:Int}:G1 K H1 (V4 lo n) ((List.range n).map λi=>D.int (lo+(i:Nat))) (λ_=>True) where
 go:=λi H M hi hm ok e1=>by
  have z:i<n:=by simpa using hi
  exact z
 oZ:=λi d H M x H' hd hm ok e1 y=>by
  obtain⟨e,y⟩:=y;subst e;subst y;have hi:i<n:=by
   have:=(dv.mp hd).1
   simpa using this
  have hd':d=D.int (lo+(i:Nat)):=by rw[dM,kY hi]at hd;exact(dD hd).symm
  subst hd';exact⟨.int,hm,.refl⟩
 stop:=λH M hm ok e1=>by show n<=_;simp
variable {scope:XXb}{ix:T0 (Option Nat)}{N':QQQ}{iter YG:Go}{Ys:T0 Go}{wi:Oz}{g:Dj}{tt:AY}{te:T3}{tg:Go}
def UT(t:T3):Oz:=λU M R=>t U M λx M1=>match x with
 | .tup ds=>R ds (λ_=>True) M1
 | .ref a=>(oN M1 a).elim False λds=>R ds (λM=>oN M a=Fa ds) M1
 | .rl ds=>R ds (λ_=>True) M1
 | .str z=>R (z.cps.toList.map λc=>D.str ⟨#[c]⟩) (λ_=>True) M1
 | _=>False
def Re{K:qC}:G1 K H1 (WA z) (z.cps.toList.map λc=>D.str ⟨#[c]⟩) (λ_=>True) where
 go:=λi H M hi hm ok _=>by
  show i<z.cps.size
  simpa using hi
 oZ:=λi d H M x H' hd hm ok _ y=>by obtain⟨e,c,e1,e2⟩:=y;subst e e2;rw[dM,Array.getElem?_toList,e1]at hd;cases hd;exact⟨.str,hm,.refl⟩
 stop:=λH M hm ok _=>by show _=z.cps.size;simp
def qL{t:T3}(h:E3 X l t)(hc:X.calm=pc:=by rfl):I3 X tg l (UT t):=PI.mono (OF hc h) λY H R' zz=>x7 zz λU M R hs hm ht k=>
 ⟨U,M,_,hs,hm,ht,λv H1 d M1 hd XT e1 q1=>by
  cases d with
  | tup ds=>obtain⟨a,xs,rfl,h1,h2⟩:=hd.m7;exact .inl ⟨a,Z',.inr ⟨⟨xs,h1⟩,k _ H1 ds _ M1 (Ra h1 h2) XT e1 trivial q1⟩⟩
  | ref a=>cases hd.mT;obtain⟨ds,e0,q⟩:=qZ q1;obtain⟨xs,h1,h2,_⟩:=qG XT e0;exact .inl ⟨a,Z',.inl ⟨⟨xs,h1⟩,k _ H1 ds _ M1 Nf XT e1 e0 q⟩⟩
  | str z=>exact .inr ⟨z,hd.str_inv,k _ H1 _ _ M1 Re XT e1 trivial q1⟩
  | rl ds=>obtain⟨a,xs,rfl,h1,h2⟩:=hd.nz;exact .inl ⟨a,Z',.inl ⟨⟨xs,h1.sq⟩,k _ H1 ds _ M1 (Ub h1 h2) XT e1 trivial q1⟩⟩
  | _=>exact q1.elim⟩
def VY(t:ya):Oz:=λU M R=>t U M λds M1=>match ds with
 | [.int j]=>(-(2 ^ 62)<=j/\j<2 ^ 62)/\R ((List.range j.toNat).map λi=>D.int (0+(i:Nat))) (λ_=>True) M1
 | [.int i,.int j]=>(-(2 ^ 62)<=i/\i<2 ^ 62/\-(2 ^ 62)<=j/\j<2 ^ 62)/\R ((List.range (j - i).toNat).map λn=>D.int (i+(n:Nat))) (λ_=>True) M1
 | _=>False
def wN{a:Go}{ta:ya}(hg:Gl X "range")(hm:X.mg "range"=Db)(ha:A3 X [a] ta)(hs:Tl [a] X.env=[(lf,wp a X.env)]:=by rfl):I3 X tg (.Call (.Name "range" p) [a] [] pos) (VY λU M Q=>ta U M λds M1=>ds.length=1/\Q ds M1):=
 PI.mono (KB hg hm ha hs) λY H R' zz=>x7 zz λU M R hs hm ht k=>⟨U,M,_,hs,hm,ht,λvs H1 ds M1 hd XT e1 q1=>by
  obtain⟨hl,q1⟩:=q1;split at q1
  .obtain⟨v,rfl,hv⟩:=sN hd;cases hv.int_inv;exact⟨_,Z',q1.1.1,q1.1.2,k _ H1 _ _ M1 KG XT e1 trivial q1.2⟩
  .simp at hl
  .exact q1.elim⟩
def Fh(g:Dj)(tb:xT)(ok:Mp->Prop)(E:Hw):T0 D->vq->Mp->Prop
 | [],U,M=>E.nx U M
 | d::r,U,M=>g d U M λδ2 M2=>tb {E with nx:=λδ' M'=>ok M'/\Fh g tb ok E r δ' M',ct:=λδ' M'=>ok M'/\Fh g tb ok E r δ' M',bk:=E.nx} δ2 M2
def Tq(wi:Oz)(g:Dj)(tb:xT):xT:=λE U M=>wi U M λds ok M1=>Fh g tb ok E ds U M1
def uP{tb:xT}(hp:PassesOwn (Tk X.prog X.w) X.A X.env X.xe)(hc:X.calm=pc)(hi:I3 X tg iter wi)(hg:G3 X tg g)(hb:HZ X body tb) (hs:∀x,AT iter X.env x=pure x:=by intro _;rfl):S3 X (.For tg iter body [] pos) (Tq wi g tb):=PS.mono (R6 hp hc hi hg hb hs) λD' Y H zz=>Lq zz λU M E hs hm ht k1 k2 k3 k4=>
 ⟨U,M,_,hs,hm,ht,λJ H1 ds ok M1 S XT e1 ok1 q1=>by
  refine⟨λi m σ' H'=>m=ds.length - i/\i<=ds.length/\∃δ' M',yU X.K H' σ' δ'/\HM X.K H' M'/\ok M'/\qY X.K H1 H'/\σ'.length=Y.length/\Fh g tb ok E (ds.drop i) δ' M',⟨ds.length,by simp,eX _,U,M1,hs.mono e1,XT,ok1,.refl,Z',by simpa using q1⟩,?_⟩
  rintro i m σ' H' ⟨rfl,hi,δ',M',hs',YY,ok',e',l',q'⟩
  by_cases X3:i<ds.length
  .rw[gR X3]at q';refine .inr ⟨S.go i H' M' X3 YY ok' e',λσ2 H2=>∃δ2 M2,yU X.K H2 σ2 δ2/\HM X.K H2 M2/\ok M2/\qY X.K H1 H2/\σ2.length=Y.length/\Fh g tb ok E (ds.drop (i+1)) δ2 M2,λσ2 H2 z=>⟨ds.length - (i+1),by lia,Z',X3,z⟩,λx H2 y=>?_⟩;obtain⟨hx,Ya,e2⟩:=S.oZ i ds[i] H' M' x H2 (dg X3) YY ok' e' y;refine⟨ds[i],δ',M',_,hx,hs'.mono e2,Ya,q',λσ3 H3 δ3 M3 x1 x2 x3 x4 x5=>?_⟩;refine⟨δ3,M3,_,x1,x2,x5,λσ4 H4 δ4 M4 y1 y2 y3 y4 y5=>?_,λv H4 d M4 y1 y2 y3 y4=>?_,λσ4 H4 δ4 M4 y1 y2 y3 y4 y5=>?_,λσ4 H4 δ4 M4 y1 y2 y3 y4 y5=>?_⟩
   .exact⟨δ4,M4,y1,y2,y5.1,e'.trans (e2.trans (x3.trans y3)),by rw[y4,x4,l'],y5.2⟩
   .exact k2 v H4 d M4 y1 y2 (e1.trans (e'.trans (e2.trans (x3.trans y3)))) y4
   .exact k1 σ4 H4 δ4 M4 y1 y2 (e1.trans (e'.trans (e2.trans (x3.trans y3)))) (by rw[y4,x4,l']) y5
   .exact⟨δ4,M4,y1,y2,y5.1,e'.trans (e2.trans (x3.trans y3)),by rw[y4,x4,l'],y5.2⟩
  .have e:i=ds.length:=by lia
   subst e;rw[j4]at q';exact .inl ⟨S.stop H' M' YY ok' e',k1 σ' H' δ' M' hs' YY (e1.trans e') l' q'⟩⟩
noncomputable def QT(ix:T0 (Option Nat))(U:vq):vq:=ix.map λo=>o.bind λi=>(U[i]?).join
def Qx{K:qC}(h:yU K H Y U):yU K H (Pn ix Y) (QT ix U):=λi d q=>by
 unfold QT at q;unfold Pn;rw[dM]at q ⊢;cases e:ix[i]? with
 | none=>rw[e]at q;cases q
 | some o=>
  rw[e]at q;cases o with
  | none=>cases q
  | some j=>
   have q':(U[j]?).join=Fa d:=dD q;have e4:U[j]?=Fa (Fa d):=by
    cases r:U[j]? with
    | none=>rw[r]at q';cases q'
    | some w=>rw[r]at q';exact eZ Fa q'
   obtain⟨v,e5,hv⟩:=h j d e4;refine⟨v,?_,hv⟩;show Fa ((Y[j]?).join)=Fa (Fa v);rw[e5];rfl
def vm(g:Dj)(tt:AY)(te:T3)(ok:Mp->Prop)(Q:DK):T0 D->T0 D->vq->Mp->Prop
 | [],acc,_,M=>acc.length<=Ch/\∀p,M p=Db->Q (.ref p) (pQ M p (.lst acc))
 | d::r,acc,U,M=>acc.length<Ch/\g d U M λδ2 M2=>tt δ2 M2 λb M3=>if b=pc then te δ2 M3 λy M4=>ok M4/\vm g tt te ok Q r (acc++[y]) δ2 M4 else ok M3/\vm g tt te ok Q r acc δ2 M3
def Mb(ix:T0 (Option Nat))(wi:Oz)(g:Dj)(tt:AY)(te:T3):T3:=λU M Q=>wi U M λds ok M1=>vm g tt te ok Q ds [] (QT ix U) M1
def F3(X:Cx)(Ys:T0 Go)(t:AY):Prop:=PF X Ys (Ul X.K t)
def PF.mono{e:T0 Go}{t t':TT}(h:PF X e t)(m:∀Y H Q,t' Y H Q->t Y H Q):PF X e t':=λXQ s Y H Q I q=>h XQ s Y H Q I (m Y H Q q)
def B0:AY:=λ_ M Q=>Q pc M
def se:F3 X [] B0:=PF.mono Tw λY H Q' zz=>x7 zz λU M Q hs hm ht k=>k pc H M hm .refl ht
def vI{t:AY}(h:B3 X c t):F3 X [c] t:=SJ h
def Kc:∀Y H Q',lo X.K (Mb ix wi g tt te) Y H Q'->MF ix (Xo X.K wi) (V6 X.K g) (Ul X.K tt) (lo X.K te) Y H Q':=λY H Q' zz=>x7 zz λU M Q hs hm ht k=>
 ⟨U,M,_,hs,hm,ht,λJ H1 ds ok M1 S XT e1 ok1 q1=>by
  refine⟨λi m ys σ' H'=>m=ds.length - i/\i<=ds.length/\∃δ' M' acc,yU X.K H' σ' δ'/\HM X.K H' M'/\qA X.K H' acc ys/\ok M'/\qY X.K H1 H'/\vm g tt te ok Q (ds.drop i) acc δ' M',⟨ds.length,by simp,eX _,QT ix U,M1,[],Qx (hs.mono e1),XT,.nil,ok1,.refl,by simpa using q1⟩,?_⟩
  rintro i m ys σ' H' ⟨rfl,hi,δ',M',acc,hs',YY,Zq,ok',e',q'⟩
  by_cases X3:i<ds.length
  .rw[gR X3]at q';obtain⟨hz,q'⟩:=q';refine .inr ⟨S.go i H' M' X3 YY ok' e',by rw[<-Zq.length];exact hz,λx H2 y=>?_⟩;obtain⟨hx,Ya,e2⟩:=S.oZ i ds[i] H' M' x H2 (dg X3) YY ok' e' y;refine⟨ds[i],δ',M',_,hx,hs'.mono e2,Ya,q',λσ3 H3 δ3 M3 x1 x2 x3 x4 x5=>?_⟩;refine⟨δ3,M3,_,x1,x2,x5,λb H4 M4 y2 y3 y5=>?_⟩;cases b with
   | true=>rw[dw Z']at y5 ⊢;refine⟨δ3,M4,_,x1.mono y3,y2,y5,λv H5 d M5 z1 z2 z3 z4=>⟨ds.length - (i+1),by lia,Z',X3,δ3,M5,acc++[d],x1.mono (y3.trans z3),z2,(Zq.mono (e2.trans (x3.trans (y3.trans z3)))).snoc z1,z4.1,e'.trans (e2.trans (x3.trans (y3.trans z3))),z4.2⟩⟩
   | false=>rw[dh dH]at y5 ⊢;exact⟨ds.length - (i+1),by lia,Z',X3,δ3,M4,acc,x1.mono y3,y2,Zq.mono (e2.trans (x3.trans y3)),y5.1,e'.trans (e2.trans (x3.trans y3)),y5.2⟩
  .have e:i=ds.length:=by lia
   subst e;rw[j4]at q';refine .inl ⟨S.stop H' M' YY ok' e',by rw[<-Zq.length];exact q'.1,λp hp=>?_⟩;have e5:qY X.K H' (upd H' p (.lst ys)):=.new hp;exact k _ _ _ _ .ref (YY.new (c:=.lst acc) hp ⟨_,qw,Zq.mono e5⟩) (e1.trans (e'.trans e5)) (q'.2 p (YY.fresh hp))⟩
def qP(hc:X.calm=pc)(S:sF X scope ix N')(hi:I3 X tg iter wi)(hg:∀{C s0 H0 ex},G3 (X.comp scope N' C s0 H0 ex) tg g)(ht:∀{C s0 H0 ex},F3 (X.comp scope N' C s0 H0 ex) Ys tt)(he:∀{C s0 H0 ex},E3 (X.comp scope N' C s0 H0 ex) YG te) (hs:∀x,AT iter X.env x=pure x:=by intro _;rfl):E3 X (.ListComp YG [⟨tg,iter,Ys,0⟩] scope pos) (Mb ix wi g tt te):=PE.mono (OJ (g:=V6 X.K g) (tt:=Ul X.K tt) (te:=lo X.K te) hc S hi (λ_ _ _ _=>hg) (λ_ _ _ _=>ht) (λ_ _ _ _=>he) hs) Kc
def vH{i:Nat}{x:Str}{px ZA:Pos}(hN:X.N.Nodup)(hix:X.N[i]?=Fa x)(hx:Os X.env.scope x)(hc:X.calm=pc)(S:sF X scope ix N')(hi:I3 X tg iter wi)(hg:∀{C s0 H0 ex},G3 (X.comp scope N' C s0 H0 ex) tg g)(ht:∀{C s0 H0 ex},F3 (X.comp scope N' C s0 H0 ex) Ys tt) (he:∀{C s0 H0 ex},E3 (X.comp scope N' C s0 H0 ex) YG te) (Zj:sB (.ListComp YG [⟨tg,iter,Ys,0⟩] scope pos) (Fa (.Name x px)) ZA.line X.env=pure pc:=by rfl)
  (hf:NA X x:=by first|exact .inl Z'|exact .inr Z'|assumption) (hs:∀x,AT iter X.env x=pure x:=by intro _;rfl):
  S3 X (.Assign [.Name x px] (.ListComp YG [⟨tg,iter,Ys,0⟩] scope pos) ZA) (CU (Mb ix wi g tt te) (tU i)):=PS.og (IC (g:=V6 X.K g) (tt:=Ul X.K tt) (te:=lo X.K te) hN hix hx hc S hi (λ_ _ _ _=>hg) (λ_ _ _ _=>ht) (λ_ _ _ _=>he) Zj hf hs) λD' Y H hl zz=>Lq zz λU M D hs hm ht k1 k2 k3 k4=>
 Kc Y H _ ⟨U,M,_,hs,hm,ht,λv H1 d M1 hd XT e1 q1=>k1 _ H1 _ M1 ((hs.mono e1).set hd (by rw[hl];exact(dv.mp hix).1)) XT e1 (by simp) q1⟩
def Xr(hr:sC k A):A.units+9<X':=by have:=hr.units;lia
noncomputable def Iq(sc:XXb)(N:QQQ)(scope:XXb)(ix:T0 (Option Nat))(N':QQQ):Bool:=
 (scope.kind==.function)&&(scope.names.all λy=>!(y.2==.cell))&&(scope.names.all λy=>!(y.2==.local)||(scope.names.lookup y.1==Fa .local))&&
 (scope.names.all λy=>!(y.2==.free)||(sc.names.lookup y.1==Fa .cell)||(sc.names.lookup y.1==Fa .free))&&(ix.length==N'.length)&&
 ((ix.zip N').all λp=>match p.1 with|none=>pc|some i=>(N[i]?==Fa p.2)&&(scope.names.lookup p.2==Fa .free))
def U8{X:Cx}(h:Iq X.env.scope X.N scope ix N'=pc):sF X scope ix N':=by
 unfold Iq at h;simp only[d9]at h;obtain⟨⟨⟨⟨⟨h1,h2⟩,h3⟩,h4⟩,h5⟩,h6⟩:=h;refine⟨by simpa using h1,λy hy e=>?_,λy hy e=>?_,λy hy e=>?_,by simpa using h5,λj i x e1 e2=>?_⟩
 .have:=eV.mp h2 y hy;rw[e]at this;simp at this
 .have:=eV.mp h3 y hy;rw[e]at this
  simpa using this
 .have:=eV.mp h4 y hy;rw[e]at this
  simpa using this
 .have hm:(Fa i,x)∈ix.zip N':=by
   have:(ix.zip N')[j]?=Fa (Fa i,x):=by rw[iD];exact⟨e1,e2⟩
   exact fD this
  have:=eV.mp h6 _ hm
  simpa using this
section
variable {a b:Go}
def Ja(op YF:CmpOp)(ta tb tc:T3):T3:=λU M Q=>ta U M λx M1=>tb U M1 λy M2=>QK op x y M2 λz M3=>match z with
 | .bl k=>if k=pc then tc U M3 λw M4=>QK YF y w M4 Q else Q (.bl lf) M3
 | _=>False
def ur{op YF:CmpOp}(hu:X.A.units+9<X')(ha:E3 X a ta)(hb:E3 X b tb)(hc:E3 X c tc)(hmk:lastMarks [op,YF] [b,c]=lf:=by rfl):
  E3 X (.Compare a [op,YF] [b,c] pos) (Ja op YF ta tb tc):=PE.mono (Mh (Lb op hu) (Lb YF hu) ha hb hc hmk) λY H Q' zz=>x7 zz λU M Q hs hm ht k=>
 ⟨U,M,_,hs,hm,ht,λv H1 x M1 hx XT e1 q1=>⟨U,M1,_,hs.mono e1,XT,q1,λu H2 y M2 hy Ya e2 q2=>⟨x,y,M2,_,hx.mono e2,hy,Ya,q2,λw H3 z M3 hz YL e3 q3=>by
  cases z with
  | bl c=>
   refine⟨c,hz.mX,?_⟩;cases c with
   | true=>refine(dw Z').mpr ⟨U,M3,_,hs.mono (e1.trans (e2.trans e3)),YL,(dw Z').mp q3,λw' H4 d M4 hd hm4 e4 q4=>⟨y,d,M4,Q,hy.mono (e3.trans e4),hd,hm4,q4,vT (e1.trans (e2.trans (e3.trans e4))) k⟩⟩
   | false=>exact(dh dH).mpr (k _ H3 _ M3 .bl YL (e1.trans (e2.trans e3)) ((dh dH).mp q3))
  | _=>exact q3.elim⟩⟩⟩
def zT{op YF:CmpOp}(hu:X.A.units+9<X')(ha:E3 X a ta)(hb:E3 X b tb)(hc:E3 X c tc)(hmk:lastMarks [op,YF] [b,c]=lf:=by rfl):
  B3 X (.Compare a [op,YF] [b,c] pos) (b3 (Ja op YF ta tb tc)):=PT.mono (MZ (Lb op hu) (Lb YF hu) ha hb hc hmk) λY H Q' zz=>x7 zz λU M Q hs hm ht k=>
 ⟨U,M,_,hs,hm,ht,λv H1 x M1 hx XT e1 q1=>⟨U,M1,_,hs.mono e1,XT,q1,λu H2 y M2 hy Ya e2 q2=>⟨x,y,M2,_,hx.mono e2,hy,Ya,q2,λw H3 z M3 hz YL e3 q3=>by
  cases z with
  | bl c=>
   refine⟨c,hz.mX,?_⟩;cases c with
   | true=>
    refine(dw Z').mpr ⟨U,M3,_,hs.mono (e1.trans (e2.trans e3)),YL,(dw Z').mp q3,λw' H4 d M4 hd hm4 e4 q4=>⟨y,d,M4,_,hy.mono (e3.trans e4),hd,hm4,q4,λw5 H5 d5 M5 hd5 hm5 e5 q5=>?_⟩⟩;cases d5 with
    | bl c5=>exact⟨c5,hd5.mX,k c5 H5 M5 hm5 (e1.trans (e2.trans (e3.trans (e4.trans e5)))) q5⟩
    | _=>exact q5.elim
   | false=>exact(dh dH).mpr ⟨lf,Z',k lf H3 M3 YL (e1.trans (e2.trans e3)) ((dh dH).mp q3)⟩
  | _=>exact q3.elim⟩⟩⟩
structure W9(K:qC)(C:Uf):Prop where
 ha:W.findIn K (.ref C) "__class__"=Fa (Fa (.builtin "object.__class__"))
 hn:W.specialIn K (.builtin "object.__class__") "__get__"=Fa (Fa (.builtin "getset_descriptor.__get__"))
 pC:W.takesIn K (.builtin "object.__class__")=Fa pc
 hm:W.mroIn K C (.type "object")=Fa pc
noncomputable def MX:Option vd->Option Vl
 | some (.lst _)=>Fa (.type "list")
 | some (.ins C _)=>Fa (.ref C)
 | some (.dk _)=>Fa (.type "dict")
 | some (.exc _)=>Db
 | none=>Db
noncomputable def XB(M:Mp):D->Option Vl
 | .mY=>Fa (.type "NoneType")
 | .bl _=>Fa (.type "bool")
 | .int _=>Fa (.type "int")
 | .str _=>Fa (.type "str")
 | .tup _=>Fa (.type "tuple")
 | .ref a=>MX (M a)
 | .ty _=>Db
 | .rl _=>Fa (.type "list")
noncomputable def TQ:D->Option Vl
 | .ref C=>Fa (.ref C)
 | .ty n=>Fa (.type n)
 | _=>Db
def Rl(K:qC)(ds:T0 D)(M:Mp)(Q:DK):Prop:=match ds with
 | [x,c]=>(XB M x).elim False λt=>(TQ c).elim False λcv=>(∀C,t=.ref C->W9 K C)/\(W.kitOne K t cv).elim False λb=>Q (.bl b) M
 | _=>False
def Lj:C3 X (.builtin "isinstance") (Rl X.K):=by
 intro XQ s Y H vs us Q' I rv h;obtain⟨ds,M,Q,hd,hm,q,k⟩:=h;unfold Rl at q;split at q
 .rename_i x c;obtain⟨v,u,rfl,hv,hw⟩:=zK hd;obtain⟨t,et,q⟩:=qZ q;obtain⟨cv,ec,hC,q⟩:=qZ q;obtain⟨b,eb,qb⟩:=qZ q;obtain⟨uv,uw,rfl,ZD,rv2⟩:=GZ rv;have ecv:uw=cv:=by
   cases c with
   | ref C=>cases hw.mT;cases ec;exact rv2
   | ty n=>cases hw.nW;cases ec;exact rv2
   | _=>cases ec
  subst ecv;have XX:∀tk,EP X XQ Y Q' (.bool b) {s with toks:=tk}:=λtk=>⟨.bl b,H,I.tok tk,Z',k _ _ _ _ .bl hm .refl qb⟩;cases x with
  | mY=>cases hv.mW;cases et;exact uU I ZD .mY eb XX
  | bl y=>cases hv.mX;cases et;exact uU I ZD (.bl y) eb XX
  | int y=>cases hv.int_inv;cases et;exact uU I ZD (.int y) eb XX
  | str y=>cases hv.str_inv;cases et;exact uU I ZD (.str y) eb XX
  | tup ds=>obtain⟨a,xs,rfl,h1,h2⟩:=hv.m7;cases et;cases ZD;obtain⟨its,r,p,_⟩:=I.tuple h1;obtain⟨o,g1,g2,_⟩:=p;exact gq W.kitx_tuple I.nA ⟨o,g1,g2⟩ eb (λz=>nomatch z) XX
  | ref a=>
   cases hv.mT;have et:MX (M a)=Fa t:=et;cases e:M a with
   | none=>rw[e]at et;cases et
   | some cell=>
    rw[e]at et;have ok:=hm a cell e;cases cell with
    | lst ds=>cases et;obtain⟨xs,e1,_⟩:=ok;exact uU I ZD (.lst e1) eb XX
    | ins C fs=>cases et;obtain⟨dx,vs,e1,cl,_⟩:=ok;obtain⟨i1,i2,i3,i4⟩:=hC C Z';exact uU I ZD (.ins e1 cl i1 i2 i3 i4) eb XX
    | dk kvs=>cases et;obtain⟨vs,e1,_⟩:=ok;exact uU I ZD (.dK e1) eb XX
    | exc C=>cases et
  | ty n=>cases et
  | rl ds=>obtain⟨p,xs,rfl,h1,h2⟩:=hv.nz;cases et;cases ZD;obtain⟨its,r,⟨o,n,g1,g2,_⟩,_⟩:=I.list h1.sq;exact gq lP I.nA ⟨o,g1,g2⟩ eb (λz=>nomatch z) XX
 .exact q.elim
noncomputable def GJ:T0 D->Option (T0 Bool)
 | []=>Fa []
 | .bl b::r=>(GJ r).map (b::·)
 | _::_=>Db
theorem EJ{K:qC}:∀{ds:T0 D} {bs:T0 Bool} {xs:T0 V} {us:T0 Vl},GJ ds=Fa bs->qA K H ds xs->qK xs us->us=bs.map Value.bool
 | [],bs,xs,us,e,h,r=>by cases e;have:=h.nil_inv;subst this;cases r;rfl
 | d::ds,bs,xs,us,e,h,r=>by
  cases d with
  | bl b=>
   obtain⟨y,ys,rfl,h1,h2⟩:=h.inv;cases h1.mX;unfold GJ at e;cases q:GJ ds with
   | none=>rw[q]at e;cases e
   | some cs=>
    rw[q]at e;cases e;cases r with
    | cons r1 r2=>cases r1;rw[EJ q h2 r2];rfl
  | _=>cases e
def VU(ds:T0 D)(M:Mp)(Q:DK):Prop:=match ds with
 | [.ref a]=>(oN M a).elim False λes=>(GJ es).elim False λbs=>Q (.bl (bs.all id)) M
 | _=>False
def FJ(hc:X.calm=pc):C3 X (.builtin "all") VU:=by
 intro XQ s Y H vs us Q' I rv h;obtain⟨ds,M,Q,hd,hm,q,k⟩:=h;unfold VU at q;split at q
 .rename_i a;obtain⟨v,rfl,hv⟩:=sN hd;obtain⟨es,e0,q⟩:=qZ q;obtain⟨bs,e1,q⟩:=qZ q;cases hv.mT;obtain⟨u,rfl,ru⟩:=yK rv;cases ru;obtain⟨xs,h1,h2,_⟩:=qG hm e0;obtain⟨its,r,pl,hz⟩:=I.list h1;have eits:=EJ e1 h2 r;subst eits;have Yc:a≠s.heap.objs.size:=by obtain⟨o,_,e,_⟩:=pl;exact dP (dG e)
  refine call_all_walk (gO pl.isList ?_);refine⟨s.heap.objs.size,_,_,_,_,_,λi=>(bs[i]?).getD pc,Z',kK (A:=X.A.in1) (I.ok.hd hc) _ a Yc (bs.map Value.bool).toArray,⟨⟨_,dO _ Z',Z',Z'⟩,?_⟩,λi v s' Q E hP hQ=>?_,λh' tk hk=>?_⟩
  .obtain⟨o,n,e,c,d,q⟩:=pl;exact⟨o,dz _ e,c,n,q⟩
  .simp only[jb,dM]at hP;cases e2:bs[i]? with
   | none=>rw[e2]at hP;cases hP
   | some b=>rw[e2]at hP;cases hP;have hQ:Q ((bs[i]?).getD pc) s':=hQ;rw[e2]at hQ;exact fB hQ
  .have ea:(List.range (bs.map Value.bool).toArray.size).all (λi=>(bs[i]?).getD pc)=bs.all id:=by
    rw[dF,de];rw[gf,eV,eV];constructor
    .intro z b hb;obtain⟨i,hi,e⟩:=g9 hb;have:=z i (gp.mpr hi);rw[dg hi,e]at this;exact this
    .intro z i hi;have Zr:=gp.mp hi;rw[dg Zr];exact z _ (iw Zr)
   rw[ea];refine⟨.bl (bs.all id),H,?_,Z',k _ _ _ _ .bl hm .refl q⟩;exact I.kept (h':=h') (t':=tk) λb o e=>hk b o (by simpa using dP (dG e)) (dz _ e)
 .exact q.elim
noncomputable def Bt(x:D):T0 D->Option Nat
 | []=>Db
 | d::r=>if Q1 d x=pc then Fa 0 else(Bt x r).map (·+1)
theorem Jp{K:qC}{e:D}{w:V}(g:rZ K H e w)(fe:vi e=pc):∀{ds:T0 D} {xs:T0 V} {us:T0 Vl} {j:Nat},qA K H ds xs->qK xs us->ds.all vi=pc->Bt e ds=Fa j->
  ∃h:j<us.length,EK w us[j]=pc/\∀m (hm:m<us.length),m<j->EK w us[m]=lf
 | [],_,_,_,_,_,_,q=>by cases q
 | d::ds,_,us,j,h,r,fl,q=>by
  obtain⟨y,ys,rfl,h1,h2⟩:=h.inv;rw[eL,d9]at fl;cases r with
  | @cons _ u _ us' r1 r2=>
   have eu:EK w u=Q1 d e:=by rw[Io r1 (zF h1 fl.1),Jb h1 g fl.1 fe]
   unfold Bt at q;by_cases hq:Q1 d e=pc
   .rw[dw hq]at q;cases q;exact⟨by simp,by simpa [eu]using hq,λm _ hm=>absurd hm (Nat.not_lt_zero m)⟩
   .rw[dh hq]at q;cases q2:Bt e ds with
    | none=>rw[q2]at q;cases q
    | some j'=>
     rw[q2]at q;cases q;obtain⟨hl,e1,e2⟩:=Jp g fe h2 r2 fl.2 q2;refine⟨by simpa using hl,by simpa using e1,λm hm X3=>?_⟩;cases m with
     | zero=>simpa [eu]using hq
     | succ m=>simpa using e2 m (by simpa using hm) (by have z:m+1<j'+1:=X3;lia)
def Sg(x:D)(ds:T0 D)(M:Mp)(Q:DK):Prop:=match x,ds with
 | .ref a,[y]=>(oN M a).elim False λes=>vi y=pc/\es.all vi=pc/\(Bt y es).elim False λj=>Q (.int (j:Nat)) M
 | _,_=>False
def M3(X:Cx)(id:String)(r:D->T0 D->Mp->DK->Prop):Prop:=Xt X id λvx vs H Q'=>∃x ds M Q,rZ X.K H x vx/\qA X.K H ds vs/\HM X.K H M/\r x ds M Q/\Up X.K H Q' Q
def Ot:M3 X "list.index" Sg:=by
 intro XQ s Y H vx vs v us Q' I rx rv h;obtain⟨x,ds,M,Q,hx,hd,hm,q,k⟩:=h;unfold Sg at q;split at q
 .rename_i a y;obtain⟨es,e0,f1,f2,q⟩:=qZ q;obtain⟨j,e1,q⟩:=qZ q;cases hx.mT;cases rx;obtain⟨w,rfl,hw⟩:=sN hd;obtain⟨u,rfl,ru⟩:=yK rv;obtain⟨xs,h1,h2,rd⟩:=qG hm e0;obtain⟨hz,its,n,r,g⟩:=rd.ok I.m8;obtain⟨hl,p1,p2⟩:=Jp hw f1 h2 r f2 e1;have hlz:its.length<=Ch:=by rw[<-r.length];exact hz
  have h63:=yO;refine jN F.slot_list_index ⟨_,g,Z'⟩ F.entry_list_index (F.args_list_index_2 _ _) (SeqAt.list_indexAt a its.toArray n Db #[] u (EK w) j (by simpa using hl) (by lia) (by simpa using p1) λm hm X3=>by simpa using p2 m (by simpa using hm) X3) ⟨g,?_,?_⟩
  .intro z hz';exact wK ru (zF hw f1) r (F1 h2 f2) z (by simpa using hz')
  .exact⟨.int (j:Nat),H,I.tok _,⟨_,Z'⟩,k _ _ _ _ .int hm .refl q⟩
 .exact q.elim
def Rx(M:Mp):D->Prop
 | .ref a=>(oN M a).isSome=pc
 | _=>False
def Wu(r:D->T0 D->Mp->DK->Prop)(to:T3)(t:ya):T3:=λU M Q=>to U M λx M1=>Rx M1 x/\t U M1 λds M2=>r x ds M2 Q
def Tv{K:qC}{x:D}(hm:HM K H M)(h:rZ K H x v)(l:Rx M x):Xf K "list" v H:=by
 cases x with
 | ref a=>cases h.mT;obtain⟨ds,e⟩:=gw.mp (show(oN M a).isSome=pc from l);obtain⟨xs,h1,_⟩:=qG hm e;exact .inl ⟨Z',xs,h1⟩
 | _=>exact l.elim
def Rr{id:String}(slot:Slot "list" name id)(hty:typeOf (.builtin id)=pure (.type "method_descriptor"))(hm:M3 X id r)(ho:E3 X o ta)(ha:A3 X (e::es) t) (X6:Ps o name X.env (wp o X.env)=wp o X.env:=by rfl)
  (Y3:((xz pos (Tl (e::es) X.env)).all (λx=>!x.1)&&(IN pos (Rs [] X.env)).all (λx=>x.1.isSome)
   &&decide ((e::es).length+([]:T0 XXc).length+(if ([]:T0 XXc).isEmpty then 0 else 1)<30))=pc:=by rfl)
  (Yg:(XW.endLine==pos.line)=pc:=by rfl) (hs:BF X e es:=by rfl) (Yb:Dh X pos es:=by rfl):
  E3 X (.Call (.Attribute o name XW) (e::es) [] pos) (Wu r ta t):=PE.mono (UG PySem.F.plainAttrs_list slot hty hm ho ha X6 Y3 Yg hs Yb) λY H Q' zz=>x7 zz λU M Q hs hm ht k=>
 ⟨U,M,_,hs,hm,ht,λv H1 x M1 hx XT e1 q1=>⟨Tv XT hx q1.1,U,M1,_,hs.mono e1,XT,q1.2,λvs H2 ds M2 Y2 Ya e2 q2=>⟨x,ds,M2,Q,hx.mono e2,Y2,Ya,q2,vT (e1.trans e2) k⟩⟩⟩
def yc(ho:E3 X o ta)(ha:A3 X (e::es) t) (X6:Ps o "index" X.env (wp o X.env)=wp o X.env:=by rfl)
  (Y3:((xz pos (Tl (e::es) X.env)).all (λx=>!x.1)&&(IN pos (Rs [] X.env)).all (λx=>x.1.isSome)
   &&decide ((e::es).length+([]:T0 XXc).length+(if ([]:T0 XXc).isEmpty then 0 else 1)<30))=pc:=by rfl)
  (Yg:(XW.endLine==pos.line)=pc:=by rfl) (hs:BF X e es:=by rfl) (Yb:Dh X pos es:=by rfl):
  E3 X (.Call (.Attribute o "index" XW) (e::es) [] pos) (Wu Sg ta t):=Rr PySem.F.slot_list_index PySem.F.type_list_index Ot ho ha X6 Y3 Yg hs Yb
structure Np(K:qC)(C:Uf)(m:Str)(f:Uf):Prop where
 hg:W.specialIn K (.ref C) "__getattribute__"=Fa (Fa (.builtin "type.__getattribute__"))
 rd:W.readsIn K C (.type "type")=pc
 fc:W.findCls K (.ref C) (.type "type") m=Fa (.val (.ref f))
def P8{sp:Sp}{t:TA}{pl:Sem Bool}(cm:Np X.K C m f)(F:xK X.prog X.w X.K X.mg X.base OA k f fd ps sp)(hr:sC k X.A)(hg:Gl X x)(hm:X.mg x=Fa (.ref C))(hk:W.keepIn X.K (.ref f)=pc)(hb:vc X.K fd ps [])(ha:PA X (e::es) t) (Yd:yI x:=by decide) (Ye:BF X e es:=by rfl) (X9:Dh X pos es:=by rfl)
  (ht:wp (.Call (.Attribute (.Name x p) m XW) (e::es) [] pos) X.env=(do
   let ov<-wp (.Name x p) X.env
   XXa XW.atName
   let(f,first)<-ZB [ov] (TW ov m pl)
   XXf pos f first (xz pos (Tl (e::es) X.env)) (IN pos (Rs [] X.env))):=by rfl):
  PE X (.Call (.Attribute (.Name x p) m XW) (e::es) [] pos) (λY H Q=>t Y H λvs H1=>sp vs H1 Q E0):=by
 intro XQ s Y H Q I h;refine ko (pl:=pl) (xf I hg hm ?_ Yd) ht;refine W.method_cls I.nA cm.hg (W.cls_value I.nA cm.rd cm.fc Z' ?_);refine jd (first:=[]) (h₀:=X.base) I.ok.mod.oM hk (sS (ha pos XQ _ Y H _ (I.tok _) h) λus s2 zz=>x5 zz λvs H2 I2 r q2=>⟨I2.nA,?_⟩) Ye X9;exact EF F hr hb .nil (G4 (X:=X)) I2 r (by rw[fk];exact q2)
def Qk{pl:Sem Bool}(cm:Np X.K C m f)(F:Uj X.prog X.w X.K X.mg X.base k f fd ps sp)(hr:sC k X.A)(hg:Gl X x)(hm:X.mg x=Fa (.ref C))(hk:W.keepIn X.K (.ref f)=pc)(hb:vc X.K fd ps [])(ha:A3 X (e::es) t) (Yd:yI x:=by decide) (Ye:BF X e es:=by rfl) (X9:Dh X pos es:=by rfl)
  (ht:wp (.Call (.Attribute (.Name x p) m XW) (e::es) [] pos) X.env=(do
   let ov<-wp (.Name x p) X.env
   XXa XW.atName
   let(f,first)<-ZB [ov] (TW ov m pl)
   XXf pos f first (xz pos (Tl (e::es) X.env)) (IN pos (Rs [] X.env))):=by rfl):
  E3 X (.Call (.Attribute (.Name x p) m XW) (e::es) [] pos) (Ec sp t):=PE.mono (P8 cm F hr hg hm hk hb ha Yd Ye X9 ht) λY H Q' zz=>x7 zz λU M Q hs hm ht k=>
 ⟨U,M,_,hs,hm,ht,λvs H1 ds M1 hd XT e1 q1=>⟨ds,M1,Q,hd,XT,q1,vT e1 k⟩⟩
def qB:zn "len"=Fa (.builtin "len"):=by decide+kernel
def Ti:zn "min"=Fa (.builtin "min"):=by decide+kernel
def RL:zn "max"=Fa (.builtin "max"):=by decide+kernel
def ul:zn "isinstance"=Fa (.builtin "isinstance"):=by decide+kernel
def Fb:zn "all"=Fa (.builtin "all"):=by decide+kernel
def sI:zn "tuple"=Fa (.type "tuple"):=by decide+kernel
def tK:zn "list"=Fa (.type "list"):=by decide+kernel
def SC:zn "str"=Fa (.type "str"):=by decide+kernel
def FX:zn "dict"=Fa (.type "dict"):=by decide+kernel
def E6:zn "enumerate"=Fa (.type "enumerate"):=by decide+kernel
def Tp:zn "zip"=Fa (.type "zip"):=by decide+kernel
end
theorem _root_.L2.Inv.drawn{ch:QXQ}{T:Uf}{xs:T0 V}{h':No}{tk:Nat}(I:Inv X XQ Y H s)(YN:∀b∈ch,Bq X XQ H b)(k:∀b o,b∉ch->s.heap.get? b=Fa o->h'.get? b=Fa o)(hT:s.heap.objs.size<=T)(hx:xs.length<=Ch) (rv:qK xs its) (ht:E8 h' T its.toArray):Inv X XQ Y (upd H T (.tup xs)) {s with heap:=h',toks:=tk}:=by
 have Z3:H T=Db:=I.m8.fresh hT;have nT:∀b o,s.heap.get? b=Fa o->b≠T:=λb o e=>dP (dU (dG e) hT);refine I.step (g':=s.gens) (d':=s.drawn) (ch:=ch) (λb hb=>⟨(YN b hb).2.2.2.1,(YN b hb).2.1,(YN b hb).2.2.2.2.1,(YN b hb).2.2.2.2.2⟩) (λb o _ _ hc e _=>k b o hc e) (λb o _ _ hc e _=>⟨o.slots,k b o hc e⟩) (λb o _ e n=>by rw[qk (nT b o e)];exact n)
  (λb o hc e=>⟨o,k b o hc e⟩) (λb ys e=>by rw[qk (ra e Z3)];exact e) (λb o u e=>by rw[qk (ra e Z3)];exact e) (λb ps e=>⟨#[],by rw[qk (ra e Z3),e];simp⟩) (λm hm=>?_) (λb u e=>?_) I.bare
 .obtain⟨o,es,ep,ho,r⟩:=hm;exact⟨o,es,ep,k _ o (λz=>(YN _ z).2.1 Z') ho,r⟩
 .by_cases hb:b=T
  .subst hb;rw[qw]at e;cases e;exact⟨hx,its,rv,ht⟩
  .rw[qk hb]at e;refine(I.m8 b u e).nG (λc v hc q=>k c v (λz=>?_) q) (λc q=>by rw[qk (ra q Z3)];exact q) (λc ys q=>by rw[qk (ra q Z3)];exact q);have n:=(YN c z).1;rcases hc with y|y
   .rw[y,e]at n;cases n
   .rw[y]at n;cases n
noncomputable def WZ(K:qC)(a:Uf):It:=
 ⟨λi H=>∃xs x,zj K H a xs/\xs[i]?=Fa x,λi H x H'=>∃p y,x=.ref p/\H p=Db/\H'=upd H p (.tup [.int (i:Nat),y])/\∀xs,zj K H a xs->xs[i]?=Fa y,λi H=>∃xs,zj K H a xs/\xs.length<=i⟩
def Kg{K:qC}(a e it:Uf)(hei:e≠it):Gp P w K (.Tuple Yi n tp) (WZ K a) [e,it] e (λi h=>(∃Yp,IsEnum h e it (i:Nat) Yp)/\h.IsListIter it a i) where
 mem:=by simp
 obj:=λi h st b hb=>by
  obtain⟨⟨Yp,he⟩,o,e1,c,d⟩:=st;rcases dC.mp hb with rfl|hb
  .exact⟨_,he,λv z=>by cases z⟩
  .rw[dI.mp hb];exact⟨o,e1,λv z=>by rw[d]at z;cases z⟩
 keep:=λi h h' st k=>by obtain⟨⟨Yp,he⟩,hi⟩:=st;exact⟨⟨Yp,k e (by simp) _ he⟩,hi.at λo q=>k it (by simp) o q⟩
 item:=by
  intro X hP hw hK hc i XQ s Y H E I hf st hg;subst hP hw hK;obtain⟨xs,x,hq,hx⟩:=hg;obtain⟨its,rv,p,hz⟩:=I.list hq;obtain⟨u,hu,ru⟩:=rv.get hx;obtain⟨⟨Yp,he⟩,hi⟩:=st;refine wpAny_pyNext_enum_item he hi p.isList (x:=u) (by simpa using hu) hei λh1 ho Zs hT hsz hk=>?_;refine⟨_,Z',wpAny_letOwnedTupleGo_enum ho λh2 he2 Zv=>?_⟩;have helt:e<s.heap.objs.size:=dG he;have hilt:it<s.heap.objs.size:=by obtain⟨o,q,_⟩:=hi;exact dG q
  have kk:∀b o,b∉[e,it]->s.heap.get? b=Fa o->h2.get? b=Fa o:=λb o hb q=>(Zv.2 b λz=>hb (by simp[z])).trans (hk b o (λz=>hb (by simp[z])) (λz=>hb (by simp[z])) q);have hT2:h2.get? s.heap.objs.size=Fa {cls:=.type "tuple",data:=.seq #[.int (i:Nat) s.toks,u]}:=(Zv.2 _ (il helt)).trans hT;have Z3:H s.heap.objs.size=Db:=I.m8.fresh (dE _);have I2:=I.drawn (ch:=[e,it]) (T:=s.heap.objs.size) (xs:=[.int (i:Nat),x]) (its:=[.int (i:Nat) s.toks,u]) (h':=h2) (tk:=s.toks+1) hf kk (dE _) (by show 2<=Ch;decide) (.cons ⟨_,Z'⟩ (.cons ru .nil)) ⟨_,hT2,Z',⟨_,Z'⟩,Z'⟩;refine⟨.ref s.heap.objs.size,_,I2,Z',⟨_,x,Z',Z3,Z',λys hy=>by rw[I.nZ hy hq];exact hx⟩,⟨⟨_,by simpa using he2⟩,Zs.extBut Zv.extBut (dW hei)⟩,λb hb=>?_⟩;have YH:b<s.heap.objs.size:=by
   rcases dC.mp hb with z|z
   .rw[z];exact helt
   .rw[dI.mp z];exact hilt
  rw[qk (dP YH)];exact(hf b hb).1
 done:=by intro X hP hw hK hc i XQ s Y H E I hf st hg;subst hP hw hK;obtain⟨xs,hq,hx⟩:=hg;obtain⟨its,rv,p,hz⟩:=I.list hq;obtain⟨⟨Yp,he⟩,hi⟩:=st;have hl:=rv.length;obtain⟨f0,f1,f2,f3,f4,f5⟩:=hf it (by simp);exact wpAny_pyNext_enum_end (I.ok.hd hc) he hi p.isList (by simp;lia) λh' eb=>⟨Z',I.turned (t':=s.toks) (λb o hb q=>eb b o hb q) f0 f1 f3 f4 f5⟩
 self:=λ_ _ _ _ _ st h=>by obtain⟨⟨Yp,he⟩,_⟩:=st;exact lM he h
variable {tp:Pos}{Yi:T0 Go}{n:Nat}
def OE{a:Go}{ta:TA}(hg:Gl X "enumerate")(hm:X.mg "enumerate"=Db)(ha:PA X [a] ta)(hs:Tl [a] X.env=[(lf,wp a X.env)]:=by rfl):
  PI X (.Tuple Yi n tp) (.Call (.Name "enumerate" p) [a] [] pos) (λY H R=>ta Y H λvs H1=>∃l,vs=[.ref l]/\(∃xs,zj X.K H1 l xs)/\R (WZ X.K l) H1):=by
 intro XQ s Y H R I h;refine Call_ (xj I hg hm E6 (gb (sS (ha pos XQ s Y H _ I h) λus s1 zz=>x5 zz λvs H1 I1 r1 q1=>?_) hs Z'));obtain⟨l,e,⟨xs,hq⟩,q⟩:=q1;subst e;obtain⟨u,rfl,ru⟩:=yK r1;cases ru;obtain⟨its,rv,pl,hz⟩:=I1.list hq;refine call_enumerate_list pl.isList λh' he hi hsz hk=>?_;refine lM he ?_;have I2:Inv X XQ Y H1 {s1 with heap:=h'}:=I1.kept (t':=s1.toks) hk;refine⟨s1.heap.objs.size+1,[s1.heap.objs.size+1,s1.heap.objs.size],_,_,H1,Z',I2,Kg l _ _ (Nat.succ_ne_self _),⟨⟨_,he⟩,hi⟩,λb hb=>?_,q⟩;have YH:s1.heap.objs.size<=b:=by
  rcases dC.mp hb with z|z
  .rw[z];exact ie _
  .rw[dI.mp z];exact dE _
 exact I1.oo YH (I1.m8.fresh YH)
noncomputable def uS:Nat->T0 D->T0 D
 | _,[]=>[]
 | i,d::r=>.tup [.int (i:Nat),d]::uS (i+1) r
theorem zp:∀{ds:T0 D} {i j:Nat},(uS j ds)[i]?=(ds[i]?).map λd=>D.tup [.int ((j+i:Nat):Int),d]
 | [],i,j=>by simp[uS]
 | d::r,0,j=>by simp[uS]
 | d::r,i+1,j=>by show(uS (j+1) r)[i]?=_;rw[zp];simp only[List.getElem?_cons_succ];rw[show j+1+i=j+(i+1)by lia]
theorem vt:∀{ds:T0 D} {j:Nat},(uS j ds).length=ds.length
 | [],j=>rfl
 | d::r,j=>by simp[uS,vt]
def ML{K:qC}:G1 K H1 (WZ K a) (uS 0 ds) (λM=>oN M a=Fa ds) where
 go:=λi H M hi hm ok _=>by rw[vt]at hi;obtain⟨xs,h1,h2,_⟩:=qG hm ok;obtain⟨x,e,_⟩:=h2.get (dg hi);exact⟨xs,x,h1,e⟩
 oZ:=λi d H M x H' hd hm ok _ y=>by
  obtain⟨xs,h1,h2,_⟩:=qG hm ok;obtain⟨p,z,rfl,hp,rfl,y⟩:=y;rw[zp]at hd;cases e:ds[i]? with
  | none=>rw[e]at hd;cases hd
  | some d'=>rw[e]at hd;cases hd;obtain⟨x',e',hx⟩:=h2.get e;have w1:=y xs h1;rw[e']at w1;have w2:x'=z:=dD w1;subst w2;have ex:qY K H (upd H p (.tup [.int (i:Nat),x'])):=.new hp;refine⟨.tup (.of qw) (.cons (by rw[mH];exact .int) (.cons (hx.mono ex) .nil)),hm.add hp,ex⟩
 stop:=λH M hm ok _=>by obtain⟨xs,h1,h2,_⟩:=qG hm ok;exact⟨xs,h1,by rw[vt,h2.length];exact dE _⟩
def Tb(t:ya):Oz:=λU M R=>t U M λds M1=>match ds with
 | [.ref a]=>(oN M1 a).elim False λes=>R (uS 0 es) (λM=>oN M a=Fa es) M1
 | _=>False
def xx{a:Go}{ta:ya}(hg:Gl X "enumerate")(hm:X.mg "enumerate"=Db)(ha:A3 X [a] ta)(hs:Tl [a] X.env=[(lf,wp a X.env)]:=by rfl):I3 X (.Tuple Yi n tp) (.Call (.Name "enumerate" p) [a] [] pos) (Tb ta):=
 PI.mono (OE hg hm ha hs) λY H R' zz=>x7 zz λU M R hs hm ht k=>⟨U,M,_,hs,hm,ht,λvs H1 ds M1 hd XT e1 q1=>by
  split at q1
  .obtain⟨v,rfl,hv⟩:=sN hd;cases hv.mT;obtain⟨es,e0,q⟩:=qZ q1;obtain⟨xs,h1,h2,_⟩:=qG XT e0;exact⟨_,Z',⟨xs,h1⟩,k _ H1 _ _ M1 ML XT e1 e0 q⟩
  .exact q1.elim⟩
variable {prog:Pg}{A:Ar}{E:QQX}
def IY{it t:Uf}{i:Nat}{its:Array Vl}{x:Vl}{Q:QQX}(hi:s.heap.IsTupleIter it t i)(ht:s.heap.IsTuple t its)(hx:its[i]?=Fa x) (hQ:∀g,g.IsTupleIter it t (i+1)->Heap.SameBut it s.heap g->Q x {s with heap:=g}):pi (Tk prog w) A (Builtin.SmallTypes.nextOf (.ref it)) Q E s:=by
 obtain⟨ob,e1,e2,e3⟩:=id hi;obtain⟨ot,e4,_,nt,e5⟩:=ht;unfold Builtin.SmallTypes.nextOf;refine df (fO (name:=Str.ofString "__next__") hi.typeIs gM (fX gM hi.typeIs jD ?_ (jy _)));show pi (Tk prog w) _ (field (.ref it) 0>>=_) _ _ s;refine df (fz e1 e3 (x:=.ref t) Z' ?_);show pi (Tk prog w) _ (if (Value.ref t==Value.none)=pc then _ else _) _ _ s;rw[dh (show ¬(Value.ref t==Value.none)=pc from dH)];show pi (Tk prog w) _ (field (.ref it) 1>>=_) _ _ s;refine df (fz e1 e3 (x:=.int i 0) Z' ?_);show pi (Tk prog w) _ (seqItems? (.ref t)>>=_) _ _ s;refine df (gD e4 e5 ?_);simp only[jG,hx];refine df (io e1 e3 (by simp) (dA ⟨x,Z',dA (hQ _ ⟨_,fL _ e1 (Obj.isFreed_of_fields (lC e3 _)),(Obj.cls_mapFields ..).trans e2,?_⟩ (kZ ..))⟩));rw[lC e3];simp[u8]
def CJ{it t:Uf}{i:Nat}{its:Array Vl}{Q:QQX}(hh:A.handled=Db)(hi:s.heap.IsTupleIter it t i)(ht:s.heap.IsTuple t its)(hx:its[i]?=Db) (hE:∀g e,Heap.ExtBut it s.heap g->(∃o,g.get? e=Fa o/\o.cls=.type "StopIteration")->E (.ref e) {s with heap:=g}):pi (Tk prog w) A (Builtin.SmallTypes.nextOf (.ref it)) Q E s:=by
 obtain⟨ob,e1,e2,e3⟩:=id hi;obtain⟨ot,e4,_,nt,e5⟩:=ht;unfold Builtin.SmallTypes.nextOf;refine df (fO (name:=Str.ofString "__next__") hi.typeIs gM (fX gM hi.typeIs jD ?_ (jy _)));show pi (Tk prog w) _ (field (.ref it) 0>>=_) _ _ s;refine df (fz e1 e3 (x:=.ref t) Z' ?_);show pi (Tk prog w) _ (if (Value.ref t==Value.none)=pc then _ else _) _ _ s;rw[dh (show ¬(Value.ref t==Value.none)=pc from dH)];show pi (Tk prog w) _ (field (.ref it) 1>>=_) _ _ s;refine df (fz e1 e3 (x:=.int i 0) Z' ?_);show pi (Tk prog w) _ (seqItems? (.ref t)>>=_) _ _ s;refine df (gD e4 e5 ?_);simp only[jG,hx];refine df (kI (df (io e1 e3 (by simp) ?_)));show pi (Tk prog w) _ (newExc (.type "StopIteration") []>>=_) _ _ _;refine df ?_;simp only[newExc,newTuple];refine df (fZ ?_ (by size_fits));refine df (m:=firstArgMember _ _) (wpAny_of_eq (a:=Value.none) (by first|rfl|(simp only[firstArgMember];rfl)) ?_);refine fZ ?_ (by size_fits);simp only[raiseNew];refine df (wpAny_handled ?_)
 first|rw[show A.in1.handled=Db from hh]|rw[hh]
 refine df (dA (wpAny_throw (hE _ _ (((kZ ..).extBut.push _).push _) ⟨_,dO _ Z',Z'⟩)))
def yo{prog:Pg}{w:Wo}{A:Ar}(hh:A.handled=Db)(it t:Uf)(Yc:t≠it)(its:Array Vl):
  Draws prog w A it [it,t] its.size (λi v=>its[i]?=Fa v) (λi h=>h.IsTupleIter it t i/\h.IsTuple t its) where
 live:=λi h st=>let⟨o,ho,_⟩:=st.1;⟨o,ho⟩
 frame:=λi h g st hk=>by obtain⟨⟨o,e1,e2⟩,⟨o',e3,e4⟩⟩:=st;exact⟨⟨o,hk it (by simp) o e1,e2⟩,⟨o',hk t (by simp) o' e3,e4⟩⟩
 item:=λi s Q E hi st hQ=>IY st.1 st.2 (x:=its[i]) (by simp[hi]) λg hg hs=>hQ _ g s.toks (by simp[hi]) ⟨hg,st.2.extBut hs.extBut Yc⟩ hs
 done:=λs Q E st hE=>CJ hh st.1 st.2 (by simp) hE
structure Ah(z TI TO i1 i2:Uf)(f1 f2:QXQ):Prop where
 a1:TI≠z
 a2:TO≠z
 a3:i1≠z
 a4:i2≠z
 a5:TI≠TO
 a6:TI≠i1
 a7:TI≠i2
 a8:TO≠i1
 a9:TO≠i2
 pE:i1≠i2
 b1:z∉f1
 b2:TO∉f1
 b3:i2∉f1
 c1:z∉f2
 c2:TO∉f2
 c3:i1∉f2
variable {z TI TO i1 i2:Uf}{f1 f2:QXQ}{n1 n2 k1 k2:Nat}{P1 P2:Nat→Vl→Prop}{S1 S2:Nat→No→Prop}
section
variable {a b:Vl}
def sG{St:Nat->No->Prop}(Dr:Draws prog w A it fp n Pt St){i:Nat}{h g:No}{c:Uf}(st:St i h)(hs:Heap.SameBut c h g)(hc:c∉fp):St i g:=
 Dr.frame _ _ _ st λd hd o e=>(hs.2 d λq=>hc (q ▸ hd)).trans e
def KQ{Q:QQX}(D1:Draws prog w A i1 f1 n1 P1 S1)(D2:Draws prog w A i2 f2 n2 P2 S2)(X8:Ah z TI TO i1 i2 f1 f2)(hz:XXj s.heap z TI TO .none)(hI:wP s.heap TI (.ref i1) (.ref i2))(hO:wP s.heap TO a b) (Yv:S1 k1 s.heap) (Yh:S2 k2 s.heap) (l1:k1<n1) (l2:k2<n2) (hQ:∀x y g tk,P1 k1 x->P2 k2 y->XXj g z TI TO (u8 s.heap.objs.size)->wP g TO x y->S1 (k1+1) g->S2 (k2+1) g->wP g s.heap.objs.size x y->g.objs.size=s.heap.objs.size+1->
   (∀c o,c≠z->c≠TO->c≠i1->c≠i2->s.heap.get? c=Fa o->g.get? c=Fa o)->Q (.ref s.heap.objs.size) {s with heap:=g,toks:=tk}):
  pi (Tk prog w) A (Builtin.«zip.__next__» ⟨[.ref z],[]⟩) (λXX s'=>∃v,XX=.done (.ret v)/\Q v s') E s:=by
 show pi (Tk prog w) A (field (.ref z) 2>>=_) _ _ _;refine df (fz hz Z' (x:=.bool lf) Z' ?_);show pi (Tk prog w) A (field (.ref z) 3>>=_) _ _ _;refine df (fz hz Z' (x:=.ref TI) Z' (df (gD hI Z' ?_)));show pi (Tk prog w) A (Builtin.SmallTypes.ownedTupleIsFree (.ref z)>>=_) _ _ _;refine df ?_;unfold Builtin.SmallTypes.ownedTupleIsFree;refine df (fz hz Z' (x:=.none) Z' (dA ?_));simp only[jv];refine df (kI (df (fz hz Z' (x:=.ref TO) Z' (df (gH hz (by simp) λg1 z1 ZE=>?_)))));replace z1:XXj g1 z TI TO .ellipsis:=z1;refine df ?_;simp only[ma,mq,kl,kB];refine df (df (iW ?_));show pi (Tk prog w) A (Builtin.SmallTypes.nextOf (.ref i1)>>=_) _ _ _;have ZF:S1 k1 g1:=sG D1 Yv ZE X8.b1;refine df (D1.item k1 _ _ _ l1 ZF λx g2 tk2 px st1b YQ=>dA ?_);replace YQ:Heap.SameBut i1 g1 g2:=YQ;have o2:wP g2 TO a b:=YQ.extBut _ _ X8.a8 (ZE.extBut _ _ X8.a2 hO);refine df (gD o2 Z' (df (jg o2 λg3 o3 YZ=>?_)));replace o3:wP g3 TO x b:=o3;replace YZ:Heap.SameBut TO g2 g3:=YZ;refine df (lR (dA (df (df (iW ?_)))));show pi (Tk prog w) A (Builtin.SmallTypes.nextOf (.ref i2)>>=_) _ _ _;have Z4:S2 k2 g3:=sG D2 (sG D2 (sG D2 Yh ZE X8.c1) YQ X8.c3) YZ X8.c2;refine df (D2.item k2 _ _ _ l2 Z4 λy g4 tk4 py st2b ZN=>dA ?_);replace ZN:Heap.SameBut i2 g3 g4:=ZN;have o4:wP g4 TO x b:=ZN.extBut _ _ X8.a9 o3;refine df (gD o4 Z' (df (jg o4 λg5 o5 ZO=>?_)));replace o5:wP g5 TO x y:=o5;replace ZO:Heap.SameBut TO g4 g5:=ZO;refine df (lR (dA (dA (df (gD o5 Z' (df (wpAny_newTuple ?_)))))));have esz:g5.objs.size=s.heap.objs.size:=by rw[ZO.1,ZN.1,YZ.1,YQ.1,ZE.1]
 have z5:XXj g5 z TI TO .ellipsis:=ZO.extBut _ _ X8.a2.symm (ZN.extBut _ _ X8.a4.symm (YZ.extBut _ _ X8.a2.symm (YQ.extBut _ _ X8.a3.symm z1)));have kp:∀c o,c≠z->c≠TO->c≠i1->c≠i2->s.heap.get? c=Fa o->g5.get? c=Fa o:=λc o q1 q2 q3 q4 q=>ZO.extBut _ _ q2 (ZN.extBut _ _ q4 (YZ.extBut _ _ q2 (YQ.extBut _ _ q3 (ZE.extBut _ _ q1 q))));have st1c:S1 (k1+1) g5:=sG D1 (sG D1 (sG D1 st1b YZ X8.b2) ZN X8.b3) ZO X8.b2;have st2c:S2 (k2+1) g5:=sG D2 st2b ZO X8.c2;have zlt:z<g5.objs.size:=dG z5;show pi (Tk prog w) A (Builtin.SmallTypes.ownedTupleHandOut (.ref z) (.ref g5.objs.size)>>=_) _ _ _;refine df ?_;unfold Builtin.SmallTypes.ownedTupleHandOut;have z6:XXj (g5.push {cls:=.type "tuple",data:=.seq #[x,y]}) z TI TO .ellipsis:=dz _ z5;refine df (gH z6 (by simp) λg7 z7 sb7=>?_);replace z7:XXj g7 z TI TO (u8 g5.objs.size):=z7;refine gH z7 (by simp) λg8 z8 sb8=>?_;replace z8:XXj g8 z TI TO (u8 g5.objs.size):=z8;have up:∀c o,c≠z->g5.get? c=Fa o->g8.get? c=Fa o:=λc o q1 q=>sb8.extBut _ _ q1 (sb7.extBut _ _ q1 (dz _ q));have tu:wP g8 g5.objs.size x y:=sb8.extBut _ _ (il zlt) (sb7.extBut _ _ (il zlt) (dO _ Z'));have es8:g8.objs.size=g5.objs.size+1:=by rw[sb8.1,sb7.1,fS]
 rw[esz]at z8 tu es8;refine dA ⟨_,Z',?_⟩;show Q (.ref g5.objs.size) _;rw[esz];exact hQ x y g8 _ px py z8 (up _ _ X8.a2 o5) (D1.frame _ _ _ st1c λc hc o q=>up c o (λr=>X8.b1 (r ▸ hc)) q) (D2.frame _ _ _ st2c λc hc o q=>up c o (λr=>X8.c1 (r ▸ hc)) q) tu es8 λc o q1 q2 q3 q4 q=>up c o q1 (kp c o q1 q2 q3 q4 q)
def Nv{Q:Fin->Sd->Prop}(D1:Draws prog w A i1 f1 n1 P1 S1)(D2:Draws prog w A i2 f2 n2 P2 S2)(X8:Ah z TI TO i1 i2 f1 f2)(hz:XXj s.heap z TI TO .none)(hI:wP s.heap TI (.ref i1) (.ref i2))(hO:wP s.heap TO a b) (Yv:S1 k1 s.heap) (Yh:S2 k1 s.heap) (hend:k1=n1\/(k1<n1/\k1=n2)) (hE:∀g e,(∀c o,c≠z->c≠TO->c≠i1->c≠i2->s.heap.get? c=Fa o->g.get? c=Fa o)->(∃o,g.get? e=Fa o/\o.cls=.type "StopIteration")->∀tk,E (.ref e) {s with heap:=g,toks:=tk}):
  pi (Tk prog w) A (Builtin.«zip.__next__» ⟨[.ref z],[]⟩) Q E s:=by
 show pi (Tk prog w) A (field (.ref z) 2>>=_) _ _ _;refine df (fz hz Z' (x:=.bool lf) Z' ?_);show pi (Tk prog w) A (field (.ref z) 3>>=_) _ _ _;refine df (fz hz Z' (x:=.ref TI) Z' (df (gD hI Z' ?_)));show pi (Tk prog w) A (Builtin.SmallTypes.ownedTupleIsFree (.ref z)>>=_) _ _ _;refine df ?_;unfold Builtin.SmallTypes.ownedTupleIsFree;refine df (fz hz Z' (x:=.none) Z' (dA ?_));simp only[jv];refine df (kI (df (fz hz Z' (x:=.ref TO) Z' (df (gH hz (by simp) λg1 z1 ZE=>?_)))));replace z1:XXj g1 z TI TO .ellipsis:=z1;refine df ?_;simp only[ma,mq,kl,kB];refine df (df (iW ?_));show pi (Tk prog w) A (Builtin.SmallTypes.nextOf (.ref i1)>>=_) _ _ _;have ZF:S1 k1 g1:=sG D1 Yv ZE X8.b1;rcases hend with he|⟨X3,he⟩
 .rw[he]at ZF;refine df (D1.done _ _ _ ZF λg2 e YQ hx=>?_);obtain⟨oe,g,hce⟩:=hx;have z2:XXj g2 z TI TO .ellipsis:=YQ _ _ X8.a3.symm z1;have hez:e≠z:=λq=>by subst q;rw[z2]at g;cases g;simp at hce
  exact gH z2 (by simp) λg3 _ YZ=>hE g3 e (λc o q1 _ q3 _ q=>YZ.extBut _ _ q1 (YQ _ _ q3 (ZE.extBut _ _ q1 q))) ⟨oe,YZ.extBut _ _ hez g,hce⟩ _
 .refine df (D1.item k1 _ _ _ X3 ZF λx g2 tk2 px st1b YQ=>dA ?_);replace YQ:Heap.SameBut i1 g1 g2:=YQ;have o2:wP g2 TO a b:=YQ.extBut _ _ X8.a8 (ZE.extBut _ _ X8.a2 hO);refine df (gD o2 Z' (df (jg o2 λg3 o3 YZ=>?_)));replace YZ:Heap.SameBut TO g2 g3:=YZ;refine df (lR (dA (df (df (iW ?_)))));show pi (Tk prog w) A (Builtin.SmallTypes.nextOf (.ref i2)>>=_) _ _ _;have Z4:S2 k1 g3:=sG D2 (sG D2 (sG D2 Yh ZE X8.c1) YQ X8.c3) YZ X8.c2;rw[he]at Z4;refine df (D2.done _ _ _ Z4 λg4 e ZN hx=>?_);obtain⟨oe,g,hce⟩:=hx;have z4:XXj g4 z TI TO .ellipsis:=ZN _ _ X8.a4.symm (YZ.extBut _ _ X8.a2.symm (YQ.extBut _ _ X8.a3.symm z1));have hez:e≠z:=λq=>by subst q;rw[z4]at g;cases g;simp at hce
  exact gH z4 (by simp) λg5 _ ZO=>hE g5 e (λc o q1 q2 q3 q4 q=>ZO.extBut _ _ q1 (ZN _ _ q4 (YZ.extBut _ _ q2 (YQ.extBut _ _ q3 (ZE.extBut _ _ q1 q))))) ⟨oe,ZO.extBut _ _ hez g,hce⟩ _
end
abbrev V7(h:No)(t:Uf):No:=h.push {cls:=.type "tuple_iterator",data:=.fields #[.ref t,.int 0 0]}
abbrev Wc(h:No)(t u:Uf):No:=(V7 h t).push {cls:=.type "tuple_iterator",data:=.fields #[.ref u,.int 0 0]}
abbrev We(h:No)(t u:Uf):No:=(Wc h t u).push {cls:=.type "tuple",data:=.seq #[.ref h.objs.size,.ref (V7 h t).objs.size]}
abbrev V8(h:No)(t u:Uf):No:=(We h t u).push {cls:=.type "tuple",data:=.seq #[.none,.none]}
abbrev Um(h:No)(t u:Uf):No:=(V8 h t u).push {cls:=.type "zip",data:=.fields #[.none,.bool lf,.bool lf,.ref (Wc h t u).objs.size,.ref (We h t u).objs.size]}
def Du(t u:Uf)(xs ys:Array Vl):
  Meets (Builtin.«zip.__new__» ⟨[.type "zip",.ref t,.ref u],[]⟩) (λ_ R s=>s.heap.IsTuple t xs/\s.heap.IsTuple u ys/\R (.ok (.ret (.ref (V8 s.heap t u).objs.size))) {s with heap:=Um s.heap t u}):=
 .of_wp λprog w A R s h=>by
  obtain⟨hp,g,d,tk,os⟩:=s;obtain⟨e1,e2,h⟩:=h;have Z1:=sub_zip;have q1:Heap.IsTuple (Shared.heap ⟨hp,g,d,tk,os⟩) t xs:=e1;have q2:Heap.IsTuple (Shared.heap ⟨hp.push {cls:=.type "tuple_iterator",data:=.fields #[.ref t,.int 0 0]},g,d,tk,os⟩) u ys:=Heap.IsTuple.push e2 _
  wp_walk using iJ q1,iJ q2
  exact⟨_,Z',h⟩
def EW{t u:Uf}{xs ys:Array Vl}{Q:QQX}(ht:s.heap.IsTuple t xs)(hu:s.heap.IsTuple u ys) (h:∀g,XXj g (s.heap.objs.size+4) (s.heap.objs.size+2) (s.heap.objs.size+3) .none->wP g (s.heap.objs.size+2) (.ref s.heap.objs.size) (.ref (s.heap.objs.size+1))->wP g (s.heap.objs.size+3) .none .none->
   g.IsTupleIter s.heap.objs.size t 0->g.IsTupleIter (s.heap.objs.size+1) u 0->(∀c o,s.heap.get? c=Fa o->g.get? c=Fa o)->Q (.ref (s.heap.objs.size+4)) {s with heap:=g}):
  pi (Tk prog w) A (call (.type "zip") [.ref t,.ref u]) Q E s:=by
 refine callType_new F.called_zip (by decide) (F.typeCall_zip_2 _ _) (F.newCall_zip_2 _ _) (λobj=>F.args_object_init_3 obj _ _) F.entry_zip_new (Du t u xs ys) ⟨ht,hu,?_⟩;have m1:(V7 s.heap t).objs.size=s.heap.objs.size+1:=fS ..;have m2:(Wc s.heap t u).objs.size=s.heap.objs.size+2:=by rw[fS,m1]
 have m3:(We s.heap t u).objs.size=s.heap.objs.size+3:=by rw[fS,m2]
 have m4:(V8 s.heap t u).objs.size=s.heap.objs.size+4:=by rw[fS,m3]
 have up:∀{h:No} {c:Uf} {o p:Obj},h.get? c=Fa o->(h.push p).get? c=Fa o:=λq=>dz _ q;have r5:(Um s.heap t u).get? (V8 s.heap t u).objs.size=Fa _:=dO _ Z';have r4:(Um s.heap t u).get? (We s.heap t u).objs.size=Fa _:=up (dO _ Z');have r3:(Um s.heap t u).get? (Wc s.heap t u).objs.size=Fa _:=up (up (dO _ Z'));have r2:(Um s.heap t u).get? (V7 s.heap t).objs.size=Fa _:=up (up (up (dO _ Z')));have r1:(Um s.heap t u).get? s.heap.objs.size=Fa _:=up (up (up (up (dO _ Z'))));show _/\_;rw[m2,m3,m4]at r5;rw[m1,m2]at r3;rw[m3]at r4;rw[m1]at r2;rw[m4];exact⟨⟨_,r5,Z'⟩,h _ r5 r3 r4 ⟨_,r1,Z',Z'⟩ ⟨_,r2,Z',Z'⟩ λc o q=>up (up (up (up (up q))))⟩
def Gy{z TI TO i1 i2:Uf}{n1 n2 k:Nat}{P1 P2:Nat->Vl->Prop}{S1 S2:Nat->No->Prop}{Q:Option Vl->Sd->Prop}(D1:Draws prog w A.in1 i1 f1 n1 P1 S1)(D2:Draws prog w A.in1 i2 f2 n2 P2 S2)(X8:Ah z TI TO i1 i2 f1 f2) (hz:XXj s.heap z TI TO .none) (hI:wP s.heap TI (.ref i1) (.ref i2)) (hO:wP s.heap TO a b) (Yv:S1 k s.heap) (Yh:S2 k s.heap) (l1:k<n1) (l2:k<n2) (hQ:∀x y g tk,P1 k x->P2 k y->XXj g z TI TO (u8 s.heap.objs.size)->wP g TO x y->S1 (k+1) g->S2 (k+1) g->wP g s.heap.objs.size x y->g.objs.size=s.heap.objs.size+1->
   (∀c o,c≠z->c≠TO->c≠i1->c≠i2->s.heap.get? c=Fa o->g.get? c=Fa o)->Q (Fa (.ref s.heap.objs.size)) {s with heap:=g,toks:=tk}):pi (Tk prog w) A (pyNext (.ref z)) Q E s:=by
 have hT:s.TypeIs (.ref z) "zip":=⟨_,hz,Z'⟩;unfold pyNext;refine df (iX (fO (name:=Str.ofString "__next__") hT jh (fX jh hT me ?_ (lN _))));exact KQ D1 D2 X8 hz hI hO Yv Yh l1 l2 λx y g tk q1 q2 q3 q4 q5 q6 q7 q8 q9=>dA (hQ x y g tk q1 q2 q3 q4 q5 q6 q7 q8 q9)
def Ba{z TI TO i1 i2:Uf}{n1 n2 k:Nat}{P1 P2:Nat->Vl->Prop}{S1 S2:Nat->No->Prop}{Q:Option Vl->Sd->Prop}(D1:Draws prog w A.in1 i1 f1 n1 P1 S1)(D2:Draws prog w A.in1 i2 f2 n2 P2 S2)(X8:Ah z TI TO i1 i2 f1 f2) (hz:XXj s.heap z TI TO .none) (hI:wP s.heap TI (.ref i1) (.ref i2)) (hO:wP s.heap TO a b) (Yv:S1 k s.heap) (Yh:S2 k s.heap) (hend:k=n1\/(k<n1/\k=n2)) (hQ:∀g tk,(∀c o,c≠z->c≠TO->c≠i1->c≠i2->s.heap.get? c=Fa o->g.get? c=Fa o)->Q Db {s with heap:=g,toks:=tk}):pi (Tk prog w) A (pyNext (.ref z)) Q E s:=by
 have hT:s.TypeIs (.ref z) "zip":=⟨_,hz,Z'⟩;unfold pyNext;refine df (iX (fO (name:=Str.ofString "__next__") hT jh (fX jh hT me (Nv D1 D2 X8 hz hI hO Yv Yh hend λg e kp hx tk=>?_) (lN _))));obtain⟨o,e1,e2⟩:=hx;exact df (wpAny_isInstance (T:="StopIteration") (b:=true) ⟨o,e1,e2⟩ isSubtype_stop (dA (hQ g tk kp)))
def EQ(I:Inv X XQ Y H s)(f:Bq X XQ H b)(q:vn X.K H a xs):a≠b:=by
 rintro rfl
 rcases q with q|⟨o,its,n,hk,_⟩
 .have z:=f.1;rcases q with q|⟨u,q⟩<;>(rw[q]at z;cases z)
 .have e:=I.mod.oM a o hk;rcases f.2.2.2.1 with z|z
  .exact I.ok.n9 a o e z
  .exact absurd (dU (dG e) (eE I.ok.ow z)) (fu _)
noncomputable def Wy(K:qC)(a b:Uf):It:=
 ⟨λi H=>∃xs ys x y,vn K H a xs/\vn K H b ys/\xs[i]?=Fa x/\ys[i]?=Fa y,λi H v H'=>∃p x y,v=.ref p/\H p=Db/\H'=upd H p (.tup [x,y])/\(∀xs,vn K H a xs->xs[i]?=Fa x)/\(∀ys,vn K H b ys->ys[i]?=Fa y),λi H=>∃xs ys,vn K H a xs/\vn K H b ys/\i=min xs.length ys.length⟩
def Nl{P:Pg}{w:Wo}{K:qC}{Yi:T0 Go}{n:Nat}{tp:Pos}(a b z TI TO i1 i2:Uf)(a1:TI≠z)(a2:TO≠z)(a3:i1≠z)(a4:i2≠z)(a5:TI≠TO)(a6:TI≠i1)(a7:TI≠i2)(a8:TO≠i1)(a9:TO≠i2)(pE:i1≠i2):
  Gp P w K (.Tuple Yi n tp) (Wy K a b) [z,TI,TO,i1,i2] z (λi h=>XXj h z TI TO .none/\wP h TI (.ref i1) (.ref i2)/\(∃u v,wP h TO u v)/\h.IsTupleIter i1 a i/\h.IsTupleIter i2 b i) where
 mem:=by simp
 obj:=λi h st c hc=>by
  obtain⟨h1,h2,⟨u,v,h3⟩,⟨o4,h4,_,d4⟩,⟨o5,h5,_,d5⟩⟩:=st;simp only[dC,dQ,fv]at hc;rcases hc with rfl|rfl|rfl|rfl|rfl
  .exact⟨_,h1,λv z=>by cases z⟩
  .exact⟨_,h2,λv z=>by cases z⟩
  .exact⟨_,h3,λv z=>by cases z⟩
  .exact⟨_,h4,λv z=>by rw[d4]at z;cases z⟩
  .exact⟨_,h5,λv z=>by rw[d5]at z;cases z⟩
 keep:=λi h h' st k=>by obtain⟨h1,h2,⟨u,v,h3⟩,⟨o4,h4,c4⟩,⟨o5,h5,c5⟩⟩:=st;exact⟨k z (by simp) _ h1,k TI (by simp) _ h2,⟨u,v,k TO (by simp) _ h3⟩,⟨o4,k i1 (by simp) _ h4,c4⟩,⟨o5,k i2 (by simp) _ h5,c5⟩⟩
 item:=by
  intro X hP hw hK hc i XQ s Y H E I hf st hg;subst hP hw hK;obtain⟨xs,ys,x,y,hx,hy,ex,ey⟩:=hg;obtain⟨its,rx,px,_⟩:=I.tuple hx;obtain⟨ZL,ry,py,_⟩:=I.tuple hy;obtain⟨u,eu,ru⟩:=rx.get ex;obtain⟨v,ev,rv⟩:=ry.get ey;obtain⟨h1,h2,⟨p,q,h3⟩,h4,h5⟩:=st;have hh:X.A.in1.handled=Db:=I.ok.hd hc;have fa:∀c∈[z,TI,TO,i1,i2],a≠c:=λc hc=>EQ I (hf c hc) hx;have fb:∀c∈[z,TI,TO,i1,i2],b≠c:=λc hc=>EQ I (hf c hc) hy;have X8:Ah z TI TO i1 i2 [i1,a] [i2,b]:=⟨a1,a2,a3,a4,a5,a6,a7,a8,a9,pE,by
   simp only[dC,dQ,fv,fV];exact⟨dW a3,dW (fa z (by simp))⟩,by
   simp only[dC,dQ,fv,fV];exact⟨a8,dW (fa TO (by simp))⟩,by
   simp only[dC,dQ,fv,fV];exact⟨dW pE,dW (fa i2 (by simp))⟩,by
   simp only[dC,dQ,fv,fV];exact⟨dW a4,dW (fb z (by simp))⟩,by
   simp only[dC,dQ,fv,fV];exact⟨a9,dW (fb TO (by simp))⟩,by
   simp only[dC,dQ,fv,fV];exact⟨pE,dW (fb i1 (by simp))⟩⟩
  have l1:i<its.toArray.size:=by
   have:=(dv.mp eu).1
   simpa using this
  have l2:i<ZL.toArray.size:=by
   have:=(dv.mp ev).1
   simpa using this
  refine Gy (yo hh i1 a (fa i1 (by simp)) its.toArray) (yo hh i2 b (fb i2 (by simp)) ZL.toArray) X8 h1 h2 h3 ⟨h4,px⟩ ⟨h5,py⟩ l1 l2 λx' y' g tk e1 e2 z1 o1 s1 s2 t1 sz kp=>?_;have e1':x'=u:=by
   have:its[i]?=Fa x':=by simpa using e1
   rw[eu]at this;exact(dD this).symm
  have ZX:y'=v:=by
   have:ZL[i]?=Fa y':=by simpa using e2
   rw[ev]at this;exact(dD this).symm
  subst e1' ZX;refine⟨_,Z',wpAny_letOwnedTupleGo_zip z1 λg2 z2 sb=>?_⟩;have zlt:z<s.heap.objs.size:=dG h1;have kk:∀c o,c∉[z,TI,TO,i1,i2]->s.heap.get? c=Fa o->g2.get? c=Fa o:=λc o hc e=>by simp only[dC,dQ,fv,fV]at hc;exact(sb.2 c hc.1).trans (kp c o hc.1 hc.2.2.1 hc.2.2.2.1 hc.2.2.2.2 e)
  have t2:g2.get? s.heap.objs.size=Fa {cls:=.type "tuple",data:=.seq #[x',y']}:=(sb.2 _ (il zlt)).trans t1;have Z3:H s.heap.objs.size=Db:=I.m8.fresh (dE _);have I2:=I.drawn (ch:=[z,TI,TO,i1,i2]) (T:=s.heap.objs.size) (xs:=[x,y]) (its:=[x',y']) (h':=g2) (tk:=tk) hf kk (dE _) (by show 2<=Ch;decide) (.cons ru (.cons rv .nil)) ⟨_,t2,Z',⟨_,Z'⟩,Z'⟩;refine⟨.ref s.heap.objs.size,_,I2,Z',⟨_,x,y,Z',Z3,Z',λxs' hx'=>by rw[I.nF hx' hx];exact ex,λys' hy'=>by rw[I.nF hy' hy];exact ey⟩,?_,λc hc=>?_⟩
  .obtain⟨o4,g4,c4⟩:=s1.1;obtain⟨o5,g5,c5⟩:=s2.1;exact⟨z2,(sb.2 _ a1).trans (kp _ _ a1 a5 a6 a7 h2),⟨_,_,(sb.2 _ a2).trans o1⟩,⟨o4,(sb.2 _ a3).trans g4,c4⟩,⟨o5,(sb.2 _ a4).trans g5,c5⟩⟩
  .have n0:=(hf c hc).1;obtain⟨o,eo⟩:∃o,s.heap.get? c=Fa o:=by
    obtain⟨o4,g4,_⟩:=h4;obtain⟨o5,g5,_⟩:=h5;simp only[dC,dQ,fv]at hc;rcases hc with rfl|rfl|rfl|rfl|rfl
    .exact⟨_,h1⟩
    .exact⟨_,h2⟩
    .exact⟨_,h3⟩
    .exact⟨_,g4⟩
    .exact⟨_,g5⟩
   rw[qk (dP (dG eo))];exact n0
 done:=by
  intro X hP hw hK hc i XQ s Y H E I hf st hg;subst hP hw hK;obtain⟨xs,ys,hx,hy,hi⟩:=hg;obtain⟨its,rx,px,_⟩:=I.tuple hx;obtain⟨ZL,ry,py,_⟩:=I.tuple hy;obtain⟨h1,h2,⟨p,q,h3⟩,h4,h5⟩:=st;have hh:X.A.in1.handled=Db:=I.ok.hd hc;have fa:∀c∈[z,TI,TO,i1,i2],a≠c:=λc hc=>EQ I (hf c hc) hx;have fb:∀c∈[z,TI,TO,i1,i2],b≠c:=λc hc=>EQ I (hf c hc) hy;have X8:Ah z TI TO i1 i2 [i1,a] [i2,b]:=⟨a1,a2,a3,a4,a5,a6,a7,a8,a9,pE,by
   simp only[dC,dQ,fv,fV];exact⟨dW a3,dW (fa z (by simp))⟩,by
   simp only[dC,dQ,fv,fV];exact⟨a8,dW (fa TO (by simp))⟩,by
   simp only[dC,dQ,fv,fV];exact⟨dW pE,dW (fa i2 (by simp))⟩,by
   simp only[dC,dQ,fv,fV];exact⟨dW a4,dW (fb z (by simp))⟩,by
   simp only[dC,dQ,fv,fV];exact⟨a9,dW (fb TO (by simp))⟩,by
   simp only[dC,dQ,fv,fV];exact⟨pE,dW (fb i1 (by simp))⟩⟩
  have e1:=rx.length;have e2:=ry.length;refine Ba (yo hh i1 a (fa i1 (by simp)) its.toArray) (yo hh i2 b (fb i2 (by simp)) ZL.toArray) X8 h1 h2 h3 ⟨h4,px⟩ ⟨h5,py⟩ (by simp only[dF];lia) λg tk kp=>⟨Z',?_⟩;have kk:∀c o,c∉[z,TI,TO,i1,i2]->s.heap.get? c=Fa o->g.get? c=Fa o:=λc o hc e=>by simp only[dC,dQ,fv,fV]at hc;exact kp c o hc.1 hc.2.2.1 hc.2.2.2.1 hc.2.2.2.2 e
  refine I.step (g':=s.gens) (d':=s.drawn) (t':=tk) (ch:=[z,TI,TO,i1,i2]) (λc hc=>⟨(hf c hc).2.2.2.1,(hf c hc).2.1,(hf c hc).2.2.2.2.1,(hf c hc).2.2.2.2.2⟩) ?_ ?_ (λc o _ e n=>n) ?_ (λ_ _ e=>e) (λ_ _ _ e=>e) (λc ps e=>⟨#[],by rw[e];simp⟩) ?_ ?_ I.bare
  .exact λc o _ _ hc e _=>kk c o hc e
  .exact λc o _ _ hc e _=>⟨o.slots,kk c o hc e⟩
  .exact λc o hc e=>⟨o,kk c o hc e⟩
  .intro m hm;obtain⟨o,es,ep,ho,r⟩:=hm;exact⟨o,es,ep,kk _ o (λy=>(hf _ y).2.1 Z') ho,r⟩
  .intro c u e;refine(I.m8 c u e).nG (λd v hd q=>kk d v (λy=>?_) q) (λ_ q=>q) λ_ _ q=>q;have n:=(hf d y).1;rcases hd with x|x
   .rw[x,e]at n;cases n
   .rw[x]at n;cases n
 self:=λ_ _ _ _ _ st h=>mf st.1 h
def Sk{a b:Go}{ta:TA}(hg:Gl X "zip")(hm:X.mg "zip"=Db)(ha:PA X [a,b] ta)(hs:Tl [a,b] X.env=[(lf,wp a X.env),(lf,wp b X.env)]:=by rfl)(Zv:Tl [b] X.env=[(lf,wp b X.env)]:=by rfl):
  PI X (.Tuple Yi n tp) (.Call (.Name "zip" p) [a,b] [] pos) (λY H R=>ta Y H λvs H1=>∃l m,vs=[.ref l,.ref m]/\(∃xs,vn X.K H1 l xs)/\(∃xs,vn X.K H1 m xs)/\R (Wy X.K l m) H1):=by
 intro XQ s Y H R I h;refine Call_ (xj I hg hm Tp (gb (sS (ha pos XQ s Y H _ I h) λus s1 zz=>x5 zz λvs H1 I1 r1 q1=>?_) (by rw[hs,Zv]) (by rw[Zv];rfl)));obtain⟨l,m,e,⟨xs,hx⟩,⟨ys,hy⟩,q⟩:=q1;subst e;obtain⟨u,v,rfl,ru,rv⟩:=GZ r1;cases ru;cases rv;obtain⟨its,_,px,_⟩:=I1.tuple hx;obtain⟨ZL,_,py,_⟩:=I1.tuple hy;refine EW px py λg h1 h2 h3 h4 h5 hk=>mf h1 ?_;have I2:Inv X XQ Y H1 {s1 with heap:=g}:=I1.kept (t':=s1.toks) hk;refine⟨s1.heap.objs.size+4,[s1.heap.objs.size+4,s1.heap.objs.size+2,s1.heap.objs.size+3,s1.heap.objs.size,s1.heap.objs.size+1],_,_,H1,Z',I2,Nl l m _ _ _ _ _ ?_ ?_ ?_ ?_ ?_ ?_ ?_ ?_ ?_ ?_,⟨h1,h2,⟨_,_,h3⟩,h4,h5⟩,λb hb=>?_,q⟩
 .exact λz=>by have z:s1.heap.objs.size+2=s1.heap.objs.size+4:=z;lia
 .exact λz=>by have z:s1.heap.objs.size+3=s1.heap.objs.size+4:=z;lia
 .exact λz=>by have z:s1.heap.objs.size=s1.heap.objs.size+4:=z;lia
 .exact λz=>by have z:s1.heap.objs.size+1=s1.heap.objs.size+4:=z;lia
 .exact λz=>by have z:s1.heap.objs.size+2=s1.heap.objs.size+3:=z;lia
 .exact λz=>by have z:s1.heap.objs.size+2=s1.heap.objs.size:=z;lia
 .exact λz=>by have z:s1.heap.objs.size+2=s1.heap.objs.size+1:=z;lia
 .exact λz=>by have z:s1.heap.objs.size+3=s1.heap.objs.size:=z;lia
 .exact λz=>by have z:s1.heap.objs.size+3=s1.heap.objs.size+1:=z;lia
 .exact λz=>by have z:s1.heap.objs.size=s1.heap.objs.size+1:=z;lia
 .have YH:s1.heap.objs.size<=b:=by
   simp only[dC,dQ,fv]at hb;rcases hb with rfl|rfl|rfl|rfl|rfl
   .exact iY _ _
   .exact iY _ _
   .exact iY _ _
   .exact dE _
   .exact iY _ _
  exact I1.oo YH (I1.m8.fresh YH)
noncomputable def Bc:T0 D->T0 D->T0 D
 | x::a,y::b=>.tup [x,y]::Bc a b
 | _,_=>[]
theorem J9:∀{ds es:T0 D} {i:Nat},(Bc ds es)[i]?=(ds[i]?).bind λd=>(es[i]?).map λe=>D.tup [d,e]
 | [],es,i=>by simp[Bc]
 | d::ds,[],i=>by simp[Bc]
 | d::ds,e::es,0=>by simp[Bc]
 | d::ds,e::es,i+1=>by show(Bc ds es)[i]?=_;rw[J9];simp
theorem FH:∀{ds es:T0 D},(Bc ds es).length=min ds.length es.length
 | [],es=>by simp[Bc]
 | d::ds,[]=>by simp[Bc]
 | d::ds,e::es=>by show(Bc ds es).length+1=_;rw[FH];simp only[eK];lia
def OI{K:qC}{ds es:T0 D}(h1:vn K H1 a xs)(h2:qA K H1 ds xs)(g1:vn K H1 b ys)(g2:qA K H1 es ys):G1 K H1 (Wy K a b) (Bc ds es) (λ_=>True) where
 go:=λi H M hi hm ok e1=>by rw[FH]at hi;obtain⟨x,ex,_⟩:=h2.get (dg (show i<ds.length by lia));obtain⟨y,ey,_⟩:=g2.get (dg (show i<es.length by lia));exact⟨xs,ys,x,y,e1.t _ _ h1,e1.t _ _ g1,ex,ey⟩
 oZ:=λi d H M v H' hd hm ok e1 y=>by
  obtain⟨p,x,z,rfl,hp,rfl,y1,y2⟩:=y;rw[J9]at hd;cases e:ds[i]? with
  | none=>rw[e]at hd;cases hd
  | some d'=>
   cases e':es[i]? with
   | none=>rw[e,e']at hd;cases hd
   | some d''=>rw[e,e']at hd;cases hd;obtain⟨x',q1,hx⟩:=h2.get e;obtain⟨z',q2,hz⟩:=g2.get e';have w1:=y1 xs (e1.t _ _ h1);have w2:=y2 ys (e1.t _ _ g1);rw[q1]at w1;rw[q2]at w2;have v1:x'=x:=dD w1;have v2:z'=z:=dD w2;subst v1 v2;have ex:qY K H (upd H p (.tup [x',z'])):=.new hp;exact⟨.tup (.of qw) (.cons (hx.mono (e1.trans ex)) (.cons (hz.mono (e1.trans ex)) .nil)),hm.add hp,ex⟩
 stop:=λH M hm ok e1=>⟨xs,ys,e1.t _ _ h1,e1.t _ _ g1,by rw[FH,h2.length,g2.length]⟩
def Vi(t:ya):Oz:=λU M R=>t U M λds M1=>match ds with
 | [.tup a,.tup b]=>R (Bc a b) (λ_=>True) M1
 | _=>False
def SO{a b:Go}{ta:ya}(hg:Gl X "zip")(hm:X.mg "zip"=Db)(ha:A3 X [a,b] ta)(hs:Tl [a,b] X.env=[(lf,wp a X.env),(lf,wp b X.env)]:=by rfl)(Zv:Tl [b] X.env=[(lf,wp b X.env)]:=by rfl):
  I3 X (.Tuple Yi n tp) (.Call (.Name "zip" p) [a,b] [] pos) (Vi ta):=
 PI.mono (Sk hg hm ha hs Zv) λY H R' zz=>x7 zz λU M R hs hm ht k=>⟨U,M,_,hs,hm,ht,λvs H1 ds M1 hd XT e1 q1=>by
  split at q1
  .obtain⟨v,u,rfl,hv,hw⟩:=zK hd;obtain⟨l,xs,rfl,h1,h2⟩:=hv.m7;obtain⟨m,ys,rfl,g1,g2⟩:=hw.m7;exact⟨l,m,Z',⟨xs,h1⟩,⟨ys,g1⟩,k _ H1 _ _ M1 (OI h1 h2 g1 g2) XT e1 trivial q1⟩
  .exact q1.elim⟩
def qO(M M':Mp):Prop:=∀a c,M a=Fa c->M' a=Fa c
def qO.refl:qO M M:=λ_ _ h=>h
def qO.trans{M M1 M2:Mp}(a:qO M M1)(b:qO M1 M2):qO M M2:=λx c h=>b x c (a x c h)
def qO.new{M:Mp}{p:Uf}{c:vd}(h:M p=Db):qO M (pQ M p c):=λx d q=>by rw[sU (PH q h)];exact q
def qO.lst{ds:T0 D}(s:qO M M')(h:oN M a=Fa ds):oN M' a=Fa ds:=by
 unfold oN at h ⊢;cases e:M a with
 | none=>rw[e]at h;cases h
 | some c=>rw[s a c e];rw[e]at h;exact h
def HM.sub{K:qC}(h:HM K H M')(s:qO M M'):HM K H M:=λa c q=>h a c (s a c q)
def Vb{st:TD}{sp:rB}(F:Pe K x qual st f fd)(S:tN N ps (qu st))(len:∀ds M Q,sp ds M Q->ds.length=ps.length) (Yf:∀(X1:Vl) (A:Ar) (outer:T0 Env) (s:Sd) (H:Hp) (E:XK),sC k (A.deeper (xL qual (qu st) s.heap.objs.size f X1))->
   ∃t,HZ (vL OA P w K mg base N qual (qu st) f X1 A outer s H E).oP (sd st) t/\∀ds M Q,sp ds M Q->t {nx:=λ_ M'=>∃XU,qO XU M'/\Q .mY XU,rt:=λd M'=>∃XU,qO XU M'/\Q d XU} (xg N ds) M):Uj P w K mg base (k+1) f fd ps sp:=by
 refine F.ok S (λvs H Q E h=>?_) (λX1 A outer s H vs Q' E hr h=>?_)
 .obtain⟨ds,M,Q,hd,_,hs,_⟩:=h;rw[<-hd.length];exact len ds M Q hs
 .obtain⟨ds,M,Q,hd,hm,hs,k⟩:=h;obtain⟨t,ht,hb⟩:=Yf X1 A outer s H E hr;exact⟨_,ht,xg N ds,M,_,EB hd,hm,hb ds M Q hs,λσ' H' δ' M' _ x2 x3 _ ⟨XU,y1,y2⟩=>k .mY H' .mY XU .mY (x2.sub y1) x3 y2,λv H' d M' x1 x2 x3 ⟨XU,y1,y2⟩=>k v H' d XU x1 (x2.sub y1) x3 y2,λ_ _ _ _ _ _ _ _ z=>z,λ_ _ _ _ _ _ _ _ z=>z⟩
theorem Cj{g:Dj}{te:T3}{ok:Mp->Prop}{Q:DK}{f:D->D}{M:Mp}(J:vq->Prop)(m8:ok M):∀(ds acc:T0 D) (U:vq),J U->acc.length+ds.length<=Ch->
  (∀d∈ds,∀U,J U->∀k:vq->DK,(∀δ',J δ'->k δ' (f d) M)->g d U M λδ2 M2=>te δ2 M2 (k δ2))->(∀p,M p=Db->Q (.ref p) (pQ M p (.lst (acc++ds.map f))))->vm g B0 te ok Q ds acc U M
 | [],acc,U,_,hl,_,hq=>⟨by simpa using hl,by simpa using hq⟩
 | d::r,acc,U,hj,hl,ht,hq=>by
  rw[eK]at hl;refine⟨by lia,?_⟩;refine ht d dY U hj (λδ2 y M4=>ok M4/\vm g B0 te ok Q r (acc++[y]) δ2 M4) λδ' hj'=>⟨m8,Cj (f:=f) J m8 r (acc++[f d]) δ' hj' ?_ (λe he=>ht e (dN _ he)) ?_⟩
  .rw[dq,dX];lia
  .simpa using hq
def rA{te:T3}{ok:Mp->Prop}{Q:DK}{f:D->D}{M:Mp}(m8:ok M):∀(ds acc:T0 D) (U:vq),acc.length+ds.length<=Ch->(∀d∈ds,∀k:DK,k (f d) M->te (U.set i (Fa d)) M k)->
  (∀p,M p=Db->Q (.ref p) (pQ M p (.lst (acc++ds.map f))))->vm (tU i) B0 te ok Q ds acc U M:=λds acc U hl ht hq=>
 Cj (f:=f) (λδ'=>∀d,δ'.set i (Fa d)=U.set i (Fa d)) m8 ds acc U (λ_=>rfl) hl (λd hd δ' hj k hk=>by
  show te (δ'.set i (Fa d)) M (k (δ'.set i (Fa d)));rw[hj d];exact ht d hd _ (hk _ λe=>by rw[ji])) hq
theorem yp{α:Type}(f:α->Bool):∀l:List α,GJ (l.map λx=>D.bl (f x))=Fa (l.map f)
 | []=>rfl
 | x::r=>by show(GJ (r.map λx=>D.bl (f x))).map (f x::·)=_;rw[yp f r];rfl
def pT{p:Uf}{ds:T0 D}:oN (pQ M p (.lst ds)) p=Fa ds:=by unfold oN;rw[pZ]
def i'{α:Type}{o:Option α}{P:α->Prop}{x:α}(e:o=Fa x)(h:P x):o.elim False P:=by rw[e];exact h
def pD{l:T0 D}(h:decide (l.length<=100)=pc):l.length<=Ch:=by have z:=dR;have:=fU h;lia
theorem BD{g:Dj}{tb:xT}{ok:Mp->Prop}{E:Hw}(J:vq->Mp->Prop)(m8:∀U M,J U M->ok M):∀(ds:T0 D) (U:vq) (M:Mp),J U M->
  (∀d∈ds,∀U M,J U M->∀nx:vq->Mp->Prop,(∀δ' M',J δ' M'->nx δ' M')->g d U M λδ2 M2=>tb {E with nx:=nx,ct:=nx,bk:=E.nx} δ2 M2)->(∀U M,J U M->E.nx U M)->Fh g tb ok E ds U M
 | [],U,M,j,_,hn=>hn U M j
 | d::r,U,M,j,ht,hn=>ht d dY U M j (λδ' M'=>ok M'/\Fh g tb ok E r δ' M') λδ' M' j'=>⟨m8 δ' M' j',BD J m8 r δ' M' j' (λe he=>ht e (dN _ he)) hn⟩
theorem vN{g:Dj}{tb:xT}{ok:Mp->Prop}{E:Hw}(all:T0 D)(J:T0 D->vq->Mp->Prop)(m8:∀p U M,J p U M->ok M):∀(ds pre:T0 D) (U:vq) (M:Mp),pre++ds=all->J pre U M->
  (∀pre d post,pre++d::post=all->∀U M,J pre U M->∀nx:vq->Mp->Prop,(∀δ' M',J (pre++[d]) δ' M'->nx δ' M')->g d U M λδ2 M2=>tb {E with nx:=nx,ct:=nx,bk:=E.nx} δ2 M2)->(∀U M,J all U M->E.nx U M)->Fh g tb ok E ds U M
 | [],pre,U,M,e,j,_,hn=>hn U M (by rw[<-e,fk];exact j)
 | d::r,pre,U,M,e,j,ht,hn=>ht pre d r e U M j (λδ' M'=>ok M'/\Fh g tb ok E r δ' M') λδ' M' j'=>⟨m8 _ δ' M' j',vN all J m8 r (pre++[d]) δ' M' (by rw[<-e,fC];rfl) j' ht hn⟩
def Gh{K:qC}{t:Vl}:W.kitOne K t t=Fa pc:=by unfold W.kitOne;rw[dw (by simp)]
def Ml{K:qC}{t c:Vl}{b:Bool}(h:W.kitCls K t c=Fa b)(ne:b=lf->(t==c)=lf):W.kitOne K t c=Fa b:=by
 unfold W.kitOne;by_cases e:(t==c)=pc
 .rw[dw e];cases b with
  | true=>rfl
  | false=>rw[ne Z']at e;cases e
 .rw[dh e];exact h
def Jy{K:qC}{t:Vl}{cd:ClassData}{b:Bool}(q1:W.clsIn K C=Fa cd)(q2:W.typeIn K (.ref C)=Fa (.type "type"))(s:W.subIn K t (.ref C)=Fa b)(ne:b=lf->(t==.ref C)=lf):W.kitOne K t (.ref C)=Fa b:=by refine Ml ?_ ne;unfold W.kitCls;simp only;rw[q1,q2,dw (by rfl)];exact s
def Sy{K:qC}{t:Vl}{b:Bool}(m:W.kitMeta T=pc)(s:W.subIn K t (.type T)=Fa b)(ne:b=lf->(t==.type T)=lf):W.kitOne K t (.type T)=Fa b:=by refine Ml ?_ ne;unfold W.kitCls;simp only;rw[dw m];exact s
def Nt{c:Bool}{A B:Prop}(h:c=lf)(hb:B):if c=pc then A else B:=by subst h;exact Sn hb
def A9{c:Bool}{A B:Prop}(h:c=pc)(ha:A):if c=pc then A else B:=by subst h;exact Pd ha
def P7{t u:xT}{E:Hw}{U:vq}{M:Mp}(R:vq->Mp->Prop)(h2:∀nx:vq->Mp->Prop,(∀δ' M',R δ' M'->nx δ' M')->t {E with nx:=nx} U M)(h1:∀δ' M',R δ' M'->u E δ' M'):uR t u E U M:=h2 (u E) h1
def Vr{K:qC}{ns:T0 Int}(hO:MT H)(hS:zj K H a (ns.map V.int)):rZ K H (.rl (ns.map D.int)) (.ref a):=by
 have r:OP K H a (ns.map V.int):=by
  rcases hS with h|h
  .rcases h with h|⟨o,h⟩
   .rcases hO a with z|⟨o,xs,z⟩<;>(rw[h]at z;cases z)
   .exact .inl ⟨o,h⟩
  .exact .inr h
 unfold rZ;exact⟨a,_,Z',r,.ints⟩
def Tj{K:qC}{sp:rB}{ns:T0 Int}(hO:MT H)(hS:zj K H a (ns.map V.int))(h:sp [.rl (ns.map D.int)] (λ_=>Db) λd _=>d=.bl pc):Ox K sp [.ref a] H (λv _=>v=.bl pc) λ_ _ _=>False:=
 ⟨_,λ_=>Db,_,.cons (Vr hO hS) .nil,λ_ _ z=>(by cases z),h,λv H' d M' x1 _ _ x4=>by subst x4;exact x1.mX⟩
def NK{l:W.OpenLaw}{q:Pg}{YD:QQQ}{XP:(QQZ)->No->Prop}{YP:Wo->No->Prop}{d:DefRec}{K:Params->qC}{x:Str}{sp:rB}(hn:l.most=Fa 63)(hdf:d.params.defaults=[])(hr:sC k callerA) (hY:∀(w:Wo) (h:No),YP w h->(K w.params).In h) (Zi:∀ns:T0 Int,ns.length<=63->sp [.rl (ns.map D.int)] (λ_=>Db) λd _=>d=.bl pc) (F:∀(w:Wo) (mg:QQZ) (fa:Uf) (h:No),(K w.params).In h->h.Ns wv mg->mg d.name=Fa (.ref fa)->
   ∃fd:Ix,(∀(s:Sd) (u:Vl),BindsTo s fd ⟨[u],[]⟩ [(x,u)])/\∀base:No,(K w.params).In base->base.Ns wv mg->Uj l.prog w (K w.params) mg base k fa fd [x] sp):
  W.WalkO q YD XP YP l.row.toRowW d [] (λf vs=>PySem.call f vs):=
 L2.O6 (n:=63) (k:=k) (x:=x) (CX:=λ_=>OA) (sp:=λw=>Ox (K w.params) sp) hn (by decide) hdf hr hY F (λ_ _ a ns hl hO hS=>Tj hO hS (Zi ns hl)) λ_ _ _ _ _ z=>z
def KD(K:qC)(mg:QQZ)(x:Str)(d:D):Prop:=z9 λv u=>mg x=Fa u/\qQ v u/\∀H,rZ K H d v
def Sq{K:qC}{mg:QQZ}{x y:Str}{t:Tok}(h:mg x=Fa (.str y t)):KD K mg x (.str y):=⟨.str y,_,h,⟨t,Z'⟩,λ_=>.str⟩
def wk{K:qC}{mg:QQZ}{x:Str}{y:Int}{t:Tok}(h:mg x=Fa (.int y t)):KD K mg x (.int y):=⟨.int y,_,h,⟨t,Z'⟩,λ_=>.int⟩
def uM{K:qC}{a:Uf}{ss:QQQ}{us:T0 Vl}{n:Nat}{sl:Array (Option Vl)}(h:K.lookup a=Fa ⟨.type "tuple",Db,.seq us.toArray n,sl⟩)(r:qK (ss.map V.str) us)(hz:us.length<=1000):vn K (λ_=>Db) a (ss.map V.str):=
 .inr ⟨_,us.toArray,n,h,Z',Z',Z',by rw[dF,dR];lia,by simpa using r⟩
theorem Az{K:qC}:∀{ss:QQQ},qA K H (ss.map D.str) (ss.map V.str)
 | []=>.nil
 | _::_=>.cons .str Az
def O4{K:qC}{mg:QQZ}{x:Str}{a:Uf}{ss:QQQ}(h:mg x=Fa (.ref a))(q:vn K (λ_=>Db) a (ss.map V.str)):KD K mg x (.tup (ss.map D.str)):=
 ⟨.ref a,_,h,Z',λ_=>.tup (Jh q) Az⟩
variable {d:D}{i:Go}{td tk:T3}{F:T0 (Str × QQQ)}
def sY(hg:Gl X x)(h:KD X.K X.mg x d)(hd:yI x:=by decide):E3 X (.Name x pos) (c3 d):=by obtain⟨v,u,hm,r,hh⟩:=h;exact PE.mono (BJ hg hm r hd) λY H Q' zz=>x7 zz λU M Q hs hm ht k=>k _ H _ M (hh H) hm .refl ht
def Ws(F:T0 (Str×QQQ))(ta:T3):T3:=λU M Q=>ta U M λx M1=>match x with|.str k=>Q (.bl (KTD.datumAt k F).isSome) M1|_=>False
def Vj(F:T0 (Str×QQQ))(ta:T3):T3:=λU M Q=>ta U M λx M1=>match x with|.str k=>(KTD.datumAt k F).elim False λss=>Q (.tup (ss.map D.str)) M1|_=>False
def LM(T:Lr X.K X.mg x F)(hg:Gl X x)(he:E3 X e ta)(hd:yI x:=by decide)(hmk:wT .In (.Name x p)=lf:=by rfl):E3 X (.Compare e [.In] [.Name x p] pos) (Ws F ta):=by
 obtain⟨a,hm,T⟩:=GD T;refine PE.mono (JF (r:=λy z H Q=>∃k,y=.str k/\z=.ref a/\Q (.bl (KTD.datumAt k F).isSome) H) (λXQ s Y H y z v u Q I ry rz ⟨k,e1,e2,q⟩=>?_) he (BJ (v:=.ref a) hg hm Z' hd) hmk) λY H Q' zz=>x7 zz λU M Q hs hm ht k=>⟨U,M,_,hs,hm,ht,λv H1 d M1 hd XT e1 q1=>?_⟩
 .subst e1 e2;obtain⟨t,rfl⟩:=ry;obtain rfl:u=Value.ref a:=rz;exact Tg (T s.heap I.nA) ⟨.bl (KTD.datumAt k F).isSome,H,I.tok _,Z',q⟩
 .cases d with
  | str k'=>exact⟨k',hd.str_inv,Z',k _ _ _ _ .bl XT e1 q1⟩
  | _=>exact q1.elim
def Lc(T:Lr X.K X.mg x F)(hg:Gl X x)(he:E3 X e ta)(hd:yI x:=by decide)(hs:BM e:=by exact λ_ _=>rfl):E3 X (.Subscript (.Name x p) e pos) (Vj F ta):=by
 obtain⟨a,hm,T⟩:=GD T;refine PE.mono (LA (r:=λz y H Q=>∃k ss,y=.str k/\z=.ref a/\KTD.datumAt k F=Fa ss/\∀t,vn X.K H t (ss.map V.str)->Q (.ref t) H) (λvalue X4 XQ s Y H z y o i Q I rz ry ⟨k,ss,e1,e2,e3,q⟩ hs=>?_) (BJ (v:=.ref a) hg hm Z' hd) he hs) λY H Q' zz=>x7 zz λU M Q hs hm ht k=>⟨U,M,_,hs,hm,ht,λv H1 d M1 hd XT e1 q1=>?_⟩
 .subst e1 e2;obtain⟨t,rfl⟩:=ry;obtain rfl:o=Value.ref a:=rz;have hT:=yX (s:=s) (T s.heap I.nA);have h2:pi (Tk X.prog X.w) X.A (XXd (.ref a) (.str k t)) (EP X XQ Y Q) X.xe s:=Ly (T s.heap I.nA) e3 λv ⟨t',e4,q4⟩=>⟨.ref t',H,I.tok _,e4,q t' (Jh q4)⟩;unfold subscriptTail;refine df ?_;rw[kD hT.not_modules];refine df (jf hT jO.lookup ?_);have XX:pi (Tk X.prog X.w) X.A (subscripted X4 lf (.ref a) (.str k t)) (λr s₃=>pi (Tk X.prog X.w) X.A (letTemporaryGo value (.ref a) r>>=λ_=>pure r) (EP X XQ Y Q) X.xe s₃) X.xe s:=by rw[hs];exact wpAny_operating (eJ h2 (λr s₃ h₃=>df (kM (dA h₃))) λ_ _ x=>x)
  first
   | exact dA (df XX)
   | exact df (dA (df XX))
   | exact df XX
 .cases d with
  | str k'=>obtain⟨ss,e4,q2⟩:=qZ q1;exact⟨k',ss,hd.str_inv,Z',e4,λt qt=>k _ _ _ _ (.tup qt Az) XT e1 q2⟩
  | _=>exact q1.elim
noncomputable def zr(M:Mp)(a:Uf):Option (T0 (rm×D)):=match M a with
 | some (.dk kvs)=>Fa kvs
 | _=>Db
noncomputable def vQ(kvs:T0 (rm×D))(k:rm):Option D:=(kvs.find? λp=>decide (p.1=k)).map (·.2)
def zv{K:qC}{kvs:T0 (rm×D)}(hm:HM K H M)(h:zr M a=Fa kvs):∃vs,H a=Fa (.dK vs)/\vs.map (·.1)=kvs.map (·.1)/\qA K H (kvs.map (·.2)) (vs.map (·.2)):=by
 unfold zr at h;cases e:M a with
 | none=>rw[e]at h;cases h
 | some c=>
  rw[e]at h;have ok:=hm a c e;cases c with
  | dk es=>cases h;exact ok
  | ins _ _=>cases h
  | lst _=>cases h
  | exc _=>cases h
theorem Gf{K:qC}{k:rm}:∀{kvs:T0 (rm×D)} {vs:T0 (rm×V)},vs.map (·.1)=kvs.map (·.1)->qA K H (kvs.map (·.2)) (vs.map (·.2))->(∀d,vQ kvs k=Fa d->∃v,xw vs k=Fa v/\rZ K H d v)/\(vQ kvs k=Db->xw vs k=Db)
 | [],[],_,_=>⟨λd z=>(by cases z),λ_=>rfl⟩
 | [],_::_,e,_=>by cases e
 | _::_,[],e,_=>by cases e
 | (j,d)::kvs,(j',v)::vs,e,h=>by
  have e1:j'=j:=by simpa using(gz e).1
  subst e1;obtain⟨x,r,e2,h1,h2⟩:=h.inv;obtain⟨e3,e4⟩:=gz e2;subst e3 e4;have ih:=Gf (k:=k) (kvs:=kvs) (vs:=vs) (gz e).2 h2;by_cases hk:j'=k
  .have g:vQ ((j',d)::kvs) k=Fa d:=by simp[vQ,hk]
   have g':xw ((j',v)::vs) k=Fa v:=by simp[xw,hk]
   rw[g,g'];exact⟨λd' z=>by cases z;exact⟨v,Z',h1⟩,λz=>by cases z⟩
  .have g:vQ ((j',d)::kvs) k=vQ kvs k:=by simp[vQ,hk]
   have g':xw ((j',v)::vs) k=xw vs k:=by simp[xw,hk]
   rw[g,g'];exact ih
def MK(x y:D)(M:Mp)(Q:DK):Prop:=match x,y with
 | .ref a,.str k=>(zr M a).elim False λkvs=>(vQ kvs (.inr k)).elim False λd=>Q d M
 | _,_=>False
def Vh(td tk:T3):T3:=λU M Q=>td U M λx M1=>tk U M1 λy M2=>MK x y M2 Q
def zJ(hu:X.A.units+9<X')(ho:E3 X o td)(hi:E3 X i tk)(hs:BM i:=by exact λ_ _=>rfl):E3 X (.Subscript o i pos) (Vh td tk):=by
 refine PE.mono (LA (r:=R3 X.K MK) (λvalue X4 XQ s Y H vx vy v u Q' I rx ry h hs=>?_) ho hi hs) Gz;obtain⟨x,y,M,Q,hx,hy,hm,q,k⟩:=h;unfold MK at q;split at q
 .rename_i a0 k0;obtain⟨kvs,e1,q⟩:=qZ q;obtain⟨d,e2,q⟩:=qZ q;cases hx.mT;cases hy.str_inv;obtain⟨vs,h1,h2,h3⟩:=zv hm e1;obtain⟨w,e3,hw⟩:=(Gf h2 h3).1 d e2;refine ON (by lia) value X4 XQ s Y H _ _ v u Q' I rx ry ⟨_,w,Z',?_,k _ _ _ _ hw hm .refl q⟩ hs;have g:=Fu.k (k:=Sum.inr k0) h1;rw[e3]at g;exact g
 .exact q.elim
def TZ(Zp:Bool)(x y:D)(M:Mp)(Q:DK):Prop:=match x,y with
 | .str k,.ref a=>(zr M a).elim False λkvs=>Q (.bl (if Zp then !(vQ kvs (.inr k)).isSome else(vQ kvs (.inr k)).isSome)) M
 | _,_=>False
def NW{K:qC}{k:rm}{kvs:T0 (rm×D)}{vs:T0 (rm×V)}(h2:vs.map (·.1)=kvs.map (·.1))(h3:qA K H (kvs.map (·.2)) (vs.map (·.2))):(xw vs k).isSome=(vQ kvs k).isSome:=by
 obtain⟨a,b⟩:=Gf (k:=k) h2 h3;cases e:vQ kvs k with
 | none=>rw[b e];rfl
 | some d=>obtain⟨v,e3,_⟩:=a d e;rw[e3];rfl
def Wr(Zp:Bool)(tk td:T3):T3:=λU M Q=>tk U M λx M1=>td U M1 λy M2=>TZ Zp x y M2 Q
def UI(hu:X.A.units+9<X'):xI X (Op .In) (R3 X.K (TZ lf)):=λXQ s Y H vx vy v u Q' I rx ry h=>by
 obtain⟨x,y,M,Q,hx,hy,hm,q,k⟩:=h;unfold TZ at q;split at q
 .obtain⟨kvs,e1,q⟩:=qZ q;cases hy.mT;cases hx.str_inv;obtain⟨vs,h1,h2,h3⟩:=zv hm e1;refine RW (by lia) XQ s Y H _ _ v u Q' I rx ry ⟨_,_,Z',Fu.k (k:=Sum.inr _) h1,?_⟩;rw[NW h2 h3];exact k _ _ _ _ .bl hm .refl q
 .exact q.elim
def MC(hu:X.A.units+9<X')(hi:E3 X i tk)(ho:E3 X o td)(hm:wT .In o=lf:=by first|exact HF _|with_unfolding_all rfl):B3 X (.Compare i [.In] [o] pos) (b3 (Wr lf tk td)):=PT.mono (Jt (UI hu) hi ho hm) λY H Q' zz=>x7 zz λU M Q hs hm ht k=>
 Gz Y H _ ⟨U,M,_,hs,hm,ht,λv H1 d M1 hd XT e1 q1=>by
  cases d with
  | bl c=>exact⟨c,hd.mX,k c H1 M1 XT e1 q1⟩
  | _=>exact q1.elim⟩
noncomputable def xi:T0 D->Option (T0 (rm×D))
 | []=>Fa []
 | .tup [.str k,d]::r=>(xi r).map ((.inr k,d)::·)
 | _::_=>Db
theorem D7{K:qC}:∀{es:T0 D} {kvs:T0 (rm×D)} {xs:T0 V},xi es=Fa kvs->qA K H es xs->∃(ts:QXQ) (vs:T0 (rm×V)),xs=ts.map V.ref/\ts.length=vs.length/\vs.map (·.1)=kvs.map (·.1)/\qA K H (kvs.map (·.2)) (vs.map (·.2))/\
  ∀(j:Nat) (t:Uf) (p:rm×V),ts[j]?=Fa t->vs[j]?=Fa p->vn K H t [kV p.1,p.2]
 | [],_,_,e,h=>by cases e;exact⟨[],[],h.nil_inv,Z',Z',.nil,λj t p z=>by simp at z⟩
 | d::es,kvs,xs,e,h=>by
  obtain⟨x,r,rfl,h1,h2⟩:=h.inv;unfold xi at e;split at e
  .rename_i z;cases z
  .rename_i k d' r' z;cases z;cases q:xi es with
   | none=>rw[q]at e;cases e
   | some kvs'=>
    rw[q]at e;cases e;obtain⟨ts,vs,e1,e2,e3,e4,e5⟩:=D7 q h2;obtain⟨a,ys,rfl,g1,g2⟩:=h1.m7;obtain⟨y,r1,rfl,g3,g4⟩:=g2.inv;obtain⟨w,r2,rfl,g5,g6⟩:=g4.inv;cases g6.nil_inv;cases g3.str_inv;refine⟨a::ts,(.inr k,w)::vs,by rw[e1];rfl,by simpa using e2,by rw[eh,eh,e3],.cons g5 e4,λj t p z1 z2=>?_⟩;cases j with
    | zero=>
     have z1':a=t:=by simpa using z1
     have z2':(Sum.inr k,w)=p:=by simpa using z2
     subst z1' z2';exact g1
    | succ j=>exact e5 j t p (by simpa using z1) (by simpa using z2)
  .cases e
def RH(ds:T0 D)(M:Mp)(Q:DK):Prop:=match ds with
 | [.ref a]=>(oN M a).elim False λes=>(xi es).elim False λkvs=>(kvs.map (·.1)).Nodup/\∀p,M p=Db->Q (.ref p) (pQ M p (.dk kvs))
 | _=>False
def FZ(hc:X.calm=pc):C3 X (.type "dict") RH:=by
 intro XQ s Y H vs us Q' I rv h;obtain⟨ds,M,Q,hd,hm,q,k⟩:=h;unfold RH at q;split at q
 .obtain⟨es,e1,q⟩:=qZ q;obtain⟨kvs,e2,hnd,q⟩:=qZ q;obtain⟨v,rfl,hv⟩:=sN hd;cases hv.mT;obtain⟨xs,h1,h2,_⟩:=qG hm e1;obtain⟨ts,ws,rfl,f2,f3,f4,f5⟩:=D7 e2 h2;refine Il hc XQ s Y H _ us Q' I rv ⟨_,ts,ws,Z',h1,f2,f5,by rw[f3];exact hnd,λd hd=>?_⟩;have e:qY X.K H (upd H d (.dK ws)):=.new hd;exact k _ _ _ _ .ref (hm.new (c:=.dk kvs) hd ⟨_,qw,f3,f4.mono e⟩) e (q d (hm.fresh hd))
 .exact q.elim
def SA:zn "set"=Fa (.type "set"):=by decide+kernel
noncomputable def Ct:T0 D->Option (QQQ)
 | []=>Fa []
 | .str x::r=>(Ct r).map (x::·)
 | _::_=>Db
theorem Cu:∀ss:QQQ,Ct (ss.map D.str)=Fa ss
 | []=>rfl
 | x::r=>by show(Ct (r.map D.str)).map (x::·)=_;rw[Cu r];rfl
theorem Hd{K:qC}:∀{ds:T0 D} {ss:QQQ} {xs:T0 V},Ct ds=Fa ss->qA K H ds xs->xs=ss.map V.str
 | [],_,_,e,h=>by cases e;exact h.nil_inv
 | d::ds,_,_,e,h=>by
  obtain⟨x,r,rfl,h1,h2⟩:=h.inv;cases d with
  | str z=>
   unfold Ct at e;cases q:Ct ds with
   | none=>rw[q]at e;cases e
   | some ss=>rw[q]at e;cases e;rw[h1.str_inv,Hd q h2];rfl
  | _=>cases e
def VW(ta:T3):T3:=λU M Q=>ta U M λx M1=>(Oq M1 x).elim False λes=>(Ct es).elim False λss=>ss.length<4000/\Q (.int (ud ss).length) M1
def Kn(hc:X.calm=pc)(he:E3 X e ta)(hg1:Gl X "len")(XT:X.mg "len"=Db)(hg2:Gl X "set")(Ya:X.mg "set"=Db)(b1:zn "len"=Fa (.builtin "len"))(b2:zn "set"=Fa (.type "set")) (hs:Tl [e] X.env=[(lf,wp e X.env)]:=by rfl):E3 X (.Call (.Name "len" p) [.Call (.Name "set" p2) [e] [] ZC] [] pos) (VW ta):=
 PE.mono (Kr hc he hg1 XT hg2 Ya b1 b2 hs) λY H Q' zz=>x7 zz λU M Q hs hm ht k=>⟨U,M,_,hs,hm,ht,λv H1 d M1 hd XT e1 q1=>by
  obtain⟨es,e2,q1⟩:=qZ q1;obtain⟨ss,e3,hz,q1⟩:=qZ q1;obtain⟨a,xs,rfl,h1,h2⟩:=Fl XT hd e2;rw[Hd e3 h2]at h1;have z:XXi=4096:=rfl;exact⟨a,ss,Z',h1,by lia,k _ _ _ _ .int XT e1 q1⟩⟩
def TY(x:D)(ds:T0 D)(M:Mp)(Q:DK):Prop:=match x,ds with
 | .ref a,[y]=>(oN M a).elim False λes=>es.length<Ch/\Q .mY (pQ M a (.lst (es++[y])))
 | _,_=>False
def qE{es:T0 D}(h:oN M a=Fa es):M a=Fa (.lst es):=by
 unfold oN at h;split at h
 .rename_i e;rw[e];cases h;rfl
 .cases h
def F6{K:qC}{es:T0 D}(hm:HM K H M)(h:oN M a=Fa es):∃xs,H a=Fa (.lst xs)/\qA K H es xs:=hm a _ (qE h)
def Kv:M3 X "list.append" TY:=by
 intro XQ s Y H vx vs v us Q' I rx rv h;obtain⟨x,ds,M,Q,hx,hd,hm,q,k⟩:=h;unfold TY at q;split at q
 .obtain⟨es,e1,hz,q⟩:=qZ q;obtain⟨w,rfl,hw⟩:=sN hd;cases hx.mT;obtain⟨xs,h1,h2⟩:=F6 hm e1;refine Ll XQ s Y H _ _ v us Q' I rx rv ⟨_,xs,w,Z',Z',h1,by rw[<-h2.length];exact hz,?_⟩;obtain⟨Ya,ex⟩:=hm.put (c:=.lst (es++[_])) (qE e1) λex=>⟨_,qw,(h2.mono ex).snoc (hw.mono ex)⟩;exact k _ _ _ _ .mY Ya ex q
 .exact q.elim
def r6(ho:E3 X o ta)(ha:A3 X (e::es) t)(X6:Ps o "append" X.env (wp o X.env)=wp o X.env:=by rfl)
  (Y3:((xz pos (Tl (e::es) X.env)).all (λx=>!x.1)&&(IN pos (Rs [] X.env)).all (λx=>x.1.isSome)&&decide ((e::es).length+([]:T0 XXc).length+(if ([]:T0 XXc).isEmpty then 0 else 1)<30))=pc:=by rfl)
  (Yg:(XW.endLine==pos.line)=pc:=by rfl) (hs:BF X e es:=by rfl) (Yb:Dh X pos es:=by rfl):
  E3 X (.Call (.Attribute o "append" XW) (e::es) [] pos) (Wu TY ta t):=Rr PySem.F.slot_list_append PySem.F.type_list_append Kv ho ha X6 Y3 Yg hs Yb
def qO.none{M M2:Mp}{q:Uf}(s:qO M M2)(h:M2 q=Db):M q=Db:=by
 cases e:M q with
 | none=>rfl
 | some c=>rw[s q c e]at h;cases h
def qO.upd{M M2:Mp}{c:vd}(s:qO M M2):qO (pQ M q c) (pQ M2 q c):=λx d h=>by
 by_cases e:x=q
 .subst e;rw[pZ]at h ⊢;exact h
 .rw[sU e]at h ⊢;exact s x d h
def qO.dk{ds:T0 (rm×D)}(s:qO M M')(h:zr M a=Fa ds):zr M' a=Fa ds:=by
 unfold zr at h ⊢;cases e:M a with
 | none=>rw[e]at h;cases h
 | some c=>rw[s a c e];rw[e]at h;exact h
def sJ(p:Uf)(M M':Mp):Prop:=∀b c,b≠p->M b=Fa c->M' b=Fa c
def qO.keep{p:Uf}(s:qO M M'):sJ p M M':=λb c _ h=>s b c h
def sJ.trans{M M1 M2:Mp}{p:Uf}(a:sJ p M M1)(b:sJ p M1 M2):sJ p M M2:=λx c n h=>b x c n (a x c n h)
def sJ.put{p:Uf}{c:vd}:sJ p M (pQ M p c):=λb d n h=>by rw[sU n];exact h
def sJ.lst{p a:Uf}{ds:T0 D}(k:sJ p M M')(n:a≠p)(h:oN M a=Fa ds):oN M' a=Fa ds:=by have:=k a _ n (qE h);unfold oN;rw[this]
def sJ.dk{p a:Uf}{ds:T0 (rm×D)}(k:sJ p M M')(n:a≠p)(h:zr M a=Fa ds):zr M' a=Fa ds:=by
 unfold zr at h ⊢;cases e:M a with
 | none=>rw[e]at h;cases h
 | some c=>rw[k a c n e];rw[e]at h;exact h
def qd{a p C:Uf}{ds:T0 D}{fs:T0 (Str×D)}(h:oN M a=Fa ds)(hp:M p=Fa (.ins C fs)):a≠p:=λz=>by subst z;rw[qE h]at hp;cases hp
def C5{a p C:Uf}{ds:T0 (rm×D)}{fs:T0 (Str×D)}(h:zr M a=Fa ds)(hp:M p=Fa (.ins C fs)):a≠p:=λz=>by subst z;unfold zr at h;rw[hp]at h;cases h
def tD{M:Mp}{p:Uf}{ds:T0 D}(h:M p=Fa (.lst ds)):oN M p=Fa ds:=by unfold oN;rw[h]
def Ew{M:Mp}{p:Uf}{ds:T0 (rm×D)}(h:M p=Fa (.dk ds)):zr M p=Fa ds:=by unfold zr;rw[h]
def tJ{N:Mp}{p q C:Uf}{fs fs':T0 (Str×D)}{c:vd}(hp:N p=Fa (.ins C fs))(hq:N q=Db):
  q≠p/\pQ N q c p=Fa (.ins C fs)/\sJ p N (pQ (pQ N q c) p (.ins C fs'))/\pQ (pQ N q c) p (.ins C fs') q=Fa c/\pQ (pQ N q c) p (.ins C fs') p=Fa (.ins C fs'):=by
 have n:p≠q:=PH hp hq;refine⟨dW n,by rw[sU n];exact hp,(qO.new hq).keep.trans .put,by rw[sU (dW n),pZ],pZ⟩
theorem BH{g:Dj}{te:T3}{ok:Mp->Prop}{Q:DK}(all:T0 D)(J:T0 D->T0 D->vq->Mp->Prop)(m8:∀p acc U M,J p acc U M->ok M):∀(ds pre acc:T0 D) (U:vq) (M:Mp),pre++ds=all->acc.length+ds.length<=Ch->J pre acc U M->
  (∀pre d post,pre++d::post=all->∀acc U M,J pre acc U M->∀k:vq->DK,(∀δ2 y M4,J (pre++[d]) (acc++[y]) δ2 M4->k δ2 y M4)->g d U M λδ2 M2=>te δ2 M2 (k δ2))->
  (∀acc U M,J all acc U M->∀p,M p=Db->Q (.ref p) (pQ M p (.lst acc)))->vm g B0 te ok Q ds acc U M
 | [],pre,acc,U,M,e,hl,j,_,hq=>⟨by simpa using hl,hq acc U M (by rw[<-e,fk];exact j)⟩
 | d::r,pre,acc,U,M,e,hl,j,ht,hq=>by rw[eK]at hl;refine⟨by lia,?_⟩;refine ht pre d r e acc U M j (λδ2 y M4=>ok M4/\vm g B0 te ok Q r (acc++[y]) δ2 M4) λδ2 y M4 j'=>⟨m8 _ _ _ _ j',BH all J m8 r (pre++[d]) (acc++[y]) δ2 M4 (by rw[<-e,fC];rfl) ?_ j' ht hq⟩;rw[dq,dX];lia
noncomputable def tM:Nat->D->Bool
 | _,.mY=>pc
 | _,.bl _=>pc
 | _,.int _=>pc
 | _,.str _=>pc
 | n+1,.tup ds=>ds.all (tM n)
 | _,_=>lf
theorem zh{f:D->D->Option Bool}:∀ds:T0 D,(∀d∈ds,f d d=Fa pc)->sQ f ds ds=Fa pc
 | [],_=>rfl
 | d::r,h=>by show(f d d).bind (λp=>(sQ f r r).map λq=>p&&q)=Fa pc;rw[h d dY,zh r λe he=>h e (dN _ he)];rfl
theorem zG:∀(n:Nat) (d:D),tM n d=pc->xA M (n+1) d d=Fa pc
 | _,.mY,_=>rfl
 | _,.bl _,_=>by simp[xA]
 | _,.int _,_=>by simp[xA]
 | _,.str _,_=>by simp[xA]
 | n+1,.tup ds,h=>by have h:ds.all (tM n)=pc:=h;show(sQ (xA M (n+1)) ds ds).map (λp=>p&&ds.length==ds.length)=Fa pc;rw[zh ds λd hd=>zG n d (eV.mp h d hd)];simp
 | 0,.tup _,h=>by cases h
 | 0,.ref _,h=>by cases h
 | _+1,.ref _,h=>by cases h
 | 0,.ty _,h=>by cases h
 | _+1,.ty _,h=>by cases h
 | 0,.rl _,h=>by cases h
 | _+1,.rl _,h=>by cases h
def Eg{ds:T0 D}(ha:oN M a=Fa ds)(hb:oN M b=Fa ds)(h:∀d∈ds,xA M n d d=Fa pc):xA M (n+1) (.ref a) (.ref b)=Fa pc:=by show(oN M a).bind (λi=>(oN M b).bind λj=>if i.length=j.length then sQ (xA M n) i j else Fa lf)=Fa pc;rw[ha,hb];show(if ds.length=ds.length then sQ (xA M n) ds ds else Fa lf)=Fa pc;rw[dw Z'];exact zh ds h
def To(tc:AY)(tb:xT):xT:=λE U M=>∃W:Nat->vq->Mp->Prop,(∃m,W m U M)/\∀m U M,W m U M->
 tc U M λb M1=>if b=pc then tb {E with nx:=λδ' M'=>∃m',m'<m/\W m' δ' M',ct:=λδ' M'=>∃m',m'<m/\W m' δ' M',bk:=E.nx} U M1 else E.nx U M1
def LI{tc:AY}{tb:xT}(hp:PassesOwn (Tk X.prog X.w) X.A X.env X.xe)(hc:B3 X c tc)(hb:HZ X body tb):S3 X (.While c body [] pos) (To tc tb):=
 PS.mono (NO hp hc hb) λD' Y H ⟨U,M,E,hs,hm,⟨W,⟨m0,w0⟩,turn⟩,k1,k2,k3,k4⟩=>by
 refine⟨λm σ' H'=>∃δ' M',yU X.K H' σ' δ'/\HM X.K H' M'/\qY X.K H H'/\σ'.length=Y.length/\W m δ' M',⟨m0,U,M,hs,hm,.refl,Z',w0⟩,?_⟩
 rintro m σ1 H1 ⟨δ1,M1,hs1,XT,e1,l1,w1⟩
 refine⟨δ1,M1,_,hs1,XT,turn m δ1 M1 w1,λb H2 M2 Ya e2 q2=>?_⟩;cases b with
 | false=>rw[dh dH]at q2 ⊢;exact k1 σ1 H2 δ1 M2 (hs1.mono e2) Ya (e1.trans e2) l1 q2
 | true=>
  rw[dw Z']at q2 ⊢;refine⟨λσ' H'=>∃δ' M',yU X.K H' σ' δ'/\HM X.K H' M'/\qY X.K H H'/\σ'.length=Y.length/\∃m',m'<m/\W m' δ' M',?_,δ1,M2,_,hs1.mono e2,Ya,q2,?_,?_,?_,?_⟩
  .rintro σ' H' ⟨δ',M',a1,a2,a3,a4,m',lt,w⟩
   exact⟨m',lt,δ',M',a1,a2,a3,a4,w⟩
  .exact λσ' H' δ' M' y1 y2 y3 y4 y5=>⟨δ',M',y1,y2,e1.trans (e2.trans y3),by rw[y4,l1],y5⟩
  .exact λv H' d M' y1 y2 y3 y4=>k2 v H' d M' y1 y2 (e1.trans (e2.trans y3)) y4
  .exact λσ' H' δ' M' y1 y2 y3 y4 y5=>k1 σ' H' δ' M' y1 y2 (e1.trans (e2.trans y3)) (by rw[y4,l1]) y5
  .exact λσ' H' δ' M' y1 y2 y3 y4 y5=>⟨δ',M',y1,y2,e1.trans (e2.trans y3),by rw[y4,l1],y5⟩
noncomputable def SX(op:XYa)(x y:D):Option D:=match op,x,y with
 | .Add,.int i,.int j=>Fa (.int (i+j))
 | .Sub,.int i,.int j=>Fa (.int (i - j))
 | _,_,_=>Db
def Sl(op:XYa):V->V->Hp->VK->Prop:=λvx vy H Q=>match op,vx,vy with
 | .Add,.int i,.int j=>Q (.int (i+j)) H
 | .Sub,.int i,.int j=>Q (.int (i - j)) H
 | _,_,_=>False
def Tn:OQ X op (Sl op):=by
 intro XQ s Y H x y u v Q I rx ry h;unfold Sl at h;split at h
 .exact RY XQ s Y H _ _ u v Q I rx ry ⟨_,_,Z',Z',h⟩
 .exact Sr XQ s Y H _ _ u v Q I rx ry ⟨_,_,Z',Z',h⟩
 .exact h.elim
def Pb{K:qC}{x y z:D}{Q:VK}(hx:rZ K H x vx)(hy:rZ K H y vy)(e:SX op x y=Fa z)(k:∀vz,rZ K H z vz->Q vz H):Sl op vx vy H Q:=by
 unfold SX at e;split at e
 .cases e;cases hx.int_inv;cases hy.int_inv;exact k _ .int
 .cases e;cases hx.int_inv;cases hy.int_inv;exact k _ .int
 .cases e
def UU(K:qC)(f:Str)(op:XYa)(ta tv:T3):xT:=λE U M=>ta U M λx M1=>match x with
 | .ref a=>AA (M1 a) λC fs=>uC K C f/\(fs.lookup f).elim False λd=>tv U M1 λy M2=>(SX op d y).elim False λz=>AA (M2 a) λC' fs'=>C'=C/\fs'.length<1000/\E.nx U (pQ M2 a (.ins C (wj f z fs')))
 | _=>False
def Ee{f:Str}(ha:E3 X o ta)(hv:E3 X value tv):S3 X (.AugAssign (.Attribute o f ZU) op value pos) (UU X.K f op ta tv):=
 PS.mono (Ky ha hv Tn) λD' Y H zz=>Lq zz λU M E hs hm ht k1 k2 k3 k4=>
 ⟨U,M,_,hs,hm,ht,λv H1 d M1 hd XT e1 q1=>by
  cases d with
  | ref a=>
   cases hd.mT;obtain⟨C,fs,e,q1⟩:=xU q1;obtain⟨na,q1⟩:=q1;obtain⟨d,ed,q1⟩:=qZ q1;obtain⟨dx,vs,h1,cl,nn,fo⟩:=XT a _ e;obtain⟨w,ew,hw⟩:=(xu fo).1 d ed;refine⟨a,C,dx,vs,w,Z',h1,cl,na,ew,U,M1,_,hs.mono e1,XT,q1,λu H2 y M2 hy Ya e2 q2=>?_⟩;obtain⟨z,ez,q2⟩:=qZ q2;obtain⟨C',fs',e',q2⟩:=xU q2;obtain⟨rfl,hl,q2⟩:=q2;refine Pb (hw.mono e2) hy ez λvz hz=>?_;obtain⟨dx',vs',Yz,cl',nn',fo'⟩:=Ya a _ e';have XY:vs'.length=fs'.length:=by have:=eZ List.length fo'.1;simpa using this
   refine⟨dx',vs',Yz,by lia,?_⟩;obtain⟨YL,e3⟩:=Ya.put (p:=a) (o:=.ins C' dx' (vO f vz vs')) (c:=.ins C' (wj f z fs')) e' λx=>⟨dx',_,qw,cl',λg hg=>by
    rcases Cb hg with q|q
    .rw[q];exact na
    .exact nn' g q,F5 (hz.mono x) (fo'.mono x)⟩
   exact k1 Y _ U _ (hs.mono (e1.trans (e2.trans e3))) YL (e1.trans (e2.trans e3)) Z' q2
  | _=>exact q1.elim⟩
theorem tG{i:Nat}{tt:AY}{te:T3}{ok:Mp->Prop}{Q:DK}{f:D->D}{t:D->Bool}{M:Mp}(m8:ok M):∀(ds acc:T0 D) (U:vq),acc.length+ds.length<=Ch->
  (∀d∈ds,∀k:Bool->Mp->Prop,k (t d) M->tt (U.set i (Fa d)) M k)->(∀d∈ds,t d=pc->∀k:DK,k (f d) M->te (U.set i (Fa d)) M k)->
  (∀p,M p=Db->Q (.ref p) (pQ M p (.lst (acc++(ds.filter t).map f))))->vm (tU i) tt te ok Q ds acc U M
 | [],acc,U,hl,_,_,hq=>⟨by simpa using hl,by simpa using hq⟩
 | d::r,acc,U,hl,ht,he,hq=>by
  rw[eK]at hl;refine⟨by lia,?_⟩;show tt (U.set i (Fa d)) M _;refine ht d dY _ ?_;have z:∀e:D,(U.set i (Fa d)).set i (Fa e)=U.set i (Fa e):=λe=>by rw[ji]
  cases q:t d with
  | true=>
   rw[dw Z'];refine he d dY q _ ⟨m8,tG (f:=f) (t:=t) m8 r (acc++[f d]) _ ?_ (λe m k h=>?_) (λe m h0 k h=>?_) ?_⟩
   .rw[dq,dX];lia
   .rw[z];exact ht e (dN _ m) k h
   .rw[z];exact he e (dN _ m) h0 k h
   .intro p hp;have:=hq p hp;rw[hJ q]at this
    simpa using this
  | false=>
   rw[dh dH];refine⟨m8,tG (f:=f) (t:=t) m8 r acc _ (by lia) (λe m k h=>?_) (λe m h0 k h=>?_) ?_⟩
   .rw[z];exact ht e (dN _ m) k h
   .rw[z];exact he e (dN _ m) h0 k h
   .intro p hp;have:=hq p hp;rw[hU (by rw[q];exact dH)]at this;exact this
section
variable {a:Go}
def W5(ta:T3):T3:=λU M Q=>ta U M λx M1=>match x with|.int i=>Q (.int (-i)) M1|_=>False
def FD(ha:E3 X a ta):E3 X (.UnaryOp .USub a pos) (W5 ta):=PE.mono (Vq Sa ha) λY H Q' zz=>x7 zz λU M Q hs hm ht k=>
 ⟨U,M,_,hs,hm,ht,λv H1 d M1 hd XT e1 q1=>by
  cases d with
  | int i=>cases hd.int_inv;exact⟨i,Z',k _ H1 _ M1 .int XT e1 q1⟩
  | _=>exact q1.elim⟩
end
end L3
namespace L2
open PySem.W
noncomputable def Cr{α:Type}(lt:Nat->Nat->Bool):KasT α->α
 | .ret a=>a
 | .ask i j k=>Cr lt (k (lt i j))
noncomputable def vC(n:Nat):KasT (Array Nat)->Bool
 | .ret p=>p.size==n&&p.toList.all λi=>decide (i<n)
 | .ask i j k=>decide (i<n)&&decide (j<n)&&vC n (k pc)&&vC n (k lf)
def HA{n i j:Nat}{k:Bool->KasT (Array Nat)}(h:vC n (.ask i j k)=pc):i<n/\j<n/\∀b,vC n (k b)=pc:=by simp only[vC,d9,eC]at h;exact⟨h.1.1.1,h.1.1.2,λb=>by cases b;exact h.2;exact h.1.2⟩
theorem GN{cmp:Nat->Nat->(Bool->Sd->Prop)->Sd->Prop}{lt:Nat->Nat->Bool}{n:Nat}{Q:Array Nat->Sd->Prop}(hc:∀i j (C:Bool->Sd->Prop),i<n->j<n->C (lt i j) s->cmp i j C s):
  ∀t:KasT (Array Nat),vC n t=pc->Q (Cr lt t) s->t.kasWp cmp Q s
 | .ret _,_,q=>q
 | .ask i j k,hb,q=>by obtain⟨h1,h2,h3⟩:=HA hb;exact hc i j _ h1 h2 (GN hc (k (lt i j)) (h3 _) q)
theorem Jl:∀t:KasT (Array Nat),vC n t=pc->(Cr lt t).size=n/\∀i∈(Cr lt t).toList,i<n
 | .ret p,hb=>by simp only[vC,d9,fh,eV,eC]at hb;exact hb
 | .ask i j k,hb=>Jl (k (lt i j)) ((HA hb).2.2 _)
noncomputable def uh(lt:Nat->Nat->Bool)(n:Nat):T0 Nat:=if n<2 then List.range n else(Cr lt (kas_sort n)).toList
def WH:vC 2 (kas_sort 2)=pc:=by decide+kernel
def Wt:vC 3 (kas_sort 3)=pc:=by decide+kernel
def Uy{n:Nat}(h2:2<=n)(h3:n<=3):vC n (kas_sort n)=pc:=by
 have:n=2\/n=3:=by lia
 rcases this with rfl|rfl
 .exact WH
 .exact Wt
def yw{n:Nat}(h3:n<=3):(uh lt n).length=n/\∀i∈uh lt n,i<n:=by
 unfold uh;by_cases h:n<2
 .rw[dw h,eM];exact⟨Z',λi hi=>gp.mp hi⟩
 .rw[dh h];obtain⟨h1,h2⟩:=Jl (lt:=lt) (kas_sort n) (Uy (by lia) h3);exact⟨by rw[iA];exact h1,h2⟩
variable {prog:Pg}{w:Wo}{A:Ar}{E:QQX}{s:Sd}
def DE{a:Uf}{vs:T0 Vl}{n:Nat}{κ:SortKind}{lt:Nat->Nat->Bool}{P:PySem.Fin->Sd->Prop}(ho:s.heap.get? a=Fa (dL "list" vs.toArray n))(h3:vs.length<=3) (hk:∀h' (Q:SortKind->Sd->Prop),0<vs.length->(∀b o,b≠a->s.heap.get? b=Fa o->h'.get? b=Fa o)->Q κ {s with heap:=h'}->pi (Tk prog w) A (keyKind' vs.toArray) Q (λ_ _=>False) {s with heap:=h'})
  (X3:∀h' i j (C:Bool->Sd->Prop),(∀b o,b≠a->s.heap.get? b=Fa o->h'.get? b=Fa o)->i<vs.length->j<vs.length->C (lt i j) {s with heap:=h'}->pi (Tk prog w) A (keyLt' κ (vs.getD i .none) (vs.getD j .none)) C (λ_ _=>False) {s with heap:=h'})
  (h:P (.done (.ret .none)) {s with heap:=sortedHeap s.heap a vs (List.toArray ((uh lt vs.length).map λi=>vs.getD i Value.none))}):
  pi (Tk prog w) A (Builtin.«list.sort» ⟨[.ref a],[]⟩) P E s:=by
 rw[list_sort_plain];have hz:=dR;have ha:a<s.heap.objs.size:=dG ho;refine df (listItems_at ho Z' ?_);refine df (kT ho Z' ?_ (by rw[dF];lia) (eX _));obtain⟨e1,ho1⟩:∃e1,(s.heap.update a (Obj.mapSeq λ_=>#[])).get? a=Fa (dL "list" #[] e1):=⟨_,get?_update_seq ho (λ_=>#[])⟩;refine df (lT ho1 Z' ?_);refine df (wpAny_newTuple ?_ (by show vs.length<=_;lia));refine df (wpAny_newList ?_ (eX _));refine eD ?_;have ho6:(((s.heap.update a (Obj.mapSeq λ_=>#[])).push (dL "tuple" vs.toArray 0)).push (dL "list" #[] 0)).get? a=Fa (dL "list" #[] e1):=by rw[iS _ _ _ (by rw[mv,iZ];exact dP (gN ha)),iS _ _ _ (by rw[iZ];exact dP ha)];exact ho1
 have keep:∀b o,b≠a->s.heap.get? b=Fa o->(((s.heap.update a (Obj.mapSeq λ_=>#[])).push (dL "tuple" vs.toArray 0)).push (dL "list" #[] 0)).get? b=Fa o:=λb o hb q=>by have X3:b<s.heap.objs.size:=dG q;rw[iS _ _ _ (by rw[mv,iZ];exact dP (gN X3)),iS _ _ _ (by rw[iZ];exact dP X3),js _ _ _ _ hb];exact q
 show pi (Tk prog w) A _ P E {s with heap:=((s.heap.update a (Obj.mapSeq λ_=>#[])).push (dL "tuple" vs.toArray 0)).push (dL "list" #[] 0)};dsimp only;have hsz:vs.toArray.size=vs.length:=by simp
 by_cases h2:vs.toArray.size<2
 .rw[dw h2,dw h2];refine df (dA ?_);rw[StateT.run_pure];refine df (dA ?_);dsimp only;refine df (lT ho6 Z' ?_);have eo:(arrOf (SortSt.mk' general' (vs.toArray.zip vs.toArray) #[] 7 Db)).map (·.2)=List.toArray ((uh lt vs.length).map λi=>vs.getD i Value.none):=by
   unfold uh;rw[dw (by lia)];show((vs.toArray.zip vs.toArray).map (·.2))=_
   match vs,hsz,h2 with
   | [],_,_=>simp
   | [_],_,_=>simp[jj]
   | _::_::_,_,h2=>simp at h2;lia
  rw[eo];refine df (kT ho6 Z' ?_ (eX _) (by rw[dF,de,(yw h3).1];lia));simp only[lO,iK,ju];exact dA h
 .rw[dh h2,dh h2];have g2:2<=vs.length:=by lia
  refine df (eJ (hk _ (λκ' s'=>κ'=κ/\s'={s with heap:=((s.heap.update a (Obj.mapSeq λ_=>#[])).push (dL "tuple" vs.toArray 0)).push (dL "list" #[] 0)}) (by lia) keep ⟨Z',Z'⟩) ?_ λ_ _ x=>x.elim)
  rintro κ' s' ⟨rfl,rfl⟩
  refine df (eJ (kat_run (ks:=vs) (vs:=vs) (Q:=λYE s'=>∃p:Array Nat,arrOf YE=p.map (kas_item (vs.toArray.zip vs.toArray))/\failedOf YE=Db/\p.toList=uh lt vs.length/\s'={s with heap:=((s.heap.update a (Obj.mapSeq λ_=>#[])).push (dL "tuple" vs.toArray 0)).push (dL "list" #[] 0)})
   (G:=λp s'=>p.toList=uh lt vs.length/\s'={s with heap:=((s.heap.update a (Obj.mapSeq λ_=>#[])).push (dL "tuple" vs.toArray 0)).push (dL "list" #[] 0)})
   rfl g2 (by lia) (λp' YE s' a1 a2 a3 a4=>⟨p',a2,a3,a4⟩) (GN (n:=vs.length) (lt:=lt) (λi j C hi hj hC=>X3 _ i j C keep hi hj hC) _ (Uy g2 h3) ⟨by unfold uh;rw[dh (by lia)],Z'⟩)) ?_ λ_ _ e=>e)
  rintro ⟨⟨⟩,YE⟩ s' ⟨p,har,hf,hp,rfl⟩
  dsimp only;have hout:=kat_snds Z' har;rw[hp]at hout;refine df (lT ho6 Z' ?_);rw[hout];refine df (kT ho6 Z' ?_ (eX _) (by rw[dF,de,(yw h3).1];lia));rw[hf];simp only[lO,iK,ju];exact dA h
noncomputable def Wf(a b:Str×Int):Bool:=if a.1==b.1 then(if a.2==b.2 then lf else decide (a.2<b.2))else decide (a.1.cps.toList<b.1.cps.toList)
def QE{x y:Uf}{ox oy:Obj}{n k:Nat}{a b:Str×Int}{t1 t2 t3 t4:Tok}{C:Bool->Sd->Prop}(hx:s.heap.get? x=Fa ox)(dx:ox.data=.seq #[.str a.1 t1,.int a.2 t2] n)(hy:s.heap.get? y=Fa oy)(dy:oy.data=.seq #[.str b.1 t3,.int b.2 t4] k)(h:C (Wf a b) s):
  pi (Tk prog w) A (keyLt' (tuples' pc) (.ref x) (.ref y)) C E s:=by
 refine kat_lt hx dx hy dy ?_;show KatLex prog w A pc _ C [(Value.str a.1 t1,Value.str b.1 t3),(Value.int a.2 t2,Value.int b.2 t4)] 0 s;unfold Wf at h;refine kat_cons (eqBool_str ?_);cases e:a.1==b.1 with
 | true=>
  rw[e,dw Z']at h;refine kat_yes (kat_cons (lV ?_));cases e2:a.2==b.2 with
  | true=>rw[e2,dw Z']at h;exact kat_yes (kat_nil h)
  | false=>rw[e2,dh dH]at h;exact kat_no (kat_one _ _ (PyProof.Rows.lt_int h))
 | false=>rw[e,dh dH]at h;exact kat_no (oneLt_str h)
def Dv{x:Str}(h:CO (.inr x) v=pc):∃t,v=.str x t:=by
 rcases sr h with⟨i,t,e,_⟩|⟨y,t,e,e2⟩
 .cases e
 .cases e;exact⟨t,e2⟩
noncomputable def Fk(ps:T0 (Str×Int))(i j:Nat):Bool:=Wf (ps.getD i ("",0)) (ps.getD j ("",0))
noncomputable def tR(ps:T0 (Str×Int)):T0 (Str×Int):=(uh (Fk ps) ps.length).map λi=>ps.getD i ("",0)
def D0{ps:T0 (Str×Int)}(h:ps.length<=3):(tR ps).length=ps.length:=by unfold tR;rw[de];exact(yw h).1
def Pr(h:No)(a:Uf)(p:Str×Int):Prop:=z9 λt1 t2=>h.get? a=Fa {cls:=.type "tuple",data:=.seq #[.str p.1 t1,.int p.2 t2]}
def Pr.inj{p q:Str×Int}(x:Pr h a p)(y:Pr h a q):p=q:=by obtain⟨t1,t2,e1⟩:=x;obtain⟨u1,u2,e2⟩:=y;rw[e1]at e2;have:=dD e2;simp only[Obj.mk.injEq,Data.seq.injEq,Array.mk.injEq,List.cons.injEq,Value.str.injEq,Value.int.injEq]at this;exact mF (by simp_all) (by simp_all)
theorem JO:∀(as:QXQ) (ps:T0 (Str×Int)),as.length=ps.length->(∀(j:Nat) (a:Uf) (p:Str×Int),as[j]?=Fa a->ps[j]?=Fa p->Pr h a p)->∃fs,KatTups h (as.map Value.ref) fs/\fs.length=as.length/\∀v∈fs,∃x t,v=Value.str x t
 | [],[],_,_=>⟨[],.nil,Z',λv hv=>nomatch hv⟩
 | [],_::_,e,_=>by cases e
 | _::_,[],e,_=>by cases e
 | a::as,p::ps,e,hp=>by
  obtain⟨fs,h1,h2,h3⟩:=JO as ps (by simpa using e) λj a' p' e1 e2=>hp (j+1) a' p' (by simpa using e1) (by simpa using e2);obtain⟨t1,t2,ea⟩:=hp 0 a p Z' Z';refine⟨.str p.1 t1::fs,.cons ea Z' Z' Z' h1,by simp[h2],λv hv=>?_⟩;rcases dC.mp hv with z|z
  .exact⟨_,_,z⟩
  .exact h3 v z
def Gm{r d:Uf}{kvs:T0 (rm×Vl)}{ep:Nat}{ps:T0 (Str×Int)}{Q:QQX}(hh:A.handled=Db)(hv:s.heap.IsItemsView r d)(hm:s.heap.DictAt (rJ prog w) d kvs ep)(h3:ps.length<=3) (hp:kvs.length=ps.length) (hps:∀(j:Nat) (k:rm) (x:Vl),kvs[j]?=Fa (k,x)->∃p t,ps[j]?=Fa p/\k=Sum.inr p.1/\x=.int p.2 t) (h:∀(h':No) (tk:Nat) (S:Uf) (ws:QXQ) (e:Nat),(∀b o,s.heap.get? b=Fa o->h'.get? b=Fa o)->r<S->h'.get? S=Fa (dL "list" (ws.map Value.ref).toArray e)->ws.length=ps.length->
    (∀(j:Nat) (a:Uf) (p:Str×Int),ws[j]?=Fa a->(tR ps)[j]?=Fa p->r<a/\a≠S/\Pr h' a p)->Q (.ref S) {s with heap:=h',toks:=tk}):
  pi (Tk prog w) A (call (.builtin "sorted") [.ref r]) Q E s:=by
 have hz:=dR;have hr:r<s.heap.objs.size:=by obtain⟨o,ho,_⟩:=hv;exact dG ho
 refine Calls.call_function_entry kind_sorted plain_sorted entry_sorted (args_sorted1 _) ?_;unfold Builtin.«sorted»;refine df (m:=checkCount "sorted" 1 1 _) (dA ?_);refine df (kdx_collect (A:=A.in1) hh hv hm (by lia) λh1 tk as hk hl hG=>?_);refine df (wpAny_newList ?_ (by rw[de];lia));have hl':as.length=ps.length:=by lia
 have pr:∀(j:Nat) (a:Uf) (p:Str×Int),as[j]?=Fa a->ps[j]?=Fa p->Pr h1 a p:=λj a p e1 e2=>by obtain⟨key,k,x,f1,f2,f3⟩:=hG.pairs j a e1;obtain⟨p',t,g1,g2,g3⟩:=hps j k x f1;rw[e2]at g1;cases g1;subst g2 g3;obtain⟨t',rfl⟩:=Dv f2;exact⟨t',t,f3⟩
 have hoL:(h1.push (dL "list" (as.map Value.ref).toArray 0)).get? h1.objs.size=Fa (dL "list" (as.map Value.ref).toArray 0):=dO _ Z';have pr2:∀h',(∀b o,b≠h1.objs.size->(h1.push (dL "list" (as.map Value.ref).toArray 0)).get? b=Fa o->h'.get? b=Fa o)->∀(j:Nat) (a:Uf) (p:Str×Int),as[j]?=Fa a->ps[j]?=Fa p->Pr h' a p:=λh' kp j a p e1 e2=>by obtain⟨t1,t2,e3⟩:=pr j a p e1 e2;exact⟨t1,t2,kp _ _ (dP (dG e3)) (dz _ e3)⟩
 have gd:∀i,i<as.length->∃a p,as[i]?=Fa a/\ps[i]?=Fa p/\(as.map Value.ref).getD i Value.none=.ref a/\ps.getD i ("",0)=p:=λi hi=>by
  have YI:i<ps.length:=by lia
  refine⟨as[i],ps[i],dg hi,dg YI,?_,?_⟩
  .simp[hi]
  .simp[YI]
 have hll:(as.map Value.ref).length=ps.length:=by rw[de];exact hl'
 show pi _ _ _ _ _ {s with heap:=h1.push (dL "list" (as.map Value.ref).toArray 0),toks:=tk};refine df (eD (fX slot_list_sort ⟨_,hoL,Z'⟩ entry_list_sort (DE (κ:=tuples' pc) (lt:=Fk ps) (s:={s with heap:=h1.push (dL "list" (as.map Value.ref).toArray 0),toks:=tk}) hoL (by rw[hll];exact h3) (λh' Q' Yc kp hq=>?_) (λh' i j C kp hi hj hC=>?_) ⟨_,Z',?_⟩) (args_list_sort _)))
 .obtain⟨fs,k1,k2,k3⟩:=JO as ps hl' (pr2 h' kp);refine kat_kind (T:=Value.type "str") k1 (by rw[k2];rw[de]at Yc;exact Yc) (λv hv=>?_) (by decide) hq;obtain⟨x,t,rfl⟩:=k3 v hv;exact Looks.now
 .rw[de]at hi hj;obtain⟨a,p,a1,a2,a3,a4⟩:=gd i hi;obtain⟨b,q,b1,b2,b3,b4⟩:=gd j hj;rw[a3,b3];obtain⟨t1,t2,e1⟩:=pr2 h' kp i a p a1 a2;obtain⟨t3,t4,e2⟩:=pr2 h' kp j b q b1 b2;refine QE (s:={s with heap:=h',toks:=tk}) e1 Z' e2 Z' ?_;show C (Wf p q) _;rw[<-a4,<-b4];exact hC
 .obtain⟨e,he⟩:=sortedHeap_at (h:=h1.push (dL "list" (as.map Value.ref).toArray 0)) (a:=h1.objs.size) (vs:=as.map Value.ref) (out:=List.toArray ((uh (Fk ps) (as.map Value.ref).length).map λi=>(as.map Value.ref).getD i Value.none)) hoL;have Yp:∀b o,h1.get? b=Fa o->(sortedHeap (h1.push (dL "list" (as.map Value.ref).toArray 0)) h1.objs.size (as.map Value.ref) (List.toArray ((uh (Fk ps) (as.map Value.ref).length).map λi=>(as.map Value.ref).getD i Value.none))).get? b=Fa o:=λb o q=>by have hb:=dG q;rw[sortedHeap_old (dP hb) (by rw[mv];exact gN hb)];exact dz _ q
  have ix:=yw (lt:=Fk ps) h3;have eo:((uh (Fk ps) (as.map Value.ref).length).map λi=>(as.map Value.ref).getD i Value.none)=((uh (Fk ps) ps.length).map λi=>as.getD i 0).map Value.ref:=by
   rw[hll,eG];refine gC λi hi=>?_;have:=ix.2 i hi;have Zr:i<as.length:=by lia
   simp[Zr]
  refine dA ⟨_,Z',h _ tk h1.objs.size ((uh (Fk ps) ps.length).map λi=>as.getD i 0) e (λb o q=>Yp b o (hk b o q)) ?_ ?_ ?_ λj a p e1 e2=>?_⟩
  .obtain⟨o,ho,_⟩:=hv;exact dG (hk _ _ ho)
  .rw[he,eo]
  .rw[de];exact ix.1
  .unfold tR at e2;rw[dM]at e1 e2;cases ei:(uh (Fk ps) ps.length)[j]? with
   | none=>rw[ei]at e1;cases e1
   | some i=>
    rw[ei]at e1 e2;have hi:=ix.2 i (fD ei);obtain⟨a',p',a1,a2,a3,a4⟩:=gd i (by lia);have ea:a=a':=by have:as.getD i 0=a:=dD e1;rw[<-this];simp[gj,a1]
    have ep:p=p':=by have:ps.getD i ("",0)=p:=dD e2;rw[<-this,a4]
    subst ea ep;have P1:=pr i a p a1 a2;obtain⟨t1,t2,e3⟩:=P1;exact⟨iG hr (hG.above a (fD a1)),dP (dG e3),t1,t2,Yp _ _ e3⟩
def Inv.many{XQ:QQY}{H H':Hp}{h':No}{t':Nat}(I:Inv X XQ Y H s)(k:∀b o,s.heap.get? b=Fa o->h'.get? b=Fa o)(hs:∀b,b<s.heap.objs.size->H' b=H b) (new:∀b o,s.heap.objs.size<=b->H' b=Fa o->su X.prog X.w H' h' b o):Inv X XQ Y H' {s with heap:=h',toks:=t'}:=by
 have sm:∀b o,H b=Fa o->H' b=Fa o:=λb o e=>by rw[hs b (I.m8.lt e)];exact e
 refine I.step (g':=s.gens) (d':=s.drawn) (ch:=[]) (λb hb=>nomatch hb) (λb o _ _ _ e _=>k b o e) (λb o _ _ _ e _=>⟨o.slots,k b o e⟩) (λb o _ e n=>by rw[hs b (dG e)];exact n)
  (λb o _ e=>⟨o,k b o e⟩) (λb xs e=>sm b _ e) (λb o u e=>sm b _ e) (λb ps e=>⟨#[],by rw[sm b _ e];simp⟩) (λm hm=>?_) (λb u e=>?_) I.bare
 .obtain⟨o,es,ep,ho,r⟩:=hm;exact⟨o,es,ep,k _ o ho,r⟩
 .by_cases hb:b<s.heap.objs.size
  .rw[hs b hb]at e;exact(I.m8 b u e).nG (λc v _ q=>k c v q) (λc q=>sm c _ q) λc xs q=>sm c _ q
  .exact new b u (jX hb) e
def SG(te:TE):TE:=λY H Q=>te Y H λv H1=>∃a kvs ps,v=.ref a/\H1 a=Fa (.dK kvs)/\kvs=(ps:T0 (Str×Int)).map (λp=>((Sum.inr p.1:rm),V.int p.2))/\ps.length<=3/\
 ∀(S:Uf) (H2:Hp) (ws:QXQ),H1 S=Db->(∀b o,H1 b=Fa o->H2 b=Fa o)->H2 S=Fa (.lst (ws.map V.ref))->ws.length=ps.length->(∀(j:Nat) (a:Uf) (p:Str×Int),ws[j]?=Fa a->(tR ps)[j]?=Fa p->H2 a=Fa (.tup [.str p.1,.int p.2]))->
  (∀b o,H1 b=Db->H2 b=Fa o->b=S\/∃p:Str×Int,o=.tup [.str p.1,.int p.2])->Q (.ref S) H2
def Lf:zn "sorted"=Fa (.builtin "sorted"):=by decide+kernel
theorem JQ:∀{ps:T0 (Str×Int)} {vs:T0 (rm×Vl)},KV (ps.map (λp=>((Sum.inr p.1:rm),V.int p.2))) vs->vs.length=ps.length/\∀(j:Nat) (k:rm) (x:Vl),vs[j]?=Fa (k,x)->∃p t,ps[j]?=Fa p/\k=Sum.inr p.1/\x=.int p.2 t
 | [],_,.nil=>⟨Z',λj k x e=>by simp at e⟩
 | p::ps,_,.cons r rs=>by
  obtain⟨h1,h2⟩:=JQ rs;refine⟨by simp[h1],λj k x e=>?_⟩;cases j with
  | zero=>have e:=dD e;obtain⟨r1,t,r2⟩:=r;subst e;exact⟨p,t,Z',r1.symm,r2⟩
  | succ j=>exact h2 j k x e
def EL{X:Cx}{te:TE}{p pos XW XZ:Pos}(hc:X.calm=pc)(he:PE X o te)(hg:Gl X "sorted")(hm:X.mg "sorted"=Db) (X6:Ps o "items" X.env (wp o X.env)=wp o X.env:=by rfl) (Yg:(XW.endLine==XZ.line)=pc:=by rfl):
  PE X (.Call (.Name "sorted" p) [.Call (.Attribute o "items" XW) [] [] XZ] [] pos) (SG te):=by
 intro XQ s Y H Q I h;refine fW (xj I hg hm Lf ?_);refine ia ?_ Z' Z';show pi _ _ (spliced ((lf,wp (.Call (.Attribute o "items" XW) [] [] XZ) X.env)::xz pos (Tl [] X.env))) _ _ s;refine iF ?_;refine wpAny_Call_method0_late X6 Yg (sS (he XQ s Y H _ I h) λv s1 zz=>?_);obtain⟨x,H1,I1,r1,a,kvs,ps,ex,ea,ek,h3,q⟩:=zz;subst ex;obtain rfl:v=Value.ref a:=r1;obtain⟨h1,h2⟩:=NI (T:="dict") (x:=.ref a) I1 Z' (.inr (.inr (.inl ⟨Z',.inl ⟨_,ea⟩⟩)));refine⟨"dict","dict.items",PySem.F.plainAttrs_dict,kg,PySem.F.type_dict_items,h1,h2,ky Z' (PySem.evalArgs_none ?_)⟩;obtain⟨hz,hS,vs,rk,hD⟩:=I1.m8 a _ ea;refine call_meetsIn kg h1 PySem.F.entry_dict_items (PySem.F.args_dict_items_1 _) (meets_dict_items (rJ X.prog X.w) a hS) ⟨⟨vs,hD⟩,?_⟩;refine iR ?_;obtain⟨ep,hat⟩:=hD.dictAt;subst ek;obtain⟨g1,g2⟩:=JQ rk;refine Gm (ps:=ps) (s:={s1 with heap:=s1.heap.push {cls:=.type "dict_items",data:=.fields #[.ref a]}}) (I1.ok.hd hc) ⟨_,dO _ Z',Z',Z'⟩ (hat.push _) h3 g1 g2 λh' tk S ws e k hrS hS' hl hw=>?_;have k':∀b o,s1.heap.get? b=Fa o->h'.get? b=Fa o:=λb o z=>k b o (dz _ z);have ZM:(tR ps).length=ws.length:=by rw[D0 h3,hl]
 let H2:Hp:=λb=>if b=S then Fa (.lst (ws.map V.ref))else match (ws.zip (tR ps)).lookup b with
  | some p=>Fa (.tup [.str p.1,.int p.2])
  | none=>H1 b
 have at1:∀b p,(ws.zip (tR ps)).lookup b=Fa p->s1.heap.objs.size<b/\b≠S/\Pr h' b p:=λb p z=>by
  have:(b,p)∈ws.zip (tR ps):=by
   have go:∀l:T0 (Uf×(Str×Int)),l.lookup b=Fa p->(b,p)∈l:=λl=>by
    induction l with
    | nil=>intro z;cases z
    | cons c r ih=>
     intro z;rw[eP]at z;cases q:b==c.1 with
     | true=>
      rw[q]at z;have hb:b=c.1:=by simpa using q
      have:c=(b,p):=mF hb.symm (dD z);rw[this];exact dY
     | false=>rw[q]at z;exact dN _ (ih z)
   exact go _ z
  obtain⟨j,hj⟩:=List.mem_iff_getElem?.mp this;obtain⟨e1,e2⟩:=iD.mp hj;exact hw j b p e1 e2
 have lowS:s1.heap.objs.size<S:=hrS;have low:∀b,b<s1.heap.objs.size->H2 b=H1 b:=λb hb=>by
  show(if b=S then _ else _)=_;rw[dh (dP (iG hb lowS))];cases z:(ws.zip (tR ps)).lookup b with
  | none=>rfl
  | some p=>exact absurd (at1 b p z).1 (Nat.not_lt_of_lt hb)
 have eS:H2 S=Fa (.lst (ws.map V.ref)):=dw Z';have fr:∀b,s1.heap.objs.size<=b->H1 b=Db:=λb hb=>I1.m8.fresh hb;have tupAt:∀(j:Nat) (b:Uf) (p:Str×Int),ws[j]?=Fa b->(tR ps)[j]?=Fa p->H2 b=Fa (.tup [.str p.1,.int p.2]):=λj b p e1 e2=>by
  obtain⟨_,n2,n3⟩:=hw j b p e1 e2;show(if b=S then _ else _)=_;rw[dh n2];have mem:(b,p)∈ws.zip (tR ps):=fD (iD.mpr ⟨e1,e2⟩);cases z:(ws.zip (tR ps)).lookup b with
  | none=>
   have go:∀l:T0 (Uf×(Str×Int)),(b,p)∈l->l.lookup b≠Db:=λl=>by
    induction l with
    | nil=>intro z;cases z
    | cons c r ih=>
     intro z;rw[eP];cases q:b==c.1 with
     | true=>simp
     | false=>
      rcases dC.mp z with y|y
      .rw[<-y]at q;simp at q
      .exact ih y
   exact absurd z (go _ mem)
  | some p'=>rw[(at1 b p' z).2.2.inj n3]
 have newOk:∀b u,s1.heap.objs.size<=b->H2 b=Fa u->su X.prog X.w H2 h' b u/\(b=S\/∃p:Str×Int,u=.tup [.str p.1,.int p.2]):=λb u hb z=>by
  by_cases eb:b=S
  .subst eb;rw[eS]at z;cases z;refine⟨⟨by rw[de,hl,dR];lia,ws.map Value.ref,e,?_,hS'⟩,.inl Z'⟩;have go:∀l:QXQ,qK (l.map V.ref) (l.map Value.ref):=λl=>by
    induction l with
    | nil=>exact .nil
    | cons c r ih=>exact .cons Z' ih
   exact go ws
  .have z':(match (ws.zip (tR ps)).lookup b with|some p=>Fa (HO.tup [.str p.1,.int p.2])|none=>H1 b)=Fa u:=by have:H2 b=_:=dh eb;rw[this]at z;exact z
   cases y:(ws.zip (tR ps)).lookup b with
   | none=>rw[y,fr b hb]at z';cases z'
   | some p=>rw[y]at z';cases z';obtain⟨_,_,t1,t2,e3⟩:=at1 b p y;exact⟨⟨by show 2<=Ch;rw[dR];decide,[.str p.1 t1,.int p.2 t2],.cons ⟨_,Z'⟩ (.cons ⟨_,Z'⟩ .nil),⟨_,e3,Z',⟨_,Z'⟩,Z'⟩⟩,.inr ⟨p,Z'⟩⟩
 refine⟨.ref S,H2,I1.many (t':=tk) k' low λb u hb z=>(newOk b u hb z).1,Z',q S H2 ws (fr S (jT lowS)) (λb u z=>by rw[low b (I1.m8.lt z)];exact z) eS hl tupAt λb u z1 z2=>?_⟩;by_cases hb:b<s1.heap.objs.size
 .rw[low b hb,z1]at z2;cases z2
 .exact(newOk b u (jX hb) z2).2
end L2
namespace L3
open L2
noncomputable def AQ(p:Str×Int):D:=.tup [.str p.1,.int p.2]
def SB(ta:T3):T3:=λU M Q=>ta U M λx M1=>match x with
 | .ref a=>∃ps:T0 (Str×Int),zr M1 a=Fa (ps.map λp=>((Sum.inr p.1:rm),D.int p.2))/\ps.length<=3/\∀S,M1 S=Db->Q (.ref S) (pQ M1 S (.lst ((tR ps).map AQ)))
 | _=>False
theorem B1{K:qC}:∀{ps:T0 (Str×Int)} {vs:T0 (rm×V)},vs.map (·.1)=(ps.map λp=>((Sum.inr p.1:rm),D.int p.2)).map (·.1)->qA K H ((ps.map λp=>((Sum.inr p.1:rm),D.int p.2)).map (·.2)) (vs.map (·.2))->vs=ps.map (λp=>((Sum.inr p.1:rm),V.int p.2))
 | [],[],_,_=>rfl
 | [],_::_,e,_=>by cases e
 | _::_,[],e,_=>by cases e
 | p::ps,(k,v)::vs,e,h=>by obtain⟨x,r,e2,h1,h2⟩:=h.inv;obtain⟨e3,e4⟩:=gz e2;obtain⟨f1,f2⟩:=gz e;subst e3 e4;have hk:k=Sum.inr p.1:=f1;have hv:v=V.int p.2:=rZ.int_inv h1;rw[B1 f2 h2,hk,hv];rfl
def EY{X:Cx}{p pos XW XZ:Pos}(hc:X.calm=pc)(he:E3 X o ta)(hg:Gl X "sorted")(hm:X.mg "sorted"=Db) (X6:Ps o "items" X.env (wp o X.env)=wp o X.env:=by rfl) (Yg:(XW.endLine==XZ.line)=pc:=by rfl):
  E3 X (.Call (.Name "sorted" p) [.Call (.Attribute o "items" XW) [] [] XZ] [] pos) (SB ta):=PE.mono (EL hc he hg hm X6 Yg) λY H Q' zz=>x7 zz λU M Q hs hm ht k=>
 ⟨U,M,_,hs,hm,ht,λv H1 d M1 hd XT e1 q1=>by
  cases d with
  | ref a=>
   cases hd.mT;obtain⟨ps,f1,f2,q⟩:=q1;obtain⟨vs,h1,h2,h3⟩:=zv XT f1;refine⟨a,vs,ps,Z',h1,B1 h2 h3,f2,λS H2 ws n1 kp eS hl hw hn=>?_⟩;have ex:qY X.K H1 H2:=⟨λb xs z=>by
    rcases z with(z|⟨u,z⟩)|z
    .exact .inl (.inl (kp _ _ z))
    .exact .inl (.inr ⟨u,kp _ _ z⟩)
    .exact .inr z,λb u xs z=>kp _ _ z⟩
   have hl2:(tR ps).length=ws.length:=by rw[D0 f2,hl]
   have hasW:∀(l:T0 (Str×Int)) (us:QXQ),l.length=us.length->(∀(j:Nat) (a:Uf) (p:Str×Int),us[j]?=Fa a->l[j]?=Fa p->H2 a=Fa (.tup [.str p.1,.int p.2]))->qA X.K H2 (l.map AQ) (us.map V.ref):=λl=>by
    induction l with
    | nil=>intro us e _;cases us with
     | nil=>exact .nil
     | cons _ _=>cases e
    | cons c r ih=>intro us e hu;cases us with
     | nil=>cases e
     | cons b us=>exact .cons (.tup (.of (hu 0 b c Z' Z')) (.cons .str (.cons .int .nil))) (ih us (by simpa using e) λj a p e1 e2=>hu (j+1) a p e1 e2)
   refine k _ _ _ _ .ref (λb c z=>?_) (e1.trans ex) (q S (XT.fresh n1));by_cases eb:b=S
   .subst eb;rw[pZ]at z;cases z;exact⟨_,eS,hasW _ _ hl2 hw⟩
   .rw[sU eb]at z;have ok:=XT b c z;obtain⟨u,eu,_⟩:=ok.there;exact ok.keep ex (by rw[eu,kp _ _ eu])
  | _=>exact q1.elim⟩
variable {X:Cx}{pos:Pos}{a b o i:Go}{ta tb ti to:T3}
def VH(to ti:T3):Dj:=λd U M Q=>to U M λx M1=>ti U M1 λy M2=>match x,y with
 | .ref p,.int k=>(oN M2 p).elim False λes=>(GT es.length k).elim False λj=>Q U (pQ M2 p (.lst (es.set j d)))
 | _,_=>False
theorem qA.set{K:qC}(hv:rZ K H d v):∀{ds:T0 D} {xs:T0 V} (j:Nat),qA K H ds xs->qA K H (ds.set j d) (xs.set j v)
 | [],_,j,h=>by rw[h.nil_inv];simp only[List.set_nil];exact .nil
 | e::ds,_,0,h=>by obtain⟨x,r,rfl,h1,h2⟩:=h.inv;exact .cons hv h2
 | e::ds,_,j+1,h=>by obtain⟨x,r,rfl,h1,h2⟩:=h.inv;exact .cons h1 (qA.set hv j h2)
def T8(ho:E3 X o to)(hi:E3 X i ti) (ha:∀v,assign (.Subscript o i pos) X.env v=(do
   let ov<-ZB [v] (wp o X.env);let iv<-ZB [v,ov] (wp i X.env)
   XXa pos
   ZB [v,ov,iv] (setItem ov iv v)
   release [v,ov,iv] []):=by intro _;rfl):G3 X (.Subscript o i pos) (VH to ti):=
 PG.mono (TU ho hi L9 ha) λv Y H Q' ⟨d,U,M,Q,hd,hs,hm,ht,k⟩=>
 ⟨U,M,_,hs,hm,ht,λvx H1 x M1 hx XT e1 q1=>⟨U,M1,_,hs.mono e1,XT,q1,λvy H2 y M2 hy Ya e2 q2=>by
  cases x with
  | ref p=>
   cases y with
   | int j0=>obtain⟨es,f1,q2⟩:=qZ q2;obtain⟨j,f2,q2⟩:=qZ q2;cases(hx.mono e2).mT;cases hy.int_inv;obtain⟨xs,h1,h2⟩:=F6 Ya f1;refine⟨p,xs,j0,j,Z',Z',h1,by rw[<-h2.length];exact f2,?_⟩;have hd2:=hd.mono (e1.trans e2);obtain⟨YL,e3⟩:=Ya.put (o:=.lst (xs.set j v)) (c:=.lst (es.set j d)) (qE f1) λex=>⟨_,qw,(h2.mono ex).set (hd2.mono ex) j⟩;exact k Y _ U _ (hs.mono (e1.trans (e2.trans e3))) YL (e1.trans (e2.trans e3)) Z' q2
   | _=>exact q2.elim
  | _=>exact q2.elim⟩⟩
end L3
namespace L2
variable {prog:Pg}{w:Wo}{A:Ar}{E:QQX}{s:Sd}{X:Cx}
end L2
namespace L3
open L2
variable {X:Cx}{pos XW p:Pos}{a b o e i value:Go}{es:T0 Go}{ta tb ti to tv td tk:T3}{t:ya}
def So(x y:D)(M:Mp)(Q:DK):Prop:=match x,y with
 | .ref a,.int k=>(oN M a).elim False λes=>(0<=k/\k<=1000/\es.length<=1000)/\∀p,M p=Db->Q (.ref p) (pQ M p (.lst (List.replicate k.toNat es).flatten))
 | _,_=>False
theorem Jj{K:qC}(h:qA K H ds xs):∀n:Nat,qA K H (List.replicate n ds).flatten (List.replicate n xs).flatten
 | 0=>.nil
 | n+1=>by rw[eQ,eQ,fT,fT];exact h.append (Jj h n)
def SW:xI X (sK .Mult) (R3 X.K So):=λXQ s Y H vx vy v u Q' I rx ry h=>by
 obtain⟨x,y,M,Q,hx,hy,hm,q,k⟩:=h;unfold So at q;split at q
 .obtain⟨es,e1,⟨q1,q2,q3⟩,q⟩:=qZ q;cases hx.mT;cases hy.int_inv;obtain⟨xs,h1,h2⟩:=F6 hm e1;have hz:=dR;have hl:=h2.length;refine R8 XQ s Y H _ _ v u Q' I rx ry ⟨_,_,xs,Z',Z',h1,by lia,by lia,?_,λpp hp=>?_⟩
  .exact eE (kE (show xs.length<=1000 by lia) (show Int.toNat _<=1000 by lia)) (by rw[hz];decide)
  .exact k _ _ _ _ .ref (hm.new (c:=.lst _) hp ⟨_,qw,(Jj h2 _).mono (.new hp)⟩) (.new hp) (q pp (hm.fresh hp))
 .exact q.elim
def UQ(ta tb:T3):T3:=λU M Q=>ta U M λx M1=>tb U M1 λy M2=>So x y M2 Q
def Ce(ha:E3 X a ta)(hb:E3 X b tb):E3 X (.BinOp a .Mult b pos) (UQ ta tb):=PE.mono (LB SW ha hb) Gz
noncomputable def CP(kvs:T0 (rm×D))(k:rm)(v:D):T0 (rm×D):=if (kvs.any λkv=>decide (kv.1=k))=pc then kvs.map (λkv=>if kv.1=k then(kv.1,v)else kv)else kvs++[(k,v)]
theorem GQ{κ α β:Type}{k:κ}[DecidableEq κ]:∀{xs:T0 (κ×α)} {ys:T0 (κ×β)},xs.map (·.1)=ys.map (·.1)->(xs.any λkv=>decide (kv.1=k))=ys.any λkv=>decide (kv.1=k)
 | [],[],_=>rfl
 | [],_::_,e=>by cases e
 | _::_,[],e=>by cases e
 | x::xs,y::ys,e=>by obtain⟨e1,e2⟩:=gz e;rw[fR,fR,GQ e2];have e1:x.1=y.1:=e1;rw[e1]
def Kf{K:qC}{k:rm}(hv:rZ K H d v){kvs:T0 (rm×D)}{vs:T0 (rm×V)}(h1:vs.map (·.1)=kvs.map (·.1))(h2:qA K H (kvs.map (·.2)) (vs.map (·.2))):
  (yQ vs k v).map (·.1)=(CP kvs k d).map (·.1)/\qA K H ((CP kvs k d).map (·.2)) ((yQ vs k v).map (·.2)):=by
 have go:∀{kvs:T0 (rm×D)} {vs:T0 (rm×V)},vs.map (·.1)=kvs.map (·.1)->qA K H (kvs.map (·.2)) (vs.map (·.2))->
   (vs.map (λkv=>if kv.1=k then(kv.1,v)else kv)).map (·.1)=(kvs.map (λkv=>if kv.1=k then(kv.1,d)else kv)).map (·.1)/\qA K H ((kvs.map (λkv=>if kv.1=k then(kv.1,d)else kv)).map (·.2)) ((vs.map (λkv=>if kv.1=k then(kv.1,v)else kv)).map (·.2)):=λ{kvs}=>by
  induction kvs with
  | nil=>intro vs e h;cases vs with
   | nil=>exact⟨Z',.nil⟩
   | cons _ _=>cases e
  | cons c r ih=>intro vs e h;cases vs with
   | nil=>cases e
   | cons w ws=>
    obtain⟨e1,e2⟩:=gz e;obtain⟨x,xr,e3,g1,g2⟩:=h.inv;obtain⟨e4,e5⟩:=gz e3;subst e4 e5;obtain⟨i1,i2⟩:=ih e2 g2;have e1:w.1=c.1:=e1;by_cases hk:c.1=k
    .have w1:(if w.1=k then(w.1,v)else w)=(w.1,v):=dw (e1.trans hk);have w2:(if c.1=k then(c.1,d)else c)=(c.1,d):=dw hk;simp only[eh,w1,w2];exact⟨by rw[i1,e1],.cons hv i2⟩
    .have w1:(if w.1=k then(w.1,v)else w)=w:=dh λz=>hk (e1.symm.trans z);have w2:(if c.1=k then(c.1,d)else c)=c:=dh hk;simp only[eh,w1,w2];exact⟨by rw[i1,e1],.cons g1 i2⟩
 unfold yQ CP;rw[GQ (k:=k) h1];by_cases hk:(kvs.any λkv=>decide (kv.1=k))=pc
 .rw[dw hk,dw hk];exact go h1 h2
 .rw[dh hk,dh hk];exact⟨by rw[dZ,dZ,h1];rfl,by rw[dZ,dZ];exact h2.append (.cons hv .nil)⟩
def VG(td tk tv:T3):xT:=λD U M=>tv U M λv M1=>td U M1 λx M2=>tk U M2 λy M3=>match x,y with
 | .ref a,.str k=>(zr M3 a).elim False λkvs=>kvs.length<Ch/\D.nx U (pQ M3 a (.dk (CP kvs (.inr k) v)))
 | _,_=>False
def zD{a:Uf}{kvs:T0 (rm×D)}(h:zr M a=Fa kvs):M a=Fa (.dk kvs):=by
 unfold zr at h;split at h
 .rename_i e;rw[e];cases h;rfl
 .cases h
def Qo(hu:X.A.units+9<X')(ho:E3 X o td)(hi:E3 X i tk)(hv:E3 X value tv)(hs:sB value (Fa (.Subscript o i X5)) pos.line X.env=pure lf:=by rfl):S3 X (.Assign [.Subscript o i X5] value pos) (VG td tk tv):=
 PS.mono (OU (by lia) ho hi hv hs) λD' Y H zz=>Lq zz λU M D hs hm ht k1 k2 k3 k4=>
 ⟨U,M,_,hs,hm,ht,λv H1 d M1 hd XT e1 q1=>⟨U,M1,_,hs.mono e1,XT,q1,λvx H2 x M2 hx Ya e2 q2=>⟨U,M2,_,hs.mono (e1.trans e2),Ya,q2,λvy H3 y M3 hy YL e3 q3=>by
  split at q3
  .rename_i a0 k0;obtain⟨kvs,f1,f2,q3⟩:=qZ q3;cases(hx.mono e3).mT;cases hy.str_inv;obtain⟨vs,h1,h2,h3⟩:=zv YL f1;have hl:vs.length=kvs.length:=by have:=eZ List.length h2;simpa using this
   refine⟨_,_,Z',Oc.k (k:=Sum.inr k0) h1 (by lia),?_⟩;have hd3:=hd.mono (e2.trans e3);obtain⟨hm4,e4⟩:=YL.put (o:=.dK (yQ vs (Sum.inr k0) v)) (c:=.dk (CP kvs (.inr k0) d)) (zD f1) λex=>by obtain⟨g1,g2⟩:=Kf (k:=Sum.inr k0) (hd3.mono ex) h2 (h3.mono ex);exact⟨_,qw,g1,g2⟩
   exact k1 Y _ U _ (hs.mono (e1.trans (e2.trans (e3.trans e4)))) hm4 (e1.trans (e2.trans (e3.trans e4))) Z' q3
  .exact q3.elim⟩⟩⟩
variable {XQ:T0 (Uf × Obj)}{Y:St}{H:Hp}{s:Sd}{tp:Pos}{Yi:T0 Go}{n:Nat}
end L3
namespace L2
open Builtin Builtin.Str
variable {prog:Pg}{w:Wo}{A:Ar}{E:QQX}{s:Sd}{X:Cx}
end L2
namespace L3
open L2 Builtin Builtin.Str
variable {X:Cx}{pos XW:Pos}{o e:Go}{es:T0 Go}{ta:T3}{t:ya}
@[irreducible] def SsI (X:Cx) (st:T0 TD) (t:xT):Prop:=HZ X st t
@[irreducible] def SI (X:Cx) (st:TD) (t:xT):Prop:=S3 X st t
@[irreducible] def EI (X:Cx) (e:Go) (t:T3):Prop:=E3 X e t
@[irreducible] def AI (X:Cx) (es:T0 Go) (t:ya):Prop:=A3 X es t
variable {prog:Pg}{w:Wo}{A:Ar}{E:QQX}{s:Sd}{XQ:T0 (Uf × Obj)}{Y:St}{H:Hp}{p tp:Pos}{Yi:T0 Go}{n:Nat}
theorem yt{g:Dj}{tt:AY}{te:T3}{ok:Mp->Prop}{Q:DK}(all:T0 D)(J:T0 D->T0 D->vq->Mp->Prop)(m8:∀p acc U M,J p acc U M->ok M):∀(ds pre acc:T0 D) (U:vq) (M:Mp),pre++ds=all->acc.length+ds.length<=Ch->J pre acc U M->
  (∀pre d post,pre++d::post=all->∀acc U M,J pre acc U M->∀(k:vq->DK) (k2:vq->Mp->Prop),(∀δ2 y M4,J (pre++[d]) (acc++[y]) δ2 M4->k δ2 y M4)->(∀δ2 M3,J (pre++[d]) acc δ2 M3->k2 δ2 M3)->g d U M λδ2 M2=>tt δ2 M2 λb M3=>if b=pc then te δ2 M3 (k δ2)else k2 δ2 M3)->
  (∀acc U M,J all acc U M->∀p,M p=Db->Q (.ref p) (pQ M p (.lst acc)))->vm g tt te ok Q ds acc U M
 | [],pre,acc,U,M,e,hl,j,_,hq=>⟨by simpa using hl,hq acc U M (by rw[<-e,fk];exact j)⟩
 | d::r,pre,acc,U,M,e,hl,j,ht,hq=>by rw[eK]at hl;refine⟨by lia,?_⟩;refine ht pre d r e acc U M j (λδ2 y M4=>ok M4/\vm g tt te ok Q r (acc++[y]) δ2 M4) (λδ2 M3=>ok M3/\vm g tt te ok Q r acc δ2 M3) (λδ2 y M4 j'=>⟨m8 _ _ _ _ j',yt all J m8 r (pre++[d]) (acc++[y]) δ2 M4 (by rw[<-e,fC];rfl) ?_ j' ht hq⟩) λδ2 M3 j'=>⟨m8 _ _ _ _ j',yt all J m8 r (pre++[d]) acc δ2 M3 (by rw[<-e,fC];rfl) (by lia) j' ht hq⟩;rw[dq,dX];lia
end L3
namespace L2
noncomputable def Cx.om(X:Cx)(E:QQX):Cx:={X with xe:=E}
def Inv.om{E:QQX}{XQ:QQY}(I:Inv X XQ Y H s):Inv (X.om E) XQ Y H s:=
 ⟨⟨I.ok.mod,I.ok.kind,I.ok.glob,I.ok.blt,I.ok.above,I.ok.inj,I.ok.has,I.ok.oE,I.ok.hd,I.ok.frames,I.ok.oU,I.ok.pA,I.ok.bs,I.ok.ow,I.ok.n9,I.ok.oj,I.ok.nO,I.ok.oC⟩,I.os,I.bare,I.base,I.loc,I.cell,I.free,I.nv,I.pin,I.m8,I.len⟩
def Inv.xeOf{X:Cx}{E:QQX}{XQ:QQY}(I:Inv (X.om E) XQ Y H s):Inv X XQ Y H s:=
 ⟨⟨I.ok.mod,I.ok.kind,I.ok.glob,I.ok.blt,I.ok.above,I.ok.inj,I.ok.has,I.ok.oE,I.ok.hd,I.ok.frames,I.ok.oU,I.ok.pA,I.ok.bs,I.ok.ow,I.ok.n9,I.ok.oj,I.ok.nO,I.ok.oC⟩,I.os,I.bare,I.base,I.loc,I.cell,I.free,I.nv,I.pin,I.m8,I.len⟩
end L2
namespace L3
open L2
end L3
namespace L2
end L2
namespace L3
open L2
variable {X:Cx}{pos p tp kpos:Pos}{Yi:T0 Go}{n:Nat}
end L3
namespace L2
variable {prog:Pg}{w:Wo}{A:Ar}{E:QQX}{s:Sd}{a:Uf}{U:Type}{k:Str}{tk:Tok}
section
variable {R:U→Vl→Prop}{D:T0 (Str × U)}
end
end L2
namespace L3
open L2
variable {X:Cx}{pos p:Pos}{x:Str}{d:D}{e o i:Go}{ta tb td tk:T3}{F:T0 (Str × QQQ)}
end L3
namespace L2
def LO(h:No)(e:Uf)(cls:Vl)(dx tb:Option Uf)(F:Vl):Prop:=
 ∃oe vs,h.get? e=Fa oe/\oe.cls=cls/\oe.dict=dx/\oe.data=.fields vs/\1<vs.size/\vs[1]?=Fa (tb.elim Value.none Value.ref)/\∀T,tb=Fa T->T≠e/\∃oT ts,h.get? T=Fa oT/\oT.data=.fields ts/\3<ts.size/\ts[3]?=Fa F
def Ph(h:No)(e:Uf)(cls:Vl)(dx tb:Option Uf):Prop:=LO h e cls dx tb Value.none
theorem C0{h base:No}:∀{l:T0 Env} {b:Uf},h.FunFrames base l->b∈wD l->∃o,h.get? b=Fa o/\∀vs,o.data≠.fields vs
 | [],b,_,hb=>by cases hb
 | env::r,b,hF,hb=>by
  obtain⟨_,⟨L,o,hL,_,ho,hd⟩,hr⟩:=hF;have e:wD (env::r)=L::wD r:=by unfold wD;rw[gg,hL]
  rw[e]at hb;rcases dC.mp hb with z|z
  .rw[z];exact⟨o,ho,hd⟩
  .exact C0 hr z
def En{h base:No}{l:T0 Env}{b:Uf}{o:Obj}{vs:Array Vl}(hF:h.FunFrames base l)(ho:h.get? b=Fa o)(hd:o.data=.fields vs):b∉wD l:=λhb=>by obtain⟨o',Yw,hn⟩:=C0 hF hb;rw[ho]at Yw;cases Yw;exact hn vs hd
variable {M:Model}{A:Ar}{s:Sd}{base:No}{env:Env}{outer:T0 Env}{L e:Uf}{cls:Vl}{dx:Option Uf}{Q:Unit→Sd→Prop}
section
variable {E:QQX}
def Qg{Y6:Vl}{Z5:Bool}{oe:Obj}{vs:Array Vl}{Yy:Env}(hcf:Yy.frame=Fa L)(ZP:A.frames=Fa (env::outer))(hF:s.heap.FunFrames base (env::outer))(hL:env.frame=Fa L)(ho:s.heap.get? e=Fa oe)(hd:oe.data=.fields vs)(h1:1<vs.size) (k:∀(h':No) (T:Uf),s.heap.get? T=Db->(∀b o,s.heap.get? b=Fa o->b∉wD (env::outer)->b≠e->h'.get? b=Fa o)->(∀b o,s.heap.get? b=Fa o->b∈wD (env::outer)->∃sl,h'.get? b=Fa {o with slots:=sl})->
   (∃oe',h'.get? e=Fa oe'/\oe'.cls=oe.cls/\oe'.dict=oe.dict/\oe'.data=.fields (vs.setIfInBounds 1 (.ref T)))->(∃oT ts,h'.get? T=Fa oT/\oT.data=.fields ts/\3<ts.size/\ts[3]?=Fa (u8 ↑L))->Q () {s with heap:=h'}):
  pi M A (do
   let a<-PySem.frameOf Yy;let pl<-entryPlaceOf L Z5;let b<-EntryCells.newEntry Y6 a Value.none (u8 ↑L) Value.none pl
   setField (Value.ref e) 1 b) Q E s:=by
 have ne:=En hF ho hd;unfold PySem.frameOf;refine df (df (wpAny_frameEnvs ZP (df ?_)));have ed:List.dropWhile (λx=>x.frame != Yy.frame) (env::outer)=env::outer:=by rw[List.dropWhile_cons,dh (by rw[hL,hcf];simp)]
 rw[ed];unfold frameObject;refine df (wpAny_readyFrames_fun hF λYz hs=>?_);obtain⟨z1,z2,z3⟩:=hs;rw[hL];refine dA (dA ?_);refine df (wpAny_entryPlaceOf λpl hp=>?_);refine df ?_;unfold EntryCells.newEntry newFields;have XY:([Y6,Value.ref L,Value.none,u8 ↑L,Value.none]++if pl.isEmpty=pc then List.replicate 6 Value.none else pl).length=11:=by rw[dq];rcases hp with rfl|⟨_,_,_,_,_,_,_,rfl⟩<;>rfl
 have hfl:([Y6,Value.ref L,Value.none,u8 ↑L,Value.none]++if pl.isEmpty=pc then List.replicate 6 Value.none else pl)[3]?=Fa (u8 ↑L):=rfl;generalize ([Y6,Value.ref L,Value.none,u8 ↑L,Value.none]++if pl.isEmpty=pc then List.replicate 6 Value.none else pl)=fs at XY hfl ⊢;refine fZ ?_ (by
  show fs.toArray.size<=_;rw[dF,XY];decide)
 have e1:Yz.get? e=Fa oe:=by rw[z2 e ne];exact ho
 have e2:(Yz.push {cls:=.type "traceback",data:=.fields fs.toArray}).get? e=Fa oe:=dz _ e1;refine io e2 hd h1 ?_;have tn:s.heap.get? Yz.objs.size=Db:=gQ (by rw[z1];exact dE _);have te:Yz.objs.size≠e:=λz=>by rw[z,ho]at tn;cases tn
 obtain⟨oc,od,odt,YK⟩:=oe;obtain rfl:odt=.fields vs:=hd;have up:∀b,e≠b->((Yz.push {cls:=.type "traceback",data:=.fields fs.toArray}).update e (Obj.mapFields λx=>x.setIfInBounds 1 (.ref Yz.objs.size))).get? b=(Yz.push {cls:=.type "traceback",data:=.fields fs.toArray}).get? b:=λb z=>gi _ _ z;refine k _ Yz.objs.size tn (λb o hb nf ne'=>?_) (λb o hb hf=>?_) ⟨_,fL _ e2 Z',Z',Z',Z'⟩ ⟨_,fs.toArray,(up _ (dW te)).trans (dO _ Z'),Z',by rw[dF,XY];decide,by rw[jb];exact hfl⟩
 .rw[up b (dW ne')];exact dz _ (by rw[z2 b nf];exact hb)
 .obtain⟨sl,q⟩:=z3 b o hb;refine⟨sl,?_⟩;rw[up b (λz=>ne (z ▸ hf))];exact dz _ q
def RN{E₁:QQX}{tb:Option Uf}{F:Vl}{Yy:Env}(hcf:Yy.frame=Fa L)(ZP:A.frames=Fa (env::outer))(hF:s.heap.FunFrames base (env::outer))(hL:env.frame=Fa L)(hx:LO s.heap e cls dx tb F)(hFL:(F==u8 ↑L)=lf) (k:∀(h':No) (T:Uf),s.heap.get? T=Db->(∀b o,s.heap.get? b=Fa o->b∉wD (env::outer)->b≠e->tb≠Fa b->h'.get? b=Fa o)->(∀b o,s.heap.get? b=Fa o->b∈wD (env::outer)->∃sl,h'.get? b=Fa {o with slots:=sl})->
   (∀b,h'.get? b=Db->s.heap.get? b=Db)->LO h' e cls dx (Fa T) (u8 ↑L)->Q () {s with heap:=h'}):pi M A (noteFrame (.ref e) Yy) Q E₁ s:=by
 obtain⟨oe,vs,ho,hc,ZG,hd,h1,hv,hT⟩:=hx;have ne:=En hF ho hd;unfold noteFrame;rw[hcf];refine df (fz ho hd hv ?_);have XX:∀(s1:Sd) (oe1:Obj),s1.gens=s.gens->s1.drawn=s.drawn->s1.toks=s.toks->s1.os=s.os->s1.heap.FunFrames base (env::outer)->s1.heap.get? e=Fa oe1->oe1.cls=cls->oe1.dict=dx->oe1.data=.fields vs->(∀b o,s.heap.get? b=Fa o->b∉wD (env::outer)->b≠e->tb≠Fa b->s1.heap.get? b=Fa o)->
   (∀b o,s.heap.get? b=Fa o->b∈wD (env::outer)->s1.heap.get? b=Fa o)->(∀b,s1.heap.get? b=Db↔s.heap.get? b=Db)->∀(Y6:Vl) (Z5:Bool),pi M A (do
   let a<-PySem.frameOf Yy;let pl<-entryPlaceOf L Z5;let b<-EntryCells.newEntry Y6 a Value.none (u8 ↑L) Value.none pl
   setField (Value.ref e) 1 b) Q E₁ s1:=by
  intro s1 oe1 g1 g2 g3 g4 hF1 ho1 hc1 hdx1 hd1 kb kf kn Y6 Z5;refine Qg hcf ZP hF1 hL ho1 hd1 h1 λh' T tn k1 k2 ⟨oe',he',hce,hdxe,hde⟩ ⟨oT,ts,Y0,Zt,h3,h3v⟩=>?_;have te:T≠e:=λz=>by rw[z,ho1]at tn;cases tn
  have:=k h' T ((kn T).mp tn) (λb o hb nf nb nt=>k1 b o (kb b o hb nf nb nt) nf nb) (λb o hb hf=>k2 b o (kf b o hb hf) hf) (λb hb=>?_) ⟨oe',vs.setIfInBounds 1 (.ref T),he',hce.trans hc1,hdxe.trans hdx1,hde,by rw[j5];exact h1,by rw[iz h1];rfl,λT' eT=>?_⟩
  .show Q () {heap:=_,gens:=s1.gens,drawn:=s1.drawn,toks:=s1.toks,os:=s1.os};rw[g1,g2,g3,g4];exact this
  .refine(kn b).mp ?_;cases q:s1.heap.get? b with
   | none=>rfl
   | some o=>
    by_cases z:b=e
    .rw[z,he']at hb;cases hb
    .by_cases zf:b∈wD (env::outer)
     .obtain⟨sl,q2⟩:=k2 b o q zf;rw[q2]at hb;cases hb
     .rw[k1 b o q zf z]at hb;cases hb
  .cases eT;exact⟨te,oT,ts,Y0,Zt,h3,h3v⟩
 cases tb with
 | none=>rw[dh (show ¬((Db:Option Uf).elim Value.none Value.ref != Value.none)=pc by decide+kernel)];exact XX s oe Z' Z' Z' Z' hF ho hc ZG hd (λb o hb _ _ _=>hb) (λb o hb _=>hb) (λb=>.rfl) _ _
 | some T=>
  obtain⟨nTe,oT,ts,Y0,Zt,h3,hn⟩:=hT T Z';rw[dw (show((Fa T:Option Uf).elim Value.none Value.ref != Value.none)=pc by rfl)];refine df (fz Y0 Zt hn ?_);rw[dh (by rw[hFL];exact dH)];refine df (io Y0 Zt h3 ?_);have up:∀b,T≠b->(s.heap.update T (Obj.mapFields λx=>x.setIfInBounds 3 .none)).get? b=s.heap.get? b:=λb z=>gi _ _ z;have nf:∀b o,s.heap.get? b=Fa o->(∀vs,o.data≠.fields vs)->T≠b:=λb o hb hn z=>by rw[<-z,Y0]at hb;cases hb;exact hn ts Zt
  have sz:∀b,(s.heap.update T (Obj.mapFields λx=>x.setIfInBounds 3 .none)).get? b=Db↔s.heap.get? b=Db:=λb=>by
   by_cases z:T=b
   .rw[<-z];obtain⟨oc,od,odt,YK⟩:=oT;obtain rfl:odt=.fields ts:=Zt;rw[fL _ Y0 Z',Y0];exact⟨(λq=>by cases q),(λq=>by cases q)⟩
   .rw[up b z]
  exact XX {s with heap:=s.heap.update T (Obj.mapFields λx=>x.setIfInBounds 3 .none)} oe Z' Z' Z' Z' (mO (λb o hb hn=>⟨o,(up b (nf b o hb hn)).trans hb,Z'⟩) hF) ((up e nTe).trans ho) hc ZG hd
   (λb o hb _ _ nt=>(up b λz=>nt (by rw[z])).trans hb) (λb o hb hf=>by
    obtain⟨o',Yw,hn⟩:=C0 hF hf;rw[hb]at Yw;cases Yw;exact(up b (nf b o hb hn)).trans hb) sz _ _
def On{T:Uf}{F:Vl}(x:Option Uf)(hx:LO s.heap e cls dx (Fa T) F)(k:∀h':No,(∀b,T≠b->h'.get? b=s.heap.get? b)->(∀b,h'.get? b=Db↔s.heap.get? b=Db)->LO h' e cls dx (Fa T) (x.elim .none λf=>u8 f)->Q () {s with heap:=h'}):pi M A (setFlight (.ref e) x) Q E s:=by
 obtain⟨oe,vs,ho,hc,ZG,hd,h1,hv,hT⟩:=hx;obtain⟨nTe,oT,ts,Y0,Zt,h3,hn⟩:=hT T Z';unfold setFlight;refine df (fz ho hd hv ?_);rw[dw (by rfl)];refine io Y0 Zt h3 ?_;obtain⟨oc,od,odt,YK⟩:=oT;obtain rfl:odt=.fields ts:=Zt;have up:∀b,T≠b->(s.heap.update T (Obj.mapFields λy=>y.setIfInBounds 3 (x.elim .none λf=>u8 f))).get? b=s.heap.get? b:=λb z=>gi _ _ z;refine k _ up (λb=>?_) ⟨oe,vs,(up e nTe).trans ho,hc,ZG,hd,h1,hv,λT' eT=>?_⟩
 .by_cases z:T=b
  .rw[<-z,fL _ Y0 Z',Y0];exact⟨(λq=>by cases q),(λq=>by cases q)⟩
  .rw[up b z]
 .cases eT;exact⟨nTe,_,ts.setIfInBounds 3 (x.elim .none λf=>u8 f),fL _ Y0 Z',Z',by rw[j5];exact h3,by rw[iz h3]⟩
def I0{E₁ E₂:QQX}{tb:Option Uf}(ZP:A.frames=Fa (env::outer))(hF:s.heap.FunFrames base (env::outer))(hL:env.frame=Fa L)(hx:Ph s.heap e cls dx tb) (k:∀(h':No) (T:Uf),s.heap.get? T=Db->(∀b o,s.heap.get? b=Fa o->b∉wD (env::outer)->b≠e->tb≠Fa b->h'.get? b=Fa o)->(∀b o,s.heap.get? b=Fa o->b∈wD (env::outer)->∃sl,h'.get? b=Fa {o with slots:=sl})->
   Ph h' e cls dx (Fa T)->Q () {s with heap:=h'}):pi M A (noteFrame (.ref e) env) (λ_ s₂=>pi M A (setFlight (.ref e) Db) Q E₂ s₂) E₁ s:=by
 refine RN hL ZP hF hL hx (dB.mpr λz=>by have:=fh.mp z;cases this) λh' T tn k1 k2 _ x'=>?_;refine On Db x' λh2 up _ x2=>k h2 T tn (λb o hb nf nb nt=>?_) (λb o hb hf=>?_) x2
 .have tb:T≠b:=λz=>by rw[z,hb]at tn;cases tn
  exact(up b tb).trans (k1 b o hb nf nb nt)
 .have tb:T≠b:=λz=>by rw[z,hb]at tn;cases tn
  obtain⟨sl,q⟩:=k2 b o hb hf;exact⟨sl,(up b tb).trans q⟩
def QY{tb:Option Uf}(ZP:A.frames=Fa (env::outer))(hF:s.heap.FunFrames base (env::outer))(hL:env.frame=Fa L)(hx:Ph s.heap e cls dx tb) (k:∀(h':No) (T:Uf),s.heap.get? T=Db->(∀b o,s.heap.get? b=Fa o->b∉wD (env::outer)->b≠e->tb≠Fa b->h'.get? b=Fa o)->(∀b o,s.heap.get? b=Fa o->b∈wD (env::outer)->∃sl,h'.get? b=Fa {o with slots:=sl})->
   Ph h' e cls dx (Fa T)->Q () {s with heap:=h'}):pi M A (leaving env (.ref e)) Q E s:=df (I0 ZP hF hL hx k)
end
def C9(P:Pg)(w:Wo):Lo:=λouter H s E ev s'=>FV λe C dx H' tb=>ev=.ref e/\E (.ref C) dx H'/\s'.os=s.os/\XXk s'.gens/\Un (wD outer) [] H H' s.heap s'.heap/\yB P w H' s'.heap/\
 Ph s'.heap e (.ref C) dx (Fa tb)/\s.heap.get? e=Db/\s.heap.get? tb=Db/\H' e=Db/\H' tb=Db
def yC{o:HO}(x:su P w H h a o):∃ob,h.get? a=Fa ob:=by
 cases o with
 | lst xs=>obtain⟨_,_,_,_,e⟩:=x;exact⟨_,e⟩
 | tup xs=>obtain⟨_,_,_,o,e,_⟩:=x;exact⟨_,e⟩
 | dK kvs=>obtain⟨_,_,_,_,o,_,_,e,_⟩:=x;exact⟨_,e⟩
 | dT kvs=>obtain⟨_,_,_,_,o,_,_,e,_⟩:=x;exact⟨_,e⟩
 | set S n=>obtain⟨o,_,_,_,e,_⟩:=x;exact⟨_,e⟩
 | ins C dx fs=>obtain⟨_,_,_,e,_⟩:=x;exact⟨_,e⟩
 | own y=>exact x
 | xd fs=>obtain⟨_,⟨_,_,_,e,_⟩,_⟩:=x;exact⟨_,e⟩
 | rng lo hi=>obtain⟨_,_,_,e⟩:=x;exact⟨_,e⟩
 | frz ob u=>obtain⟨e,_⟩:=x;exact⟨_,e⟩
 | tbl ps=>exact⟨_,x⟩
 | met f y=>exact⟨_,x⟩
 | ext φ=>obtain⟨_,e,_⟩:=x;exact e
def zm{T:Uf}(m8:yB P w H h)(tn:h.get? T=Db):H T=Db:=by
 cases z:H T with
 | none=>rfl
 | some o=>obtain⟨ob,hob⟩:=yC (m8 T o z);rw[hob]at tn;cases tn
variable {P:Pg}{w:Wo}{K:qC}{mg:QQZ}{N:QQQ}{qual:Str}{scope:XXb}{f:Uf}{cd:Vl}{s0:Sd}{H0:Hp}
section
variable {E:XK}
def Hh(u:Un fs ex H H' h h')(hex:ex=[]){b:Uf}(hb:h'.get? b=Db):h.get? b=Db:=by
 cases q:h.get? b with
 | none=>rfl
 | some o=>obtain⟨o',e⟩:=u.there b o q (by rw[hex];simp);rw[e]at hb;cases hb
def M8{XQ:QQY}{e C T:Uf}{tb dx:Option Uf}{h':No}(I:Inv (vL (C9 P w) P w K mg base N qual scope f cd A outer s0 H0 E) XQ Y H s)(he:s0.heap.get? e=Db)(Yp:∀T,tb=Fa T->s0.heap.get? T=Db/\H T=Db)(hn:H e=Db)(q:E (.ref C) dx H)(hT:s0.heap.get? T=Db/\H T=Db) (k1:∀b o,s.heap.get? b=Fa o->b∉wD (xL qual scope s0.heap.objs.size f cd::outer)->b≠e->tb≠Fa b->h'.get? b=Fa o) (k2:∀b o,s.heap.get? b=Fa o->b∈wD (xL qual scope s0.heap.objs.size f cd::outer)->∃sl,h'.get? b=Fa {o with slots:=sl}) (x':Ph h' e (.ref C) dx (Fa T)):
  C9 P w outer H0 s0 E (.ref e) {s with heap:=h'}:=by
 have YB:=I.nR;have X7:∀b o,H b=Fa o->∀u,s.heap.get? b=Fa u->h'.get? b=Fa u:=λb o hb u hu=>k1 b u hu (λz=>by rw[YB b z]at hb;cases hb) (λz=>by rw[z,hn]at hb;cases hb) (λz=>by rw[(Yp b z).2]at hb;cases hb);have oldf:∀b o,s0.heap.get? b=Fa o->b∉wD [xL qual scope s0.heap.objs.size f cd]:=λb o hb z=>by
  have:b=s0.heap.objs.size:=by have hz:b∈[s0.heap.objs.size]:=z;exact dI.mp hz
  rw[this]at hb;exact absurd (dG hb) (fu _)
 have fr:∀b,b∈wD (xL qual scope s0.heap.objs.size f cd::outer)->b∈wD [xL qual scope s0.heap.objs.size f cd]\/b∈wD outer:=λb hb=>by
  have hb:b∈s0.heap.objs.size::wD outer:=hb;rcases dC.mp hb with z|z
  .exact .inl (by rw[z];exact dY)
  .exact .inr z
 have Yj:Un (wD outer) [] H0 H s0.heap s.heap:=I.base;refine⟨e,C,dx,H,T,Z',q,I.os,I.bare,⟨λb o hb h0 nf ne=>?_,λb o hb h0 hf ne=>?_,Yj.free,λb o hb ne=>?_,Yj.nK,Yj.nI,Yj.nP⟩,λb o hb=>?_,x',he,hT.1,hn,hT.2⟩
 .have hs:=Yj.keep b o hb h0 nf ne;refine k1 b o hs (λz=>?_) (λz=>by rw[z,he]at hb;cases hb) λz=>by rw[(Yp b z).1]at hb;cases hb
  rcases fr b z with z|z
  .exact oldf b o hb z
  .exact nf z
 .obtain⟨sl,hs⟩:=Yj.slot b o hb h0 hf ne;have:b∈wD (xL qual scope s0.heap.objs.size f cd::outer):=dN _ hf;obtain⟨Zh,h2⟩:=k2 b _ hs this;exact⟨Zh,h2⟩
 .obtain⟨o',hs⟩:=Yj.there b o hb ne;by_cases z:b∈wD (xL qual scope s0.heap.objs.size f cd::outer)
  .obtain⟨sl,h2⟩:=k2 b o' hs z;exact⟨_,h2⟩
  .exact⟨o',k1 b o' hs z (λz=>by rw[z,he]at hb;cases hb) λz=>by rw[(Yp b z).1]at hb;cases hb⟩
 .refine(I.m8 b o hb).nG (λb' u YH hu=>?_) (λ_ q=>q) λ_ _ q=>q;rcases YH with z|z
  .subst z;exact X7 b' o hb u hu
  .exact X7 b' _ z u hu
def Vp{XQ:QQY}{e C:Uf}{tb dx:Option Uf}(I:Inv (vL (C9 P w) P w K mg base N qual scope f cd A outer s0 H0 E) XQ Y H s)(hx:Ph s.heap e (.ref C) dx tb)(he:s0.heap.get? e=Db)(hT:∀T,tb=Fa T->s0.heap.get? T=Db/\H T=Db)(hn:H e=Db)(q:E (.ref C) dx H):
  (vL (C9 P w) P w K mg base N qual scope f cd A outer s0 H0 E).xe (.ref e) s:=
 QY (base:=base) (outer:=outer) I.ok.frames I.stack Z' hx λh' T tn k1 k2 x'=>M8 I he hT hn q ⟨Hh (show Un (wD outer) [] H0 H s0.heap s.heap from I.base) Z' tn,zm I.m8 tn⟩ k1 k2 x'
end
section
variable {E:XK}
end
def KZ(d:Uf)(f:Str)(v:V)(h:No):Prop:=∃u,h.Ns1 d (λy=>if y=f then Fa u else Db)/\qQ v u
end L2
namespace L3
open L2
abbrev XR:=Uf->Option (Str×D)->Mp->Prop
abbrev HB:=T0 D->Mp->DK->XR->Prop
def Us(K:qC)(H:Hp)(dx:Option Uf)(y:Option (Str×D)):Prop:=(dx=Db/\y=Db)\/Au λd f z v=>dx=Fa d/\y=Fa (f,z)/\H d=Fa (.ext (KZ d f v))/\rZ K H z v
def UX(K:qC)(R:XR)(E:XK):Prop:=∀C dx H M y,HM K H M->Us K H dx y->R C y M->E (.ref C) dx H
def Xc(K:qC)(sp:HB):Sp:=λvs H Q' E=>Au λds M Q R=>qA K H ds vs/\HM K H M/\sp ds M Q R/\Up K H Q' Q/\UX K R E
abbrev T7(P:Pg)(w:Wo)(K:qC)(mg:QQZ)(base:No)(k:Nat)(f:Uf)(fd:Ix)(ps:QQQ)(sp:HB):Prop:=xK P w K mg base (C9 P w) k f fd ps (Xc K sp)
variable {X:Cx}{x:Str}{p pos np XZ:Pos}{e:Go}{es:T0 Go}{t:ya}{k:Nat}{f C:Uf}{fd:Ix}{ps:QQQ}{sp:HB}{R:XR}{E:XK}{P:Pg}{w:Wo}{K:qC}{mg:QQZ}{base:No}{N:QQQ}{qual:Str}{scope:XXb}{cd:Vl}{A:Ar}{outer:T0 Env}{s0:Sd}{H0:Hp}{ta:ya}
def UH{st:TD}{sp:HB}(F:Pe K x qual st f fd)(S:tN N ps (qu st))(len:∀ds M Q R,sp ds M Q R->ds.length=ps.length) (Yf:∀(X1:Vl) (A:Ar) (outer:T0 Env) (s:Sd) (H:Hp) (E:XK) (R:XR),sC k (A.deeper (xL qual (qu st) s.heap.objs.size f X1))->UX K R E->
   ∃t,HZ (vL (C9 P w) P w K mg base N qual (qu st) f X1 A outer s H E) (sd st) t/\∀ds M Q,sp ds M Q R->t {nx:=λ_ M'=>∃XU,qO XU M'/\Q .mY XU,rt:=λd M'=>∃XU,qO XU M'/\Q d XU} (xg N ds) M):T7 P w K mg base (k+1) f fd ps sp:=by
 obtain⟨oc,od,kV,Yu,pm,an,X1,ct,YK,rfl,lk,Yl⟩:=F.ex;refine MY lk Yl S (λvs H Q E h=>?_) λA outer s H vs Q' E hr h=>?_
 .obtain⟨ds,M,Q,R,hd,_,hs,_⟩:=h;rw[<-hd.length];exact len ds M Q R hs
 .obtain⟨ds,M,Q,R,hd,hm,hs,k,hR⟩:=h;obtain⟨t,ht,hb⟩:=Yf X1 A outer s H E R hr hR;exact⟨_,ht,xg N ds,M,_,EB hd,hm,hb ds M Q hs,λσ' H' δ' M' _ x2 x3 _ ⟨XU,y1,y2⟩=>k .mY H' .mY XU .mY (x2.sub y1) x3 y2,λv H' d M' x1 x2 x3 ⟨XU,y1,y2⟩=>k v H' d XU x1 (x2.sub y1) x3 y2,λ_ _ _ _ _ _ _ _ z=>z,λ_ _ _ _ _ _ _ _ z=>z⟩
end L3
namespace L2
def TKept(H H':Hp):Prop:=(∀b xs,H b=Fa (.tup xs)->H' b=Fa (.tup xs))/\∀b o u,H b=Fa (.frz o u)->H' b=Fa (.frz o u)
def Wk(X:Cx)(XQ:QQY)(Y:St)(J:Hp->Prop)(E:XK)(ev:Vl)(s':Sd):Prop:=z9 λH s=>J H/\Inv X XQ Y H s/\C9 X.prog X.w X.stack H s E ev s'
def VS(X:Cx)(XQ:QQY)(Y:St)(J:Hp->Prop)(E:XK)(ev:Vl)(s':Sd):Prop:=Uk λa C dx H' tb H1 s1=>ev=.ref a/\E (.ref C) dx H'/\Inv X XQ Y H' s'/\Ph s'.heap a (.ref C) dx (Fa tb)/\H' a=Db/\H' tb=Db/\J H1/\TKept H1 H'/\Inv X XQ Y H1 s1/\s1.heap.get? a=Db
def Tr{M:Model}{E₁ E₂:QQX}{XQ:QQY}{E:XK}{outer:T0 Env}{L:Uf}(h:Wk X XQ Y J E ev s')(Ye:X.stack=X.env::outer)(hL:X.env.frame=Fa L):
  pi M X.A (noteFrame ev X.env) (λ_ s₂=>pi M X.A (setFlight ev Db) (λ_ s₃=>VS X XQ Y J E ev s₃) E₂ s₂) E₁ s':=by
 obtain⟨H,s,jH,I,e,C,dx,H',tb,rfl,q,os,bare,un,m8,x,he,ht,ne,nt⟩:=h;obtain⟨hh,g,d,t,os'⟩:=s';obtain rfl:os'=s.os:=os;have I':=I.call (h':=hh) (g':=g) (d':=d) (t':=t) (ch:=[]) un m8 bare (λb z=>absurd z (by simp));have hF:=I'.stack;have YB:=I'.nR;have ZP:=I.ok.frames;rw[Ye]at hF ZP;refine I0 (base:=X.base) (outer:=outer) ZP hF hL x λh' T tn k1 k2 x'=>?_;have X7:∀b o,H' b=Fa o->∀u,hh.get? b=Fa u->h'.get? b=Fa u:=λb o hb u hu=>k1 b u hu (λz=>by rw[YB b (by rw[Ye];exact z)]at hb;cases hb) (λz=>by rw[z,ne]at hb;cases hb) (λz=>by cases z;rw[nt]at hb;cases hb);have un':Un (wD X.stack) [] H H' s.heap h':=by
  refine⟨λb o hb h0 nf nx=>?_,λb o hb h0 hf nx=>?_,un.free,λb o hb nx=>?_,un.nK,un.nI,un.nP⟩
  .exact k1 b o (un.keep b o hb h0 nf nx) (λz=>nf (by rw[Ye];exact z)) (λz=>by rw[z,he]at hb;cases hb) λz=>by cases z;rw[ht]at hb;cases hb
  .obtain⟨sl,hs⟩:=un.slot b o hb h0 hf nx;obtain⟨Zh,h2⟩:=k2 b _ hs (by rw[<-Ye];exact hf);exact⟨Zh,h2⟩
  .obtain⟨o',hs⟩:=un.there b o hb nx;by_cases z:b∈wD (X.env::outer)
   .obtain⟨sl,h2⟩:=k2 b o' hs z;exact⟨_,h2⟩
   .exact⟨o',k1 b o' hs z (λz=>by rw[z,he]at hb;cases hb) λz=>by cases z;rw[ht]at hb;cases hb⟩
 have hok':yB X.prog X.w H' h':=λb o hb=>(m8 b o hb).nG (λb' u YH hu=>by
  rcases YH with z|z
  .subst z;exact X7 b' o hb u hu
  .exact X7 b' _ z u hu) (λ_ q=>q) λ_ _ q=>q
 have I3:Inv X XQ Y H' {heap:=h',gens:=g,drawn:=d,toks:=t,os:=s.os}:=Inv.call (s:=s) (ch:=[]) I un' hok' bare (λb z=>absurd z (by simp));refine⟨e,C,dx,H',T,H,s,Z',q,I3,x',ne,?_,jH,⟨un.nK,un.nI⟩,I,he⟩;cases z:H' T with
 | none=>rfl
 | some o=>obtain⟨ob,hob⟩:=yC (m8 T o z);have tn:hh.get? T=Db:=tn;rw[hob]at tn;cases tn
variable {X:Cx}{XQ:T0 (Uf × Obj)}{Y σ':St}{H H1:Hp}{s s1:Sd}{ev:Vl}{E':QQX}{a:Uf}
def Inv.adopt{o:HO}(I:Inv X XQ Y H s)(I1:Inv X XQ σ' H1 s1)(n1:s1.heap.get? a=Db)(hn:H a=Db)(ok:su X.prog X.w (upd H a o) s.heap a o):Inv X XQ Y (upd H a o) s:=by
 have ne:∀b ob,s1.heap.get? b=Fa ob->b≠a:=λb ob e z=>by rw[z,n1]at e;cases e
 have nh:∀b ob,H b=Fa ob->b≠a:=λb ob e z=>by rw[z,hn]at e;cases e
 refine⟨I.ok,I.os,I.bare,⟨I.base.keep,I.base.slot,λb o' e h0 hb=>?_,I.base.there,λb xs e=>?_,λb o' u e=>?_,λb ps e=>?_⟩,I.loc,I.cell,?_,λx c e=>?_,λp hp=>?_,λb ob e=>?_,I.len⟩
 .obtain⟨o2,e2⟩:=I1.base.there b o' e hb;rw[qk (ne b o2 e2)];exact I.base.free b o' e h0 hb
 .have:=I.base.nK b xs e;rw[qk (nh b _ this)];exact this
 .have:=I.base.nI b o' u e;rw[qk (nh b _ this)];exact this
 .obtain⟨more,this⟩:=I.base.nP b ps e;exact⟨more,by rw[qk (nh b _ this)];exact this⟩
 .obtain⟨m,⟨o2,_,_,e2,_⟩,_⟩:=I1.loc;rw[qk (ne _ o2 e2)];exact I.free
 .obtain⟨v,o2,e2,_⟩:=I1.cell x c e;rw[qk (ne _ o2 e2)];exact I.nv x c e
 .obtain⟨e1,e2,e3,e4,e5⟩:=I.pin p hp;exact⟨e1,by rw[qk (ne _ _ (I1.pin p hp).1)];exact e2,e3,e4,e5⟩
 .by_cases z:b=a
  .subst z;rw[qw]at e;cases e;exact ok
  .rw[qk z]at e;exact(I.m8 b ob e).nG (λ_ _ _ q=>q) (λb' q=>by rw[qk (nh b' _ q)];exact q) λb' xs q=>by rw[qk (nh b' _ q)];exact q
def Inv.locs{h':No}{m':QQZ}(I:Inv X XQ Y H s)(hn:h'.Ns X.env.locals m')(hs:Heap.SameBut X.env.locals s.heap h')(hl:σ'.length=X.N.length) (hm:∀m,s.heap.Ns X.env.locals m->(∀(i:Nat) (x:Str) (v:V),X.N[i]?=Fa x->Y[i]?=Fa (Fa v)->RV X.env.scope x->∃u,qQ v u/\Uq X.env s.heap m x u)->∀(i:Nat) (x:Str) (v:V),X.N[i]?=Fa x->σ'[i]?=Fa (Fa v)->RV X.env.scope x->∃u,qQ v u/\((X.env.kindOf x=Fa .local/\m' x=Fa u)\/((X.env.kindOf x=Fa .cell\/X.env.kindOf x=Fa .free)/\∃c,X.env.cells.lookup x=Fa c/\s.heap.IsCell c (Fa u)))):Inv X XQ σ' H {s with heap:=h'}:=by
 obtain⟨m,hn0,hl0⟩:=id I.loc;obtain⟨oL,_,_,hoL,_⟩:=id hn0;have pz:=I.pz;refine⟨I.ok,I.os,I.bare,⟨λb o e n hb hx=>?_,λb o e n hb hx=>?_,I.base.free,λb o e hx=>?_,I.base.nK,I.base.nI,I.base.nP⟩,⟨_,hn,λj y v' e1 e2 e3=>?_⟩,λy c e=>?_,I.free,I.nv,λp hp=>?_,λb ob e=>?_,hl⟩
 .exact(hs.2 b (dP (dU (dG e) I.ok.above))).trans (I.base.keep b o e n hb hx)
 .obtain⟨sl,e1⟩:=I.base.slot b o e n hb hx;exact⟨sl,(hs.2 b (dP (dU (dG e) I.ok.above))).trans e1⟩
 .obtain⟨o',e1⟩:=I.base.there b o e hx;exact⟨o',(hs.2 b (dP (dU (dG e) I.ok.above))).trans e1⟩
 .obtain⟨u,r,q⟩:=hm m hn0 hl0 j y v' e1 e2 e3;refine⟨u,r,?_⟩;rcases q with q|⟨k,c,e,z⟩
  .exact .inl q
  .exact .inr ⟨k,c,e,z.sameBut hs (pz y c e)⟩
 .obtain⟨w',z⟩:=I.cell y c e;exact⟨w',z.sameBut hs (pz y c e)⟩
 .obtain⟨e,n,ne,nf,d⟩:=I.pin p hp;exact⟨(hs.2 p.1 ne).trans e,n,ne,nf,d⟩
 .refine(I.m8 b ob e).nG (λc w' hc q=>(hs.2 c ?_).trans q) (λ_ q=>q) λ_ _ q=>q
  rintro rfl
  rcases hc with hc|hc
  .rw[<-hc,I.free]at e;cases e
  .rw[I.free]at hc;cases hc
def yy{M:Model}{A:Ar}{E:QQX}{i:Nat}{n:Str}{pos:Pos}{Q:Unit->Sd->Prop}(I:Inv X XQ Y H s)(hN:X.N.Nodup)(hi:X.N[i]?=Fa n)(hk:X.env.scope.names.lookup n=Fa .local) (h:∀s',Inv X XQ (Y.set i Db) H s'->Q () s'):pi M A (do
   bindName X.env n Value.none
   unbindBehindTheSuite X.env n pos) Q E s:=by
 have hiσ:i<Y.length:=by rw[I.len];exact(dv.mp hi).1
 refine df (wpAny_bindName (zR (v:=.mY) I hN hi (.inl hk) Z' (λs1 I1=>?_) (.inr hk)));have hcls:(X.env.scope.kind==.class||(X.env.scope.kind==.module&&X.env.locals != X.env.globals))=lf:=by rw[I.ok.kind];rfl
 obtain⟨m,hn,hl⟩:=id I1.loc;obtain⟨u,ru,lk⟩:=hl i n .mY hi (by rw[eW hiσ]) (.inl hk);have em:m n=Fa u:=by
  rcases lk with⟨_,e⟩|⟨k,_⟩
  .exact e
  .have hk':X.env.kindOf n=Fa .local:=hk;rw[hk']at k;rcases k with k|k<;>cases k
 unfold unbindBehindTheSuite;refine iW (wpAny_unbindName_local hk hn em hcls λh' u' Zo hs=>h _ ?_);refine I1.locs Zo hs (by simpa using I.len) λm2 Ya hl2 j y v' e1 e2 e3=>?_;have hj:j≠i:=λz=>by subst z;rw[eW hiσ]at e2;cases e2
 rw[fg (dW hj)]at e2;obtain⟨u2,r2,q2⟩:=hl j y v' e1 (by rw[fg (dW hj)];exact e2) e3;refine⟨u2,r2,?_⟩;rcases q2 with⟨k,e⟩|q2
 .refine .inl ⟨k,?_⟩;have:y≠n:=λe=>hj (Cp hN e1 (e ▸ hi));simp[this,e]
 .exact .inr q2
noncomputable def Cx.marked(X:Cx)(ev:Vl)(E:QQX):Cx:={X with A:=X.A.mark (Fa ev),calm:=false,xe:=E}
def Inv.mark(I:Inv X XQ Y H s):Inv (X.marked ev E') XQ Y H s:=
 ⟨⟨I.ok.mod,I.ok.kind,I.ok.glob,I.ok.blt,I.ok.above,I.ok.inj,I.ok.has,I.ok.oE,(λz=>by cases z),I.ok.frames,I.ok.oU,I.ok.pA,I.ok.bs,I.ok.ow,I.ok.n9,I.ok.oj,I.ok.nO,I.ok.oC⟩,I.os,I.bare,I.base,I.loc,I.cell,I.free,I.nv,I.pin,I.m8,I.len⟩
def Inv.unmark(ok:X.Ok)(I:Inv (X.marked ev E') XQ Y H s):Inv X XQ Y H s:=⟨ok,I.os,I.bare,I.base,I.loc,I.cell,I.free,I.nv,I.pin,I.m8,I.len⟩
def SP.unmark(ok:X.Ok){D:Fm}{f:Flow}(h:SP (X.marked ev E') XQ D f s):SP X XQ D f s:=by
 cases f with
 | next=>obtain⟨a,b,I,q⟩:=h;exact⟨a,b,I.unmark ok,q⟩
 | brk=>obtain⟨a,b,I,q⟩:=h;exact⟨a,b,I.unmark ok,q⟩
 | cont=>obtain⟨a,b,I,q⟩:=h;exact⟨a,b,I.unmark ok,q⟩
 | ret v=>obtain⟨a,b,c,I,q⟩:=h;exact⟨a,b,c,I.unmark ok,q⟩
def Df{M:Model}{h:No}{a:Uf}{o:Obj}(ho:h.get? a=Fa o):W.Looks M h (typeOf (.ref a)) o.cls:=by intro A Q E s k q;unfold typeOf;exact df (wpAny_load (k a o ho) (dA q))
def GU{M:Model}{A:Ar}{E:QQX}{a C T:Uf}{Q:Unit->Sd->Prop}(x:Ph s.heap a (.ref C) dx (Fa T))(h:∀h':No,(∀b,h'.get? b=s.heap.get? b)->Q () {s with heap:=h'}):pi M A (setFlight (.ref a) Db) Q E s:=by
 obtain⟨oe,vs,ho,hc,_,hd,h1,hv,hT⟩:=x;obtain⟨nTe,oT,ts,Y0,Zt,h3,hn⟩:=hT T Z';unfold setFlight;refine df (fz ho hd hv ?_);rw[dw (by rfl)];refine io Y0 Zt h3 (h _ λb=>?_);by_cases z:T=b
 .subst z;obtain⟨oc,od,odt,YK⟩:=oT;obtain rfl:odt=.fields ts:=Zt;rw[fL _ Y0 Z',Y0];show Fa (Obj.mk oc od (.fields (ts.setIfInBounds 3 .none)) YK)=_;have:ts.setIfInBounds 3 .none=ts:=by
   apply Array.ext
   .simp
   .intro i h1 h2;rw[Array.getElem_setIfInBounds];split
    .rename_i e;subst e;rw[Array.getElem?_eq_getElem h3]at hn;exact(dD hn).symm
    .rfl
  rw[this]
 .exact gi _ _ z
def Td(X:Cx)(e:Go)(t:St->Hp->VK->(Hp->Prop)->XK->Prop):Prop:=∀(XQ:QQY) (s:Sd) (Y:St) (H:Hp) (Q:VK) (J:Hp->Prop) (E:XK),Inv X XQ Y H s->t Y H Q J E->pi (Tk X.prog X.w) X.A (wp e X.env) (EP X XQ Y Q) (Wk X XQ Y J E) s
def Xi(X:Cx)(st:TD)(t:Fm->St->Hp->(Hp->Prop)->XK->Prop):Prop:=∀(XQ:QQY) (s:Sd) (Y:St) (H:Hp) (D:Fm) (J:Hp->Prop) (E:XK),Inv X XQ Y H s->t D Y H J E->pi (Tk X.prog X.w) X.A (exec st X.env) (SP X XQ D) (Wk X XQ Y J E) s
variable {k:Nat}{f C:Uf}{fd:Ix}{ps:QQQ}{sp:Sp}{YC:T0 V}{ds:T0 Vl}{m:Str}{p pos XW:Pos}{e o:Go}{es:T0 Go}{t:TA}
section
variable {x:Str}
def My(F:xK X.prog X.w X.K X.mg X.base (C9 X.prog X.w) k f fd ps sp)(hr:sC k X.A)(hg:Gl X x)(hm:X.mg x=Fa (.ref f))(hk:W.keepIn X.K (.ref f)=pc)(hb:vc X.K fd ps ds)(hd:qK YC ds) (ha:PA (X.om λ_ _=>False) (e::es) t) (Yd:yI x:=by decide) (he:BF X e es:=by rfl) (X9:Dh X pos es:=by rfl):
  Td X (.Call (.Name x p) (e::es) [] pos) (λY H Q J E=>t Y H λvs H1=>J H1/\sp (vs++YC) H1 Q E):=by
 intro XQ s Y H Q J E I h;refine fW (xf I hg hm ?_ Yd);refine jd (h₀:=X.base) I.ok.mod.oM hk (eJ (ha pos XQ s Y H _ I.om h) (λus s1 ⟨vs,H1,I1,r,jH,q⟩=>⟨I1.nA,?_⟩) λ_ _ z=>z.elim) he X9;have I1:=I1.xeOf;have r2:qK (vs++YC) (us++ds):=r.append hd;have hl:(us++ds).length=ps.length:=by rw[<-r2.length];exact F.len _ _ _ _ q
 refine h9 (gT (F.run X.A X.stack s1 H1 ⟨us,[]⟩ (us++ds) (vs++YC) Q E hr I1.oA (hb s1 us I1.nA hl) r2 q) λr s' hq=>?_);cases r with
 | error e=>exact⟨H1,s1,jH,I1,hq⟩
 | ok fl=>
  cases fl with
  | ret u=>exact I1.after hq
  | next=>exact False.elim hq
  | brk=>exact False.elim hq
  | cont=>exact False.elim hq
end
structure AV(K:qC)(C:Uf):Prop where
 hd:(W.clsIn K C).isSome=pc
 ga:W.findIn K (.ref C) "__getattribute__"=Fa (Fa (.builtin "BaseException.__getattribute__"))
 gt:W.findIn K (.ref C) "__getattr__"=Fa Db
 ha:W.findIn K (.ref C) "__class__"=Fa (Fa (.builtin "object.__class__"))
 hn:W.specialIn K (.builtin "object.__class__") "__get__"=Fa (Fa (.builtin "getset_descriptor.__get__"))
 pC:W.takesIn K (.builtin "object.__class__")=Fa pc
 hm:W.mroIn K C (.type "object")=Fa pc
 hb:W.mroIn K C (.type "BaseException")=Fa pc
def PC:builtinKind "BaseException.__getattribute__"=Fa Manifest.AttrKind.slot:=by decide+kernel
def MO:splitId "BaseException.__getattribute__"=Fa ("BaseException","__getattribute__"):=by decide+kernel
variable {prog:Pg}{w:Wo}{A:Ar}{E:QQX}{K:qC}{ox:Obj}
section
variable {x:Uf}
def GC{nameV:Vl}{Q:Unit->Sd->Prop}{M:Model}(c:AV K C)(X:K.In s.heap)(hx:s.heap.get? x=Fa ox)(hc:ox.cls=.ref C)(hq:Q () s):pi M A (checkBuiltinCall "BaseException.__getattribute__" {pos:=[Value.ref x,nameV]}) Q E s:=by
 unfold checkBuiltinCall;simp only[PC,MO];unfold isInstance;refine df (df ?_);refine(Df hx).at ?_;rw[hc];refine(W.looks_mroIn X c.hb).at ?_;rw[dh (by decide)];have ha:=F.args_bexc_ga (Value.ref x) nameV;unfold argsOk at ha;have:∀t:Sem Unit,t=pure ()->pi M A t Q E s:=λt z=>by rw[z];exact dA hq
 exact this _ ha
def HS(c:AV K C):W.findObj K C od "__class__"=Fa (.bind (.builtin "getset_descriptor.__get__") (.builtin "object.__class__")):=by unfold W.findObj;obtain⟨cd,Yl⟩:=gw.mp c.hd;rw[Yl,c.ha];simp only[j6,c.hn,c.pC]
def LY{tk:Tok}{Q:PySem.Fin->Sd->Prop}(c:AV K C)(X:K.In s.heap){od:Option Obj}(I:W.InstAt s.heap x ox C od)(h:Q (.done (.ret (.ref C))) s):pi (Tk prog w) A (Builtin.«object.__getattribute__» {pos:=[.ref x,.str "__class__" tk]}) Q E s:=by have L0:=I.type (M:=Tk prog w);unfold Builtin.«object.__getattribute__» slotArgs;refine df ?_;rw[dh (by simp)];dsimp only;rw[dh (by simp)];refine dA ?_;dsimp only;refine df ?_;unfold Builtin.ObjectAttr.attrName;refine dA (df (L0.at (df ((W.looks_find X I (HS c)).at ?_))));dsimp only;unfold Builtin.ObjectAttr.bindTo;dsimp only;refine df (eD (h9 (W.class_get X I c.hm ?_)));exact dA h
def K2{Q:Option Vl->Sd->Prop}(c:AV K C)(X:K.In s.heap){od:Option Obj}(I:W.InstAt s.heap x ox C od)(h:Q (Fa (.ref C)) {s with toks:=s.toks+1}):pi (Tk prog w) A (getAttr? (.ref x) "__class__") Q E s:=by have L0:=I.type (M:=Tk prog w);unfold getAttr?;refine df (wpAny_mkText ?_);unfold getAttrBy?;refine df (iX ?_);unfold getAttrBy;refine eD (df (L0.at (df ((im X c.ga).at ?_))));dsimp only;rw[dh (by simp)];unfold getAttrByItsOwn;refine df ?_;unfold hookBefore;rw[dw (by rfl)];refine(im X c.gt).at (df (iX (eD ?_)));unfold callGetattribute;rw[dh (by simp)];unfold boundAndCalled;refine df ?_;rw[ip.ga.bind (.ref x)];refine dA ?_;refine h9 (iu ip.ga.plain mw (GC c X I.at_ I.cls ?_));exact LY c X I (W.handed_on Z' (dA h))
def NY(c:AV K C):W.KitX K (.ref x) (.ref C) (λh=>z9 λox od=>W.InstAt h x ox C od) where
 ty:=λM h _ ⟨_,_,I⟩=>I.type
 it:=λM h X _=>by
  obtain⟨cd,Yl⟩:=gw.mp c.hd;unfold W.clsIn at Yl;split at Yl
  .rename_i heq;intro A Q E s k q;unfold isType;exact df (kA (k C _ (X C _ heq)) (dA q))
  .cases Yl
 ne:=λh tp dd its n sl X htp=>by
  obtain⟨cd,Yl⟩:=gw.mp c.hd;unfold W.clsIn at Yl;split at Yl
  .rename_i heq;refine dB.mpr λq=>?_;have e:=Value.ref.inj (fh.mp q);subst e;have z:=(X C _ heq).symm.trans htp;cases z
  .cases Yl
 ca:=λX ⟨_,_,I⟩ h=>K2 c X I h
end
end L2
namespace L3
open L2
theorem _root_.L2.TKept.ext{K:qC}(h:TKept H H'):qY K H H':=⟨λa xs q=>by
 rcases q with(q|⟨u,q⟩)|q
 .exact .inl (.inl (h.1 a xs q))
 .exact .inl (.inr ⟨u,h.2 a u _ q⟩)
 .exact .inr q,λa o xs q=>h.2 a o _ q⟩
abbrev RK:=vq->Mp->DK->XR->Prop
def XI(K:qC)(t:RK):St->Hp->VK->(Hp->Prop)->XK->Prop:=λY H Q' J E=>Au λU M Q R=>yU K H Y U/\HM K H M/\t U M Q R/\(∀v H' d M',rZ K H' d v->HM K H' M'->qY K H H'->Q d M'->Q' v H')/\(∀H1,qY K H H1->J H1)/\UX K R E
def Xm(X:Cx)(e:Go)(t:RK):Prop:=Td X e (XI X.K t)
def Td.mono{t t':St->Hp->VK->(Hp->Prop)->XK->Prop}(h:Td X e t)(m:∀Y H Q J E,t' Y H Q J E->t Y H Q J E):Td X e t':=λXQ s Y H Q J E I q=>h XQ s Y H Q J E I (m Y H Q J E q)
variable {X:Cx}{x:Str}{p pos np XZ:Pos}{e:Go}{es:T0 Go}{t:ya}{k:Nat}{f C:Uf}{fd:Ix}{ps:QQQ}{sp:HB}
def Og(F:T7 X.prog X.w X.K X.mg X.base k f fd ps sp)(hr:sC k X.A)(hg:Gl X x)(hm:X.mg x=Fa (.ref f))(hk:W.keepIn X.K (.ref f)=pc)(hb:vc X.K fd ps [])(ha:A3 (X.om λ_ _=>False) (e::es) t) (Yd:yI x:=by decide) (he:BF X e es:=by rfl) (X9:Dh X pos es:=by rfl):
  Xm X (.Call (.Name x p) (e::es) [] pos) (λU M Q R=>t U M λds M1=>sp ds M1 Q R):=Td.mono (My F hr hg hm hk hb .nil ha Yd he X9) λY H Q' J E ⟨U,M,Q,R,hs,hm,ht,k,kJ,kR⟩=>
 ⟨U,M,_,hs,hm,ht,λvs H1 ds M1 hd XT e1 q1=>⟨kJ H1 e1,ds,M1,Q,R,by rw[fk];exact hd,XT,q1,vT e1 k,kR⟩⟩
variable {b₀:TD}{Ze:T0 TD}{cn n:Str}{cnp Y7 XW xpos:Pos}{Cc L:Uf}{outer:T0 Env}{i ix:Nat}{te:RK}{th:xT}
def yU.unset{K:qC}{i:Nat}(h:yU K H Y U):yU K H (Y.set i Db) (U.set i Db):=λj e q=>by
 by_cases hj:j=i
 .subst hj;by_cases hl:j<U.length
  .rw[eW hl]at q;cases q
  .rw[gJ (by simpa using hl)]at q;cases q
 .rw[fg (dW hj)]at q ⊢;exact h j e q
def MW(M:Mp)(a C:Uf):Option (Uf×(No->Prop))->Prop
 | none=>M a=Fa (.exc (VJ a C))
 | some (d,φ)=>M a=Fa (.exc (G7 a C d))/\M d=Fa (.exc φ)
def MW.inst{K:qC}(e:MW M a C dx)(hm:HM K H M)(ok:yB P w H h):z9 λox od=>W.InstAt h a ox C od:=by
 match dx,e with
 | none,e=>obtain⟨⟨oe,vs,e1,e2,e3,e4⟩,_⟩:=ok a _ (hm a _ e);exact⟨oe,Db,e1,e2,by unfold W.notCls;rw[e3],by rw[e4];trivial⟩
 | some (d,φ),e=>obtain⟨⟨oe,vs,e1,e2,e3,e4⟩,_⟩:=ok a _ (hm a _ e.1);obtain⟨_,⟨od,g⟩,_⟩:=ok d _ (hm d _ e.2);exact⟨oe,Fa od,e1,e2,by unfold W.notCls;rw[e3],by rw[e4];exact g⟩
def GK(K:qC)(ds:T0 D)(M:Mp)(Q:DK):Prop:=match ds with
 | [.ref a,c]=>z9 λC dx=>MW M a C dx/\AV K C/\(TQ c).elim False λcv=>(W.kitOne K (.ref C) cv).elim False λb=>Q (.bl b) M
 | _=>False
def xy:C3 X (.builtin "isinstance") (GK X.K):=by
 intro XQ s Y H vs us Q' I rv h;obtain⟨ds,M,Q,hd,hm,q,k⟩:=h;unfold GK at q;split at q
 .rename_i a c;obtain⟨v,u,rfl,hv,hw⟩:=zK hd
  .obtain⟨C,dx,ea,hC,q⟩:=q;obtain⟨cv,ec,q⟩:=qZ q;obtain⟨b,eb,qb⟩:=qZ q;obtain⟨uv,uw,rfl,ZD,rv2⟩:=GZ rv;have ecv:uw=cv:=by
    cases c with
    | ref C=>cases hw.mT;cases ec;exact rv2
    | ty n=>cases hw.nW;cases ec;exact rv2
    | _=>cases ec
   subst ecv;cases hv.mT;cases ZD;exact gq (NY hC) I.nA (ea.inst hm I.m8) eb (λz=>nomatch z) λtk=>⟨.bl b,H,I.tok tk,Z',k _ _ _ _ .bl hm .refl qb⟩
 .exact q.elim
end L3
namespace L2
noncomputable def C8(es:Array DictEntry):Bool:=es.toList.all λe=>match e.key with|.str _ _=>pc|_=>lf
def Cs{es:Array DictEntry}(h:C8 es=pc):StrKeys es:=λe he=>by
 have:=eV.mp h e (kH.mpr he);cases z:e.key with
 | str n t=>exact⟨n,t,Z'⟩
 | _=>rw[z]at this;cases this
abbrev NU:T0 Vl:=[.type "ValueError",.type "Exception",.type "BaseException",.type "object"]
def Qt{K:qC}{t:Vl}{C:Uf}{cd:ClassData}{b:Bool}(q0:W.subIn K (.ref C) (.type "BaseException")=Fa pc)(q1:W.clsIn K C=Fa cd)(q2:W.typeIn K (.ref C)=Fa (.type "type"))(s:W.subIn K t (.ref C)=Fa b):W.exmOne K t (.ref C)=Fa b:=by unfold W.exmOne;rw[q0,dw (by rfl)];unfold W.kitCls;simp only;rw[q1,q2,dw (by rfl)];exact s
end L2
namespace L3
open L2
def DB:W.kitMeta "ValueError"=pc:=by decide+kernel
def Ds:zn "ValueError"=Fa (.type "ValueError"):=by decide+kernel
def Tf(x y:D)(M:Mp)(Q:DK):Prop:=match x,y with
 | .int i,.int j=>Vg i j/\Q (.int (i ^ j.toNat)) M
 | _,_=>False
def Ud:xI X (sK .Pow) (R3 X.K Tf):=λXQ s Y H vx vy v u Q' I rx ry h=>by
 obtain⟨x,y,M,Q,hx,hy,hm,q,k⟩:=h;unfold Tf at q;split at q
 .cases hx.int_inv;cases hy.int_inv;exact Sm XQ s Y H _ _ v u Q' I rx ry ⟨_,_,Z',Z',q.1,k _ _ _ _ .int hm .refl q.2⟩
 .exact q.elim
def Wh(ta tb:T3):T3:=λU M Q=>ta U M λx M1=>tb U M1 λy M2=>Tf x y M2 Q
def LH(ha:E3 X a ta)(hb:E3 X b tb):E3 X (.BinOp a .Pow b pos) (Wh ta tb):=PE.mono (LB Ud ha hb) Gz
end L3
namespace L2
theorem CT(self:Vl):∀own:QXQ,refuseLoop self "__setattr__" (own.map Value.ref++NU)=pure ()
 | []=>j7.passes self
 | c::r=>by show refuseLoop self "__setattr__" (.ref c::(r.map Value.ref++NU))=pure ();rw[refuseLoop_ref];exact CT self r
variable {prog:Pg}{w:Wo}{A:Ar}{s:Sd}{K:qC}{x C:Uf}{ox:Obj}{own:QXQ}{name:Str}{v:Vl}
section
variable {E:QQX}{cd:ClassData}
def Q8{Q:Unit->Sd->Prop}(X:K.In s.heap)(I:W.InstAt s.heap x ox C Db)(hs:W.findIn K (.ref C) "__setattr__"=Fa (Fa (.builtin "object.__setattr__")))(hc:W.clsIn K C=Fa cd)(hm:cd.mro=own.map Value.ref++NU)(ht:W.takerIn K C name=Fa Db)(hd:cd.hasDict=pc) (h:∀h' d t,(∀b o,b≠x->s.heap.get? b=Fa o->h'.get? b=Fa o)->h'.get? x=Fa {ox with dict:=some d}->s.heap.get? d=Db->d≠x->h'.Ns1 d (λy=>if y=name then Fa v else Db)->Q () {s with heap:=h',toks:=t}):pi (Tk prog w) A (setAttr (.ref x) name v) Q E s:=by
 refine W.set_plain X I hs ?_;have SF:=j7;have ne:cd.mro.isEmpty=lf:=by rw[hm];cases own<;>rfl
 have has:cd.mro.contains (.type "object")=pc:=by
  rw[hm,List.contains_eq_any_beq,jk];have:NU.any (Value.type "object"==·)=pc:=by decide+kernel
  rw[this,iL]
 have sub:W.Looks (Tk prog w) s.heap (isInstance (.ref x) (.type "object")) pc:=I.type.andThen (W.looks_mroIn X (by unfold W.mroIn;rw[hc,j6,dh (by rw[ne];decide),has]));refine iu SF.slot.plain SF.entry (@PySem.W.check_slot (Tk prog w) _ _ {s with toks:=s.toks+1} "object.__setattr__" "object" "__setattr__" (.ref x) [.str name s.toks,v] [] _ SF.kind SF.split sub (SF.args (.ref x) (.str name s.toks) v) ?_);obtain⟨attr,ha,hr⟩:=Option.bind_eq_some_iff.mp ht;have hmro:W.Looks (Tk prog w) s.heap (mroOf (.ref C)) cd.mro:=(kQ X hc).andThen .now;have L3':W.Looks (Tk prog w) s.heap (Builtin.ObjectAttr.storeTaker? attr) Db:=by
  cases attr with
  | none=>exact .now
  | some a=>
   obtain⟨b,hb,hr⟩:=iT.mp hr;refine(W.looks_takesIn X hb).andThen ?_;cases b
   .exact .now
   .cases hr
 rw[W.osa_eq,refuse_eq];refine df (df (I.type.here (s:={s with toks:=s.toks+1}) (df (hmro.here (s:={s with toks:=s.toks+1}) ?_))));rw[hm,CT];refine dA (df (I.type.here (s:={s with toks:=s.toks+1}) (df ((im X ha).here (s:={s with toks:=s.toks+1}) (df (L3'.here (s:={s with toks:=s.toks+1}) ?_))))));obtain⟨hx,hcl,hn,ZG⟩:=I;obtain⟨oc,odi,oda,YK⟩:=ox;dsimp only at hcl ZG;subst hcl;cases odi with
 | some _=>exact ZG.elim
 | none=>
  refine df (dA (df (df (kA hx (df (mD (s:={s with toks:=s.toks+1}) (kQ X hc) ?_))))));rw[hd];rw[dh (by decide)];obtain⟨hh,g,dr,tk,os⟩:=s;dsimp only at hx h ⊢;rw[dh (by simp[typeHasDict])];split
  .cases hn
  .have y1:(hh.push W.emptyDict).get? x=Fa ⟨.ref C,Db,oda,YK⟩:=dz _ hx;have nx:x≠hh.objs.size:=λz=>fu _ (z ▸ dG hx);refine df (wpAny_alloc' (df (wpAny_update' y1 (dA ?_))));have e0:((hh.push W.emptyDict).update x λo=>{o with dict:=some hh.objs.size}).Ns hh.objs.size (λ_=>Db):=⟨W.emptyDict,#[],_,(js _ _ _ _ nx.symm).trans (dO hh Z'),Z',λe he=>absurd he (by simp),λ_=>rfl⟩;refine df (dA (df (wpAny_nsSet1 (lH e0) λh' n1 sb=>?_)));obtain⟨oD,esD,epD,g1,g2,g3⟩:=n1.count (Within.cons name v Within.nil);refine df (lX g1 (g2 ▸ lY (eE g3 (by rw[dR,dX];decide))) (dA (h h' hh.objs.size _ (λb o hb z=>?_) ?_ (gQ (dE _)) nx.symm n1)))
   .exact(sb.2 b λy=>fu _ (y ▸ dG z)).trans ((js _ _ _ _ hb).trans (dz _ z))
   .refine(sb.2 x nx).trans (fL _ y1 ?_);have fr:=(Heap.get?_some_iff.mp hx).2;cases oda with
    | _=>first|rfl|exact fr
end
variable {nm q:Str}{bs bm Zf:T0 Vl}{hdct:Bool}{sn:QQQ}{sub:T0 Vl}{ab:Bool}{col:Option Bool}{dd:Option Uf}{k0 k1 k2 k3 k5:Option Vl}{B Bn newId nid Yn wV:String}{bmN:T0 Vl}{h:No}{g:Array GenState}{d:Drawn}{t:Nat}{os:OsState}
section
variable {E:QQX}{N:Uf}
abbrev Qr(C t:Uf):Obj:={cls:=.ref C,data:=.fields #[.ref t,.none,.none,.none,.bool lf,.none]}
def Bi(Fn:o0 Bn newId wV bmN)(hBn:Zf.contains (.type Bn)=pc)(F:o0 B nid Yn Zf)(T:OwnTail h Zf bm){mN:QQZ}{us:T0 Vl}{fI:Uf}{oI:Obj}{Q:PySem.Fin->Sd->Prop} (hC:h.get? C=Fa (Y' nm q C N bs bm hdct sn sub ab col dd k0 k1 k2 k3 k5 newId)) (hn:h.Ns N mN) (hi:mN "__init__"=Fa (.ref fI)) (hf:h.get? fI=Fa oI) (hfc:oI.cls=.type "function") (XY:us.length<=Ch) (hq:∀h' e,Heap.MadeExcOf h h' e (.ref C) us->pi (Tk prog w) A (call (.ref fI) (.ref e::us)) (λr s'=>r=.none/\Q (.done (.ret (.ref e))) s') E ⟨h',g,d,t,os⟩):
  pi (Tk prog w) A (Builtin.«type.__call__» ⟨.ref C::us,[]⟩) Q E ⟨h,g,d,t,os⟩:=by
 repeat (first|with_reducible refine ij hC ?_|with_reducible refine wpAny_madeBy_exc hC ?_|wp_step)
 refine codeAny_call_builtin_code (jB _ Fn.quiet) (wpAny_check_new_subU Fn hBn T hC (codeAny_exc_new_subU Fn hBn F T hC ?_ XY));have kp:∀b o,h.get? b=Fa o->((h.push {cls:=.type "tuple",data:=.seq us.toArray}).push (Qr C h.objs.size)).get? b=Fa o:=λb o z=>dz _ (dz _ z);have gE:((h.push {cls:=.type "tuple",data:=.seq us.toArray}).push (Qr C h.objs.size)).get? (h.objs.size+1)=Fa (Qr C h.objs.size):=by heap_get
 have hC2:=kp _ _ hC;have hn2:((h.push {cls:=.type "tuple",data:=.seq us.toArray}).push (Qr C h.objs.size)).Ns N mN:=let⟨o,es,ep,e,r⟩:=hn;⟨o,es,ep,kp _ _ e,r⟩;have cC:(Value.ref C::bm).contains (.ref C)=pc:=by rw[iM,fE,gU]
 have T2:=T.keeps kp;show pi _ _ _ _ _ _;unfold isInstance
 repeat (first|with_reducible refine ij gE ?_|(with_reducible refine k9 hC2 ?_;rw[cC])|wp_step)
 show pi _ _ (typeLookup (.ref C) _) _ _ _;refine wpAny_typeLookup_tail hC2 hn2 T2 F.mroIs F.init.lookup ?_;rw[hi];refine eD (df ?_);unfold bindSpecial;refine df (jW (T:="function") ⟨_,kp _ _ hf,hfc⟩ ?_);rw[dw (by decide)];refine dA (df (eJ (hq _ (h.objs.size+1) ⟨kp,gQ (ie _),h.objs.size,gE,gQ (dE _),dz _ (Heap.get?_push_at Z' Z')⟩) (λr s' hr=>?_) λ_ _ z=>z));obtain⟨rfl,hQ⟩:=hr
 wp_walk
 exact hQ
def Ik(Fn:o0 Bn newId wV bmN)(hBn:Zf.contains (.type Bn)=pc)(F:o0 B nid Yn Zf)(T:OwnTail h Zf bm){mN:QQZ}{us:T0 Vl}{fI:Uf}{oI:Obj}{Q:QQX} (hC:h.get? C=Fa (Y' nm q C N bs bm hdct sn sub ab col dd k0 k1 k2 k3 k5 newId)) (hn:h.Ns N mN) (hi:mN "__init__"=Fa (.ref fI)) (hf:h.get? fI=Fa oI) (hfc:oI.cls=.type "function") (XY:us.length<=Ch) (hq:∀h' e,Heap.MadeExcOf h h' e (.ref C) us->pi (Tk prog w) (A.under (.builtin "type.__call__" ⟨.ref C::us,[]⟩)) (call (.ref fI) (.ref e::us)) (λr s'=>r=.none/\Q (.ref e) s') E ⟨h',g,d,t,os⟩):
  pi (Tk prog w) A (call (.ref C) us) Q E ⟨h,g,d,t,os⟩:=by
 have f1:=tc_lookup;have f2:=tc_bind (.ref C);have hT:(⟨h,g,d,t,os⟩:Sd).TypeIs (.ref C) "type":=⟨_,hC,Z'⟩;refine h9 (codeAny_of_tree ?_);show pi _ _ (callAny (.ref C) _) _ _ _
 repeat (any_goals(first|assumption|with_reducible refine ij hC ?_|wp_step))
 exact⟨Z',codeAny_call_builtin_at (jB _ (by decide+kernel)) entry_typeCall (wpAny_check_type_call_sub hC (Bi Fn hBn F T hC hn hi hf hfc XY hq))⟩
end
variable {M:Model}{env:Env}
section
variable {E:QQX}{N:Uf}
def Ju(h:No)(e C:Uf)(dx:Option Uf):Prop:=z9 λt sl=>h.get? e=Fa ⟨.ref C,dx,.fields #[.ref t,.none,.none,.none,.bool lf,.none],sl⟩
def HE{x:Sem Vl}{Q:Flow->Sd->Prop}(X6:bm.contains (.type "BaseException")=pc)(hh:A.handled=Db) (h:pi M A x (λv s₁=>∃e dx,v=.ref e/\s₁.heap.get? C=Fa (Y' nm q C N bs bm hdct sn sub ab col dd k0 k1 k2 k3 k5 newId)/\Ju s₁.heap e C dx/\E (.ref e) s₁) E s):
  pi M A (raiseStmt env (Fa x) Db) Q E s:=by
 have cB:(Value.ref C::bm).contains (.type "BaseException")=pc:=by rw[iM,X6,iL]
 unfold raiseStmt;refine df (eJ h (λv s₁ ⟨e,dx,ev,hC,⟨t,sl,he⟩,hE⟩=>?_) λ_ _ z=>z);subst ev;obtain⟨hp,g,d,tk,os⟩:=s₁
 repeat (first|with_reducible refine ij he ?_|with_reducible refine ij hC ?_|(with_reducible refine k9 hC ?_;rw[cB])|wp_step)
 exact wpAny_raiseNew_none hh hE
def Gw(Fn:o0 Bn newId wV bmN)(hBn:Zf.contains (.type Bn)=pc)(F:o0 B nid Yn Zf){mN:QQZ}{fI:Uf}{x:Str}{np XZ pos:Pos}{args:T0 Go}{Q:Flow->Sd->Prop} (X6:bm.contains (.type "BaseException")=pc) (hh:A.handled=Db) (Yb:(xz XZ (Tl args env)).any (·.1)=lf) (hi:mN "__init__"=Fa (.ref fI)) (h:pi (Tk prog w) A (wp (.Name x np) env) (λf s₁=>f=.ref C/\pi (Tk prog w) A (evalArgs (.ref C) pc (xz XZ (Tl args env)) []) (λa s₂=>a.kw=[]/\a.pos.length<=Ch/\s₂.heap.get? C=Fa (Y' nm q C N bs bm hdct sn sub ab col dd k0 k1 k2 k3 k5 newId)/\s₂.heap.Ns N mN/\OwnTail s₂.heap Zf bm/\(∃oI,s₂.heap.get? fI=Fa oI/\oI.cls=.type "function")/\
    ∀h' e,Heap.MadeExcOf s₂.heap h' e (.ref C) a.pos->pi (Tk prog w) (A.under (.builtin "type.__call__" ⟨.ref C::a.pos,[]⟩)) (call (.ref fI) (.ref e::a.pos))
     (λr s'=>r=.none/\∃dx,s'.heap.get? C=Fa (Y' nm q C N bs bm hdct sn sub ab col dd k0 k1 k2 k3 k5 newId)/\Ju s'.heap e C dx/\E (.ref e) s') E {s₂ with heap:=h'}) E s₁) E s):
  pi (Tk prog w) A (exec (.Raise (Fa (.Call (.Name x np) args [] XZ)) Db pos) env) Q E s:=by
 rw[arm_exec_Raise];refine df (hW (HE (C:=C) (nm:=nm) (q:=q) (N:=N) (bs:=bs) (bm:=bm) (hdct:=hdct) (sn:=sn) (sub:=sub) (ab:=ab) (col:=col) (dd:=dd) (k0:=k0) (k1:=k1) (k2:=k2) (k3:=k3) (k5:=k5) (newId:=newId) X6 hh ?_));refine df (eJ (wpAny_Call_ofName (eJ h (λf s₁ ⟨ef,h₁⟩=>?_) λ_ _ z=>z)) (λv s₃ h₃=>df (hW (dA h₃))) λ_ _ z=>z);subst ef;unfold XXf;refine df (eD (eJ h₁ (λa s₂ h₂=>df (hW ?_)) λ_ _ z=>z));obtain⟨XW,akw⟩:=a;obtain⟨hkw,XY,hC,hn,T,⟨oI,hf,hfc⟩,h₂⟩:=h₂;obtain rfl:akw=[]:=hkw;obtain⟨hp,g,d,tk,os⟩:=s₂;simp only[Yb];refine df (wpAny_keeperOf_exc hC (df (Ik Fn hBn F T hC hn hi hf hfc XY λh' e hm=>eJ (h₂ h' e hm) (λr s' ⟨z,dx,c1,c2,c3⟩=>⟨z,df (eD (wpAny_point (dA ⟨e,dx,Z',c1,c2,c3⟩)))⟩) λ_ _ z=>z)))
end
def x0(a C:Uf)(h:No):Prop:=Ju h a C Db
def x1(a C d:Uf)(h:No):Prop:=Ju h a C (Fa d)
structure yS(K:qC)(C:Uf)(f:Str):Prop where
 sa:W.findIn K (.ref C) "__setattr__"=Fa (Fa (.builtin "object.__setattr__"))
 cd:∃cd own,W.clsIn K C=Fa cd/\cd.mro=List.map Value.ref own++NU/\cd.hasDict=pc
 tk:W.takerIn K C f=Fa Db
variable {X:Cx}{XQ:T0 (Uf × Obj)}{Y σ':St}{H H1:Hp}{s1:Sd}{a:Uf}
section
variable {f:Str}
def GE{A:Ar}{E:QQX}{Q:Unit->Sd->Prop}(I:Inv X XQ Y H s)(e:H a=Fa (.ext (x0 a C)))(ry:qQ y u)(st:yS X.K C f)(h:∀d s',H d=Db->d≠a->Inv X XQ Y (upd (upd H a (.ext (x1 a C d))) d (.ext (KZ d f y))) s'->Q () s'):pi (Tk X.prog X.w) A (setAttr (.ref a) f u) Q E s:=by obtain⟨⟨t,sl,ho⟩,_,_⟩:=I.m8 a _ e;obtain⟨cd,own,c1,c2,c3⟩:=st.cd;refine Q8 I.nA ⟨ho,Z',Z',trivial⟩ st.sa c1 c2 st.tk c3 λh' d tk k1 k2 dn da n1=>h d _ (zm I.m8 dn) da ?_;have I2:=I.write (t':=tk) (x:=a) (e:=a) (o:=.ext (x1 a C d)) (by rw[e];exact True.intro) (.inl Z') k1 ⟨_,k2⟩ ⟨⟨t,sl,k2⟩,⟨_,k2⟩,λh1 h2 ⟨t',Zh,z⟩ kk=>⟨t',Zh,kk _ z⟩⟩;refine I2.adopt I dn (by rw[qk da];exact zm I.m8 dn) ⟨⟨u,n1,ry⟩,?_,λh1 h2 ⟨u,n,r⟩ kk=>⟨u,n.at kk,r⟩⟩;obtain⟨o,_,_,z,_⟩:=n1;exact⟨o,z⟩
def Inv.drop{φ:No->Prop}(I:Inv X XQ Y H s)(ea:H a=Fa (.ext φ)):Inv X XQ Y (λb=>if b=a then Db else H b) s:=by
 have less:∀b,H b=Db->(if b=a then Db else H b)=Db:=λb e=>by split<;>first|rfl|exact e
 have keep:∀b o,H b=Fa o->(∀φ,o≠.ext φ)->(if b=a then Db else H b)=Fa o:=λb o e n=>by
  rw[dh]
  .exact e
  .intro z;rw[z,ea]at e;exact n φ (dD e).symm
 refine⟨I.ok,I.os,I.bare,⟨I.base.keep,I.base.slot,λb o e h0 hb=>less b (I.base.free b o e h0 hb),I.base.there,λb xs e=>keep b _ (I.base.nK b xs e) (λ_ z=>nomatch z),λb o u e=>keep b _ (I.base.nI b o u e) (λ_ z=>nomatch z),λb ps e=>?_⟩,I.loc,I.cell,less _ I.free,λx c e=>less _ (I.nv x c e),λp hp=>⟨(I.pin p hp).1,less _ (I.pin p hp).2.1,(I.pin p hp).2.2⟩,λb ob e=>?_,I.len⟩
 .obtain⟨more,z⟩:=I.base.nP b ps e;exact⟨more,keep b _ z (λ_ z=>nomatch z)⟩
 .have e':H b=Fa ob:=by
   by_cases z:b=a
   .rw[dw z]at e;cases e
   .rw[dh z]at e;exact e
  exact(I.m8 b ob e').nG (λ_ _ _ q=>q) (λb' q=>keep b' _ q (λ_ z=>nomatch z)) λb' xs q=>keep b' _ q (λ_ z=>nomatch z)
end
def NG(K:qC)(ta tv:TE)(f:Str):TS:=λD Y H=>tv Y H λy H1=>ta Y H1 λx H2=>∃a C,x=.ref a/\H2 a=Fa (.ext (x0 a C))/\yS K C f/\∀d,H2 d=Db->d≠a->D.nx Y (upd (upd H2 a (.ext (x1 a C d))) d (.ext (KZ d f y)))
def O9{f:Str}{pos X5:Pos}{ta tv:TE}(ha:PE X o ta)(hv:PE X value tv)(hs:sB value (Fa (.Attribute o f X5)) pos.line X.env=pure lf:=by rfl):PS X (.Assign [.Attribute o f X5] value pos) (NG X.K ta tv f):=by intro XQ s Y H D I h;refine jc (sS (hv XQ s Y H _ I h) λu s1 zz=>x5 zz λy H1 I1 ry q=>sS (ha XQ s1 Y H1 _ I1 q) λov s2 zz=>?_) hs;obtain⟨x,H2,I2,rx,a,C,ex,ea,st,q2⟩:=zz;subst ex;obtain rfl:ov=Value.ref a:=rx;exact GE I2 ea ry st λd s3 dn da I3=>⟨Y,_,I3,q2 d dn da⟩
def wR(K:qC)(f:Str):Sp:=λvs H Q _=>Di λe C y=>vs=[.ref e,y]/\H e=Fa (.ext (x0 e C))/\yS K C f/\∀d,H d=Db->d≠e->Q .mY (upd (upd H e (.ext (x1 e C d))) d (.ext (KZ d f y)))
variable {qual:Str}{scope:XXb}{outer:T0 Env}{s0:Sd}{H0:Hp}{P:Pg}{mg:QQZ}{base:No}
section
def Ni{x qual y1 y2 fl:Str}{st:TD}(F:Pe K x qual st f fd)(S:tN [y1,y2] [y1,y2] (qu st)) (hb:∀(X1:Vl) (A:Ar) (outer:T0 Env) (s:Sd) (H:Hp) (E:XK),Cq (vL (C9 P w) P w K mg base [y1,y2] qual (qu st) f X1 A outer s H E) (sd st) (NG K (ED 0) (ED 1) fl)):xK P w K mg base (C9 P w) 1 f fd [y1,y2] (wR K fl):=by
 obtain⟨oc,od,kV,Yu,pm,an,X1,ct,YK,rfl,lk,Yl⟩:=F.ex;refine MY lk Yl S (λvs H Q E h=>?_) λA outer s H vs Q' E hr h=>⟨_,hb X1 A outer s H E,?_⟩
 .obtain⟨e,C,y,rfl,_⟩:=h;rfl
 .obtain⟨e,C,y,rfl,h1,h2,q⟩:=h;exact⟨y,Z',.ref e,Z',e,C,Z',h1,h2,q⟩
def J5(K:qC)(C fI:Uf):Prop:=
 ∃nm q N bs bm Zf hdct sn sub ab col dd k0 k1 k2 k3 k5,∃B Bn newId nid Yn wV:String,∃bmN,∃mN:QQZ,o0 Bn newId wV bmN/\Zf.contains (Value.type Bn)=pc/\o0 B nid Yn Zf/\bm.contains (Value.type "BaseException")=pc/\mN "__init__"=Fa (.ref fI)/\
  ∀h:No,K.In h->h.get? C=Fa (Y' nm q C N bs bm hdct sn sub ab col dd k0 k1 k2 k3 k5 newId)/\h.Ns N mN/\OwnTail h Zf bm/\∃oI,h.get? fI=Fa oI/\oI.cls=.type "function"
variable {N:QQQ}{f:Uf}{cd:Vl}{E:XK}
def Kk{X:Cx}(hX:X=vL (C9 P w) P w K mg base N qual scope f cd A outer s0 H0 E){C fI:Uf}{fdI:Ix}{ps:QQQ}{fl:Str}{k:Nat}{x:Str}{np XZ pos:Pos}{e:Go}{ta:TA}(hC:J5 X.K C fI)(F:xK X.prog X.w X.K X.mg X.base (C9 X.prog X.w) k fI fdI ps (wR X.K fl))(hr:sC (k+1) X.A)(hb:vc X.K fdI ps [])(st:yS X.K C fl) (hg:Gl X x) (hm:X.mg x=Fa (.ref C)) (ha:PA X [e] ta) (hs:Tl [e] X.env=[(lf,wp e X.env)]:=by rfl) (Yd:yI x:=by decide):
  PS X (.Raise (Fa (.Call (.Name x np) [e] [] XZ)) Db pos) (λ_ Y H=>ta Y H λvs H1=>∃y,vs=[y]/\∀d,H1 d=Db->E (.ref C) (Fa d) (upd H1 d (.ext (KZ d fl y)))):=by
 intro XQ s Y H D I h;obtain⟨nm,q,N',bs,bm,Zf,hdct,sn,sub,ab,col,dd,k0,k1,k2,k3,k5,B,Bn,newId,nid,Yn,wV,bmN,mN,f1,f2,f3,f4,f5,Zk⟩:=hC;have hcalm:X.A.handled=Db:=I.ok.hd (by rw[hX];rfl);refine Gw (nm:=nm) (q:=q) (N:=N') (bs:=bs) (hdct:=hdct) (sn:=sn) (sub:=sub) (ab:=ab) (col:=col) (dd:=dd) (k0:=k0) (k1:=k1) (k2:=k2) (k3:=k3) (k5:=k5) f1 f2 f3 f4 hcalm (by rw[hs];rfl) f5 (xf I hg hm ⟨Z',?_⟩ Yd);rw[hs];refine evalArgs_kwB Z' ?_;have Zq:=ha XZ XQ s Y H _ I h;rw[hs]at Zq;refine sS Zq λus s1 zz=>?_;obtain⟨vs,H1,I1,r1,y,ey,q1⟩:=zz;subst ey;obtain⟨u,rfl,ru⟩:=yK r1;refine wpAny_evalAll_nil ?_;obtain⟨c1,c2,c3,c4⟩:=Zk s1.heap I1.nA;refine⟨Z',by show 1<=Ch;rw[dR];decide,c1,c2,c3,c4,λh' e' md=>?_⟩;obtain⟨mk,mn,t,mt,_⟩:=md;have hn:H1 e'=Db:=zm I1.m8 mn;have I2:Inv X XQ Y H1 {s1 with heap:=h'}:=I1.kept (t':=s1.toks) mk;have I3:Inv X XQ Y (upd H1 e' (.ext (x0 e' C))) {s1 with heap:=h'}:=I2.adopt I1 mn hn ⟨⟨t,_,mt⟩,⟨_,mt⟩,λh1 h2 ⟨t',Zh,z⟩ kk=>⟨t',Zh,kk _ z⟩⟩;have r2:qK [V.ref e',y] [Value.ref e',u]:=.cons Z' (.cons ru .nil);have Zi:wR X.K fl [V.ref e',y] (upd H1 e' (.ext (x0 e' C))) (λv H2=>v=.mY/\∃d,d≠e'/\H1 d=Db/\H2=upd (upd H1 e' (.ext (x1 e' C d))) d (.ext (KZ d fl y))) (λ_ _ _=>False):=⟨e',C,y,Z',qw,st,λd dn da=>⟨Z',d,da,by rw[qk da]at dn;exact dn,by rw[PU]⟩⟩;have hl:([Value.ref e',u]:T0 Vl).length=ps.length:=by rw[<-r2.length];exact F.len _ _ _ _ Zi
 refine h9 (gT (F.run _ X.stack _ _ ⟨[Value.ref e',u],[]⟩ [Value.ref e',u] _ _ _ (hr.make C [u] []) (I3.oA.make C [u] []) (hb _ [Value.ref e',u] I3.nA hl) r2 Zi) λr s' Zw=>?_);cases r with
 | error ev=>obtain⟨_,_,_,_,_,_,z,_⟩:=Zw;exact z.elim
 | ok fw=>
  cases fw with
  | ret uv=>
   obtain⟨v,H',I4,rv,ev,d,da,dn,eH⟩:=I3.after Zw;subst ev eH;obtain⟨⟨t',Zh,md⟩,_,_⟩:=I4.m8 e' _ (by rw[qk (dW da)];exact qw);have I5:Inv X XQ Y (upd H1 d (.ext (KZ d fl y))) _:=(funext λb=>by
    by_cases z:b=e'
    .subst z;rw[dw Z',qk (dW da),hn]
    .rw[dh z];by_cases z2:b=d
     .subst z2;rw[qw,qw]
     .rw[qk z2,qk z2,qk z]:(λb=>if b=e' then Db else upd (upd H1 e' (.ext (x1 e' C d))) d (.ext (KZ d fl y)) b)=upd H1 d (.ext (KZ d fl y))) ▸ I4.drop (a:=e') (φ:=x1 e' C d) (by rw[qk (dW da)];exact qw)
   refine⟨rv,Fa d,(Zk s'.heap I4.nA).1,⟨t',Zh,md⟩,?_⟩;subst hX;have Yj:Un (wD outer) [] H0 H1 s0.heap s1.heap:=I1.base;exact Vp I5 (tb:=none) ⟨_,_,md,Z',Z',Z',(by show 1<6;decide),Z',λT z=>by cases z⟩ (Hh Yj Z' mn) (λT z=>by cases z) (by rw[qk (dW da)];exact hn) (q1 d dn)
  | next=>exact False.elim Zw
  | brk=>exact False.elim Zw
  | cont=>exact False.elim Zw
end
end L2
namespace L3
open L2
variable {P:Pg}{w:Wo}{K:qC}{mg:QQZ}{base:No}{N:QQQ}{qual:Str}{scope:XXb}{f:Uf}{cd:Vl}{A:Ar}{outer:T0 Env}{s0:Sd}{H0:Hp}{E:XK}{x:Str}{np XZ pos:Pos}{e:Go}{C fI:Uf}{fdI:Ix}{ps:QQQ}{fl:Str}{k:Nat}{R:XR}{ta:ya}
def Qv(C:Uf)(R:XR)(f:Str)(ta:ya):xT:=λ_ U M=>ta U M λds M1=>∃z,ds=[z]/\R C (Fa (f,z)) M1
def KU(hC:J5 K C fI)(F:xK P w K mg base (C9 P w) k fI fdI ps (wR K fl))(hr:sC (k+1) (vL (C9 P w) P w K mg base N qual scope f cd A outer s0 H0 E).A)(hb:vc K fdI ps [])(st:yS K C fl)(_:W.findIn K (.ref C) "__init__"=Fa (Fa (.ref fI)))(hg:Gl (vL (C9 P w) P w K mg base N qual scope f cd A outer s0 H0 E) x)(hm:mg x=Fa (.ref C))(hR:UX K R E)(ha:A3 (vL (C9 P w) P w K mg base N qual scope f cd A outer s0 H0 E) [e] ta) (hs:Tl [e] (vL (C9 P w) P w K mg base N qual scope f cd A outer s0 H0 E).env=[(lf,wp e (vL (C9 P w) P w K mg base N qual scope f cd A outer s0 H0 E).env)]:=by rfl) (Yd:yI x:=by decide):
  S3 (vL (C9 P w) P w K mg base N qual scope f cd A outer s0 H0 E) (.Raise (Fa (.Call (.Name x np) [e] [] XZ)) Db pos) (Qv C R fl ta):=
 PS.mono (Kk Z' hC F hr hb st hg hm ha hs Yd) λD' Y H ⟨U,M,D,hs,hm,ht,_⟩=>⟨U,M,_,hs,hm,ht,λvs H1 ds M1 hd XT e1 q1=>by
  obtain⟨z,rfl,r⟩:=q1;obtain⟨v,rfl,hv⟩:=sN hd;exact⟨v,Z',λd dn=>hR C (Fa d) _ M1 _ (XT.add dn) (.inr ⟨d,fl,z,v,Z',Z',qw,hv.mono (.new dn)⟩) r⟩⟩
variable {X:Cx}{b₀:TD}{Ze:T0 TD}{cn:Str}{cnp Y7 epos:Pos}{Cc L:Uf}{te:RK}{th:xT}
def Nc{t:St->Hp->VK->(Hp->Prop)->XK->Prop}(he:Td X e t)(hs:sB e Db epos.line X.env=pure lf:=by rfl):Xi X (.Expr e epos) (λD Y H J E=>t Y H (λ_ H'=>D.nx Y H') J E):=by intro XQ s Y H D J E I h;exact wpAny_Expr_any (sS (he XQ s Y H _ J E I h) λv s1 zz=>x5 zz λy H1 I1 r1 q1=>⟨Y,H1,I1,q1⟩) I.quiet hs
end L3
namespace L2
def Ny{K:qC}{C C2 N fI:Uf}{nm q:Str}{bs sub:T0 Vl}{hdct ab:Bool}{sn:QQQ}{col:Option Bool}{dd od1 od2 dd2:Option Uf}{k0 k1 k2 k3 k5:Option Vl}{oc1 oc2 c0:Vl}{es1 es2:Array DictEntry}{ep1 ep2:Nat}{sl1 sl2 WV:Array (Option Vl)}{cd2:ClassData}{oI:Obj} (l1:K.lookup C=Fa (Y' nm q C N bs (.ref C2::NU) hdct sn sub ab col dd k0 k1 k2 k3 k5 "ValueError.__new__")) (n1:K.lookup N=Fa ⟨oc1,od1,.dict es1 ep1,sl1⟩) (s1:C8 es1=pc) (i1:nsFind es1 "__init__"=Fa (.ref fI)) (l2:K.lookup C2=Fa ⟨c0,dd2,.cls cd2,WV⟩) (n2:K.lookup cd2.ns=Fa ⟨oc2,od2,.dict es2 ep2,sl2⟩) (s2:C8 es2=pc) (i2:nsFind es2 "__init__"=Db) (l3:K.lookup fI=Fa oI) (hf:W.isFn K (.ref fI)=pc):J5 K C fI:=by
 have hc:oI.cls=.type "function":=by have hf:=fh.mp hf;unfold W.typeIn at hf;simp only at hf;rw[l3]at hf;exact dD hf
 refine⟨nm,q,N,bs,.ref C2::NU,NU,hdct,sn,sub,ab,col,dd,k0,k1,k2,k3,k5,"ValueError","ValueError","ValueError.__new__","ValueError.__new__","ValueError.__init__","ValueError.__init__",NU,λn=>nsFind es1 n,kN,by decide+kernel,kN,?_,i1,λh X=>⟨X C _ l1,⟨_,es1,ep1,X N _ n1,Z',Cs s1,λ_=>rfl⟩,.own (X C2 _ l2) ⟨_,es2,ep2,X _ _ n2,Z',Cs s2,λ_=>rfl⟩ i2 .base,oI,X fI _ l3,hc⟩⟩;rw[iM];have:NU.contains (.type "BaseException")=pc:=by decide+kernel
 rw[this,iL]
def Lk{K:qC}{C C2 N:Uf}{nm q f:Str}{bs sub:T0 Vl}{ab:Bool}{sn:QQQ}{col:Option Bool}{dd:Option Uf}{k0 k1 k2 k3 k5:Option Vl}(l1:K.lookup C=Fa (Y' nm q C N bs (.ref C2::NU) pc sn sub ab col dd k0 k1 k2 k3 k5 "ValueError.__new__"))(sa:W.findIn K (.ref C) "__setattr__"=Fa (Fa (.builtin "object.__setattr__")))(tk:W.findIn K (.ref C) f=Fa Db):yS K C f:=by refine⟨sa,⟨_,[C,C2],by unfold W.clsIn;rw[l1],Z',Z'⟩,?_⟩;unfold W.takerIn;rw[tk];rfl
end L2
namespace L3
open L2
variable {X:Cx}{pos XW:Pos}{o e:Go}{es:T0 Go}{ta:T3}{t:ya}
structure FA where
 f:Uf
 d:Ix
 p:QQQ
structure DG(K:qC)(st:TD)(py qual:Str)(ps:QQQ)(x:FA):Prop where
 pe:x.p=ps
 fn:Pe K py qual st x.f x.d
 b:vc K x.d x.p []
 ty:W.isFn K (.ref x.f)=pc
structure TG(K:qC)(mg:QQZ)(st:TD)(py:Str)(ps:QQQ)(x:FA):Prop extends DG K st py py ps x where
 mg:mg py=Fa (.ref x.f)
structure MG(K:qC)(C:Uf)(st:TD)(py qual:Str)(ps:QQQ)(x:FA):Prop extends DG K st py qual ps x where
 at_:W.findIn K (.ref C) py=Fa (Fa (.ref x.f))
structure CG(K:qC)(mg:QQZ)(nm:Str)(C:Uf):Prop extends Cls K C where
 mg:mg nm=Fa (.ref C)
def DG.kp{K:qC}{st:TD}{x:FA}(h:DG K st py qual ps x):W.keepIn K (.ref x.f)=pc:=h.fn.kp
def MG.nH{K:qC}{st:TD}{x:FA}(h:MG K C st py qual ps x):vP K C py x.f:=⟨h.at_,h.ty,h.toDG.kp⟩
def zY(K:qC)(C:Uf)(fs:QQQ):Prop:=∀f,fs.contains f=pc->uC K C f
def tV{K:qC}:zY K C []:=λf h=>by simp at h
def qc{K:qC}{C:Uf}{g:Str}(h:W.findIn K (.ref C) g=Fa Db)(r:zY K C fs):zY K C (g::fs):=λf q=>by
 rw[iM,ib]at q;rcases q with q|q
 .rw[wE q];exact h
 .exact r f q
abbrev Fq(P:Pg)(w:Wo)(K:qC)(mg:QQZ)(base:No)(k:Nat)(x:FA)(sp:rB):Prop:=Uj P w K mg base k x.f x.d x.p sp
abbrev WW(P:Pg)(w:Wo)(K:qC)(mg:QQZ)(base:No)(k:Nat)(x:FA)(sp:HB):Prop:=T7 P w K mg base k x.f x.d x.p sp
noncomputable def Tt(N P:QQQ)(sc:XXb):Bool:=sc.kind==.function&&(!sc.isCoroutine&&(!sc.isGenerator&&(decide N.Nodup&&(decide (N.take P.length=P)&&((P.all λx=>sc.names.lookup x==Fa .local||sc.names.lookup x==Fa .cell)&&sc.names.all λy=>!(y.2==.free))))))
def XO{N P:QQQ}(h:Tt N P sc=pc):tN N P sc:=by
 unfold Tt at h;simp only[d9,gP,fh,eC]at h;obtain⟨h1,h2,h3,h4,h5,h6,h7⟩:=h;refine⟨h1,h2,h3,h4,h5,λx hx=>?_,λy hy e=>?_⟩
 .have:=eV.mp h6 x hx
  simpa using this
 .have:=eV.mp h7 y hy;rw[e]at this;simp at this
variable {P:Pg}{w:Wo}{K:qC}{mg:QQZ}{base:No}
def WO{st:TD}{sp:rB}(F:DG K st x qual ps fa)(S:tN N ps (qu st))(len:∀ds M Q,sp ds M Q->ds.length=ps.length) (Yf:∀(X1:Vl) (A:Ar) (outer:T0 Env) (s:Sd) (H:Hp) (E:XK),sC k (A.deeper (xL qual (qu st) s.heap.objs.size fa.f X1))->
   ∃t,HZ (vL OA P w K mg base N qual (qu st) fa.f X1 A outer s H E).oP (sd st) t/\∀ds M Q,sp ds M Q->t {nx:=λ_ M'=>∃XU,qO XU M'/\Q .mY XU,rt:=λd M'=>∃XU,qO XU M'/\Q d XU} (xg N ds) M):Fq P w K mg base (k+1) fa sp:=by
 unfold Fq;rw[F.pe];exact Vb F.fn S len Yf
def VR{st:TD}{sp:HB}(F:DG K st x qual ps fa)(S:tN N ps (qu st))(len:∀ds M Q R,sp ds M Q R->ds.length=ps.length) (Yf:∀(X1:Vl) (A:Ar) (outer:T0 Env) (s:Sd) (H:Hp) (E:XK) (R:XR),sC k (A.deeper (xL qual (qu st) s.heap.objs.size fa.f X1))->UX K R E->
   ∃t,HZ (vL (C9 P w) P w K mg base N qual (qu st) fa.f X1 A outer s H E) (sd st) t/\∀ds M Q,sp ds M Q R->t {nx:=λ_ M'=>∃XU,qO XU M'/\Q .mY XU,rt:=λd M'=>∃XU,qO XU M'/\Q d XU} (xg N ds) M):WW P w K mg base (k+1) fa sp:=by
 unfold WW;rw[F.pe];exact UH F.fn S len Yf
variable {k n:Nat}{f C:Uf}{fa:FA}{st:TD}{qual:Str}{ps:QQQ}{sp:rB}{x m:Str}{p:Pos}
def pP(F:Fq X.prog X.w X.K X.mg X.base k fa sp)(hr:sC n X.A)(T:TG X.K X.mg st x ps fa)(ha:A3 X (e::es) t)(hn:k<=n:=by first|decide|lia)(hg:Gl X x:=by rfl)
  (Yd:yI x:=by decide) (he:BF X e es:=by rfl) (X9:Dh X pos es:=by rfl):
  E3 X (.Call (.Name x p) (e::es) [] pos) (Ec sp t):=Qp F (hr.mono hn) hg T.mg T.toDG.kp T.b ha Yd he X9
def vD(F:Fq X.prog X.w X.K X.mg X.base k fa sp)(hr:sC n X.A)(c:CG X.K X.mg x C)(i:Mk X.K C fa.f)(T:DG X.K st m qual ps fa)(ha:A3 X (e::es) t)(hn:k+1<=n:=by first|decide|lia)(hg:Gl X x:=by rfl)
  (Yd:yI x:=by decide) (he:BF X e es:=by rfl) (X9:Dh X pos es:=by rfl):
  E3 X (.Call (.Name x p) (e::es) [] pos) (Ru C sp t):=Qe c.toCls i F (hr.mono hn) hg c.mg T.b ha Yd he X9
def qh{pl:Sem Bool}(he:E3 X o ta)(c:Cls X.K C)(T:MG X.K C st m qual ps fa)(F:Fq X.prog X.w X.K X.mg X.base k fa sp)(hr:sC n X.A)(ha:A3 X (e::es) t)(hn:k<=n:=by first|decide|lia)
  (Ye:BF X e es:=by rfl) (X9:Dh X pos es:=by rfl)
  (ht:wp (.Call (.Attribute o m XW) (e::es) [] pos) X.env=(do
   let ov<-wp o X.env
   XXa XW.atName
   let(f,first)<-ZB [ov] (TW ov m pl)
   XXf pos f first (xz pos (Tl (e::es) X.env)) (IN pos (Rs [] X.env))):=by rfl):
  E3 X (.Call (.Attribute o m XW) (e::es) [] pos) (AK m (λD s=>D=C/\s=sp) ta t):=
 F' (R:=λD s=>D=C/\s=sp) he (λD s ⟨e1,e2⟩=>by subst e1 e2;exact⟨c,_,_,_,T.nH,F,T.b⟩) (hr.mono hn) ha Ye X9 ht
def yz{pl:Sem Bool}(he:E3 X o ta)(c:Cls X.K C)(T:MG X.K C st m qual ps fa)(F:Fq X.prog X.w X.K X.mg X.base k fa sp)(hr:sC n X.A)(hn:k<=n:=by first|decide|lia)
  (ht:wp (.Call (.Attribute o m XW) [] [] pos) X.env=(do
   let ov<-wp o X.env
   XXa XW.atName
   let(f,first)<-ZB [ov] (TW ov m pl)
   XXf pos f first (xz pos (Tl [] X.env)) (IN pos (Rs [] X.env))):=by rfl):
  E3 X (.Call (.Attribute o m XW) [] [] pos) (AK m (λD s=>D=C/\s=sp) ta xH):=
 Cm (R:=λD s=>D=C/\s=sp) he (λD s ⟨e1,e2⟩=>by subst e1 e2;exact⟨c,_,_,_,T.nH,F,T.b⟩) (hr.mono hn) ht
def zi{pl:Sem Bool}(cm:Np X.K C m fa.f)(F:Fq X.prog X.w X.K X.mg X.base k fa sp)(hr:sC n X.A)(c:CG X.K X.mg x C)(T:DG X.K st m qual ps fa)(ha:A3 X (e::es) t)(hn:k<=n:=by first|decide|lia)(hg:Gl X x:=by rfl)
  (Yd:yI x:=by decide) (Ye:BF X e es:=by rfl) (X9:Dh X pos es:=by rfl)
  (ht:wp (.Call (.Attribute (.Name x p) m XW) (e::es) [] pos) X.env=(do
   let ov<-wp (.Name x p) X.env
   XXa XW.atName
   let(f,first)<-ZB [ov] (TW ov m pl)
   XXf pos f first (xz pos (Tl (e::es) X.env)) (IN pos (Rs [] X.env))):=by rfl):
  E3 X (.Call (.Attribute (.Name x p) m XW) (e::es) [] pos) (Ec sp t):=Qk cm F (hr.mono hn) hg c.mg T.kp T.b ha Yd Ye X9 ht
variable {h:No}{py:Str}{od an:Option Uf}{sl:Array (Option Vl)}{kv dc pm cd ct:Vl}
def Jq{fd:Ix}{oc:Vl}(l:K.lookup f=Fa ⟨oc,od,.func fd,sl⟩):W.keepIn K (.ref f)=pc:=by unfold W.keepIn;simp only;rw[l]
def Pv{fd:Ix}(l:K.lookup f=Fa ⟨.type "function",od,.func fd,sl⟩):W.isFn K (.ref f)=pc:=by unfold W.isFn W.typeIn;simp only;rw[l];rfl
abbrev nk(py qual:Str)(st:TD)(ps:QQQ):Prop:=∀(kV Yu pm:Vl) (an:Option Uf) (X1 ct:Vl) (us:T0 Vl),us.length=ps.length->bindArgs (W.fnOf py qual (uN st) (sd st) (qu st) .none kV Yu pm an X1 ct) ⟨us,[]⟩=pure (ps.zip us)
def RF(l:K.lookup f=Fa ⟨.type "function",od,.func (W.fnOf py qual (uN st) (sd st) (qu st) .none kv dc pm an cd ct),sl⟩)(k:W.codeIn K cd qual=pc)(hb:nk py qual st ps):
  DG K st py qual ps ⟨f,W.fnOf py qual (uN st) (sd st) (qu st) .none kv dc pm an cd ct,ps⟩:=⟨Z',LC l k (Jq l),(LC l k (Jq l)).binds hb,Pv l⟩
def qx(X:K.In h)(G:h.Ns wv mg)(a:W.nsIn K wv py=Fa (Fa (.ref f)))(l:K.lookup f=Fa ⟨.type "function",od,.func (W.fnOf py py (uN st) (sd st) (qu st) .none kv dc pm an cd ct),sl⟩)(k:W.codeIn K cd py=pc)(hb:nk py py st ps):
  TG K mg st py ps ⟨f,W.fnOf py py (uN st) (sd st) (qu st) .none kv dc pm an cd ct,ps⟩:=⟨RF l k hb,W.mg_of X G a⟩
def qo(a:W.findIn K (.ref C) py=Fa (Fa (.ref f)))(l:K.lookup f=Fa ⟨.type "function",od,.func (W.fnOf py qual (uN st) (sd st) (qu st) .none kv dc pm an cd ct),sl⟩)(k:W.codeIn K cd qual=pc)(hb:nk py qual st ps):
  MG K C st py qual ps ⟨f,W.fnOf py qual (uN st) (sd st) (qu st) .none kv dc pm an cd ct,ps⟩:=⟨RF l k hb,a⟩
def wF(X:K.In h)(G:h.Ns wv mg)(a:W.nsIn K wv py=Fa (Fa (.ref C)))(h1:W.plainGet K C Str.empty=pc)(h2:W.hasDictIn K C=pc)(h3:W.plainOver K C=pc)(h4:W.findIn K (.ref C) "__setattr__"=Fa (Fa (.builtin "object.__setattr__"))):CG K mg py C:=⟨⟨h1,h2,h3,h4⟩,W.mg_of X G a⟩
def VC(h1:(W.clsIn K C).isSome=pc)(h2:W.findIn K (.ref C) "__getattribute__"=Fa (Fa (.builtin "BaseException.__getattribute__")))(h3:W.findIn K (.ref C) "__getattr__"=Fa Db)(h4:W.findIn K (.ref C) "__class__"=Fa (Fa (.builtin "object.__class__"))) (h5:W.specialIn K (.builtin "object.__class__") "__get__"=Fa (Fa (.builtin "getset_descriptor.__get__"))) (h6:W.takesIn K (.builtin "object.__class__")=Fa pc) (h7:W.mroIn K C (.type "object")=Fa pc) (h8:W.mroIn K C (.type "BaseException")=Fa pc):AV K C:=⟨h1,h2,h3,h4,h5,h6,h7,h8⟩
def PP{x:Str}{a:Uf}{es:T0 DictEntry}{ep:Nat}(h:mg x=Fa (.ref a))(s:(a==XV)=lf)(l:K.lookup a=Fa ⟨.type "dict",Db,.dict es.toArray ep,#[]⟩) (r:KTD.Rows (λ(ss:QQQ) v=>∃t,v=Value.ref t/\vn K (λ_=>Db) t (ss.map V.str)) es T):Lr K mg x T:=⟨a,_,_,_,h,s,l,⟨Z',Z',Z'⟩,Z',by simpa using r⟩
def Mr{x qual y1 y2 fl:Str}{st:TD}(F:DG K st x qual [y1,y2] fa)(S:tN [y1,y2] [y1,y2] (qu st)) (hb:∀(X1:Vl) (A:Ar) (outer:T0 Env) (s:Sd) (H:Hp) (E:XK),Cq (vL (C9 P w) P w K mg base [y1,y2] qual (qu st) fa.f X1 A outer s H E) (sd st) (NG K (ED 0) (ED 1) fl)):xK P w K mg base (C9 P w) 1 fa.f fa.d fa.p (wR K fl):=by
 rw[F.pe];exact Ni F.fn S hb
def Vz(ds:T0 D)(M:Mp)(Q:DK):Prop:=match ds with
 | [.ref a]=>(oN M a).elim False λes=>(GJ es).elim False λbs=>Q (.bl (bs.any id)) M
 | _=>False
def TB(hc:X.calm=pc):C3 X (.builtin "any") Vz:=by
 intro XQ s Y H vs us Q' I rv h;obtain⟨ds,M,Q,hd,hm,q,k⟩:=h;unfold Vz at q;split at q
 .rename_i a;obtain⟨v,rfl,hv⟩:=sN hd;obtain⟨es,e0,q⟩:=qZ q;obtain⟨bs,e1,q⟩:=qZ q;cases hv.mT;obtain⟨u,rfl,ru⟩:=yK rv;cases ru;obtain⟨xs,h1,h2,_⟩:=qG hm e0;obtain⟨its,r,pl,hz⟩:=I.list h1;have eits:=EJ e1 h2 r;subst eits;have Yc:a≠s.heap.objs.size:=by obtain⟨o,_,e,_⟩:=pl;exact dP (dG e)
  refine call_any_walk (gO pl.isList ?_);refine⟨s.heap.objs.size,_,_,_,_,_,λi=>(bs[i]?).getD lf,Z',kK (A:=X.A.in1) (I.ok.hd hc) _ a Yc (bs.map Value.bool).toArray,⟨⟨_,dO _ Z',Z',Z'⟩,?_⟩,λi v s' Q E hP hQ=>?_,λh' tk hk=>?_⟩
  .obtain⟨o,n,e,c,d,q⟩:=pl;exact⟨o,dz _ e,c,n,q⟩
  .simp only[jb,dM]at hP;cases e2:bs[i]? with
   | none=>rw[e2]at hP;cases hP
   | some b=>rw[e2]at hP;cases hP;have hQ:Q ((bs[i]?).getD lf) s':=hQ;rw[e2]at hQ;exact fB hQ
  .have ea:(List.range (bs.map Value.bool).toArray.size).any (λi=>(bs[i]?).getD lf)=bs.any id:=by
    rw[dF,de];rw[gf,fY,fY];constructor
    .rintro ⟨i,hi,z⟩
     have Zr:=gp.mp hi;rw[dg Zr]at z;exact⟨_,iw Zr,z⟩
    .rintro ⟨b,hb,z⟩
     obtain⟨i,hi,e⟩:=g9 hb;refine⟨i,gp.mpr hi,?_⟩;rw[dg hi,e];exact z
   rw[ea];refine⟨.bl (bs.any id),H,?_,Z',k _ _ _ _ .bl hm .refl q⟩;exact I.kept (h':=h') (t':=tk) λb o e=>hk b o (by simpa using dP (dG e)) (dz _ e)
 .exact q.elim
def S6:zn "any"=Fa (.builtin "any"):=by decide+kernel
end L3
namespace L2
structure Q9(K:qC)(C:Uf)(f:Str):Prop where
 ci:AV K C
 hh:W.hasDictIn K C=pc
 tk:W.findIn K (.ref C) f=Fa Db
def MU{h:No}{d:Uf}{m:QQZ}{f:Str}{u:Vl}(x:h.Ns1 d m)(e:m f=Fa u):∃od,h.get? d=Fa od/\W.lookIn f od=Fa (Fa u):=by obtain⟨o,es,ep,e1,e2,_,_,e3⟩:=x;refine⟨o,e1,?_⟩;have e3:=e3 f;rw[e]at e3;unfold nsFind findBy at e3;rw[<-lw]at e3;obtain⟨en,h1,h2⟩:=iT.mp e3;unfold W.lookIn;rw[e2];dsimp only;rw[h1];exact eZ (λz=>Fa (Fa z)) h2
variable {prog:Pg}{w:Wo}{A:Ar}{E:QQX}{s:Sd}{K:qC}{x C:Uf}{ox od:Obj}{f:Str}{v:Vl}
def NT{tk:Tok}{Q:PySem.Fin->Sd->Prop}(X:K.In s.heap)(I:W.InstAt s.heap x ox C (Fa od))(hf:W.findObj K C (Fa od) f=Fa (.value v))(h:Q (.done (.ret v)) s):pi (Tk prog w) A (Builtin.«object.__getattribute__» {pos:=[.ref x,.str f tk]}) Q E s:=by have L0:=I.type (M:=Tk prog w);unfold Builtin.«object.__getattribute__» slotArgs;refine df ?_;rw[dh (by simp)];dsimp only;rw[dh (by simp)];refine dA ?_;dsimp only;refine df ?_;unfold Builtin.ObjectAttr.attrName;refine dA (df (L0.at (df ((W.looks_find X I hf).at ?_))));exact dA h
def Q4{expr:Bool}{Q:QQX}(c:Q9 K C f)(X:K.In s.heap)(I:W.InstAt s.heap x ox C (Fa od))(hl:W.lookIn f od=Fa (Fa v))(hv:W.handedIn v=pc)(h:Q v {s with toks:=s.toks+1}):pi (Tk prog w) A (getAttr (.ref x) f expr) Q E s:=by have L0:=I.type (M:=Tk prog w);unfold getAttr getAttrBy;refine df (wpAny_mkText (eD (df (L0.at (df ((im X c.ci.ga).at ?_))))));dsimp only;rw[dh (by simp)];unfold getAttrByItsOwn;refine df ?_;unfold hookBefore;rw[dw (by rfl)];refine(im X c.ci.gt).at (df (iX (eD ?_)));unfold callGetattribute;rw[dh (by simp;intro _;rfl)];unfold boundAndCalled;refine df ?_;rw[ip.ga.bind (.ref x)];refine dA ?_;refine h9 (iu ip.ga.plain mw (GC c.ci X I.at_ I.cls ?_));exact NT X I (W.findObj_own c.hh c.tk Z' hl) (W.handed_on hv h)
variable {X:Cx}{e:Go}{pos:Pos}{ta:TE}
noncomputable def Mz:V->Bool
 | .str _=>pc
 | .int _=>pc
 | .bl _=>pc
 | .mY=>pc
 | _=>lf
def Ga{v:V}(r:qQ v u)(p:Mz v=pc):W.handedIn u=pc:=by
 cases v<;>first
  | (cases r;rfl)
  | (obtain⟨t,rfl⟩:=r;rfl)
  | cases p
def VO(K:qC)(ta:TE)(f:Str):TE:=λY H Q=>ta Y H λx H1=>Au λa C d v=>x=.ref a/\H1 a=Fa (.ext (G7 a C d))/\H1 d=Fa (.ext (KZ d f v))/\Q9 K C f/\Mz v=pc/\Q v H1
def QM(he:PE X e ta)(hb:Ps e f X.env (wp e X.env)=wp e X.env):PE X (.Attribute e f pos) (VO X.K ta f):=by intro XQ s Y H Q I h;refine J0 hb (sS (he XQ s Y H _ I h) λu s1 zz=>?_);obtain⟨x,H1,I1,rx,a,C,d,v,ex,ea,ed,c,p,q⟩:=zz;subst ex;obtain rfl:u=Value.ref a:=rx;obtain⟨⟨oe,vs,e1,e2,e3,e4⟩,_,_⟩:=I1.m8 a _ ea;obtain⟨⟨u,n1,r⟩,_,_⟩:=I1.m8 d _ ed;obtain⟨od,g1,g2⟩:=MU n1 (dw Z');exact Q4 (ox:=oe) c I1.nA ⟨e1,e2,by unfold W.notCls;rw[e3],by rw[e4];exact g1⟩ g2 (Ga r p) ⟨v,H1,I1.tok _,r,q⟩
def O8{a C d:Uf}(x:G7 a C d h):su P w H h a (.ext (G7 a C d)):=by refine⟨x,?_,λh1 h2 ⟨oe,vs,e1,e2,e3,e4⟩ k=>⟨oe,vs,k oe e1,e2,e3,e4⟩⟩;obtain⟨oe,_,e,_⟩:=x;exact⟨oe,e⟩
def Qm{st b₀:TD}{Ze:T0 TD}{cn n:Str}{cnp Y7 pos:Pos}{Cc L:Uf}{outer:T0 Env}{i:Nat}{t:Fm->St->Hp->(Hp->Prop)->XK->Prop}(hb:Xi X st t)(Ye:X.stack=X.env::outer)(hL:X.env.frame=Fa L)(hg:Gl X cn)(hm:X.mg cn=Fa (.ref Cc)) (hN:X.N.Nodup) (hi:X.N[i]?=Fa n) (hk:X.env.scope.names.lookup n=Fa .local) (hs:∀ev E',Cq (X.marked ev E') (b₀::Ze) th) (Yd:yI cn:=by decide):
  PS X (.Try [st] [.ExceptHandler (Fa (.Name cn cnp)) (Fa n) (b₀::Ze) Y7] [] [] pos) (λD Y H=>∃(J:Hp->Prop) (E:XK),t D Y H J E/\∀C dx H1 H',J H1->TKept H1 H'->E (.ref C) dx H'->∃d,dx=Fa d/\W.exmOne X.K (.ref C) (.ref Cc)=Fa pc/\
   ∀a,H' a=Db->th {nx:=λσ' H2=>D.nx (σ'.set i Db) H2,rt:=D.rt,bk:=λσ' H2=>D.bk (σ'.set i Db) H2,ct:=λσ' H2=>D.ct (σ'.set i Db) H2} (Y.set i (Fa (.ref a))) (upd H' a (.ext (G7 a C d)))):=by
 intro XQ s Y H D I ⟨J,E,h,hh⟩;refine wpAny_Try_except (eJ (Q:=λf s'=>SP X XQ D f s') (jU (sS (hb XQ s Y H D J E I h) λf s1 q=>?_)) (λf s1 q=>?_) λev s1 x=>?_)
 .cases f with
  | next=>exact hZ q
  | brk=>exact q
  | cont=>exact q
  | ret v=>exact q
 .cases f with
  | next=>exact hZ q
  | brk=>exact q
  | cont=>exact q
  | ret v=>exact q
 .refine eJ (Tr x Ye hL) (λ_ s2 y=>sS y λ_ s3 z=>?_) λ_ _ z=>z;obtain⟨a,C,dx,H',tb,H1,s1,rfl,q,I3,x3,na,nt,jH,tk,I1,n1⟩:=z;obtain⟨d,rfl,XT,h1⟩:=hh C dx H1 H' jH tk q;refine wpAny_handleBy_cons (codeAny_handlers_test (xf (X:=X.marked (.ref a) λ_ _=>False) I3.mark hg hm ?_ Yd)) (by intro z;cases z);obtain⟨oe,vs,ho,hc,ZG,hd,_⟩:=id x3;refine W.exm_one I3.nA (Df ho) (by rw[hc];exact XT) _ _ _ _ (λ_ _ z=>z) ?_;refine codeAny_handlers_suite_as (GU x3 λh' hh'=>?_);have I4:Inv X XQ Y H' {s3 with heap:=h'}:=I3.kept (t':=s3.toks) λb u z=>by rw[hh' b];exact z
  have I5:Inv X XQ Y (upd H' a (.ext (G7 a C d))) {s3 with heap:=h'}:=I4.adopt I1 n1 na (O8 ⟨oe,vs,by show h'.get? a=_;rw[hh' a];exact ho,hc,hd,ZG⟩);refine zR (v:=.ref a) I5 hN hi (.inl hk) Z' (λs6 I6=>?_) (.inr hk);refine eJ (hs (.ref a) _ XQ _ _ _ _ I6.mark (h1 a na)) (λf s7 q7=>?_) λ_ _ z=>z;have q7:=SP.unmark I.ok q7;cases f with
  | next=>obtain⟨σ',H2,I7,q⟩:=q7;exact yy I7 hN hi hk λs8 I8=>⟨_,H2,I8,q⟩
  | brk=>obtain⟨σ',H2,I7,q⟩:=q7;exact yy I7 hN hi hk λs8 I8=>⟨_,H2,I8,q⟩
  | cont=>obtain⟨σ',H2,I7,q⟩:=q7;exact yy I7 hN hi hk λs8 I8=>⟨_,H2,I8,q⟩
  | ret v=>obtain⟨y,σ',H2,I7,r,q⟩:=q7;exact yy I7 hN hi hk λs8 I8=>⟨y,_,H2,I8,r,q⟩
end L2
namespace L3
open L2
variable {X:Cx}{cn n x:Str}{e:Go}{cnp Y7 pos XW xpos p1 p2 p3 p4:Pos}{Cc L:Uf}{outer:T0 Env}{i ix:Nat}{te:RK}{fl:Str}
end L3
namespace L2
variable {prog:Pg}{w:Wo}{A:Ar}{E:QQX}{s:Sd}
theorem Ek{it t:Uf}{XS:Array Vl}(Yc:t≠it):∀(n i:Nat) (s:Sd) (Q:T0 Vl->Sd->Prop),s.heap.IsListIter it t i->s.heap.IsList t XS->i+n<=XS.size->
  (∀h',h'.IsListIter it t (i+n)->Heap.SameBut it s.heap h'->Q ((XS.toList.drop i).take n) {s with heap:=h'})->pi (Tk prog w) A (draw (.ref it) n) Q E s
 | 0,i,s,Q,hit,_,_,hQ=>by show pi _ _ (pure []) Q E s;exact dA (by simpa using hQ s.heap hit (Heap.SameBut.refl ..))
 | n+1,i,s,Q,hit,ht,hle,hQ=>by
  have X3:i<XS.size:=by lia
  show pi _ _ (pyNext (.ref it)>>=_) Q E s;refine df (kt hit ht (x:=XS[i]) (by simp[X3]) λh₁ hit₁ hs₁=>?_);refine df (eD (Ek Yc n (i+1) _ _ hit₁ (ht.extBut hs₁.extBut Yc) (by lia) λh₂ hit₂ hs₂=>dA ?_));have hd:XS.toList.drop i=XS[i]::XS.toList.drop (i+1):=by simp[gR,X3]
  have:=hQ h₂ (by rw[show i+(n+1)=i+1+n by lia];exact hit₂) (hs₁.trans hs₂);rw[hd,List.take_succ_cons]at this;exact this
def AG{t:Uf}{XS:Array Vl}{Q:T0 Vl->Sd->Prop}(hh:A.handled=Db)(ht:s.heap.IsList t XS) (hQ:∀h',Heap.ExtBut s.heap.objs.size s.heap h'->Q XS.toList {s with heap:=h'}):pi (Tk prog w) A (unpackItems (.ref t) XS.size Db) Q E s:=by
 have X3:t≠s.heap.objs.size:=by obtain⟨o,ho,_⟩:=ht;exact dP (dG ho)
 unfold unpackItems;refine df ?_
 .unfold notIterableAtAll;refine df (jf ht.typeIs slot_list_iter.lookup ?_);refine dA ?_;simp only[iK,ju];refine df (eD (gO ht ?_));refine df (eD (Ek X3 XS.size 0 _ _ ⟨_,dO _ Z',Z',Z'⟩ (ht.push _) (by lia) λh₁ hit₁ hs₁=>?_));have Yx:List.take XS.size (List.drop 0 XS.toList)=XS.toList:=by rw[jx];exact ig (by simp)
  rw[Yx];rw[dh (by simp)];have ht₁:h₁.IsList t XS:=(ht.push _).extBut hs₁.extBut X3;refine df (eD (kz hh hit₁ ht₁ (by simp) λh₂ he₂=>?_));simp only[Option.isSome_none,iK,ju];refine dA (hQ h₂ λb o hb e=>he₂ b o hb (hs₁.extBut b o hb (dz _ e)))
def zo{env:Env}{Yi:T0 Go}{x1}{pos:Pos}{t:Uf}{XS:Array Vl}{Q:Unit->Sd->Prop}(hh:A.handled=Db)(ht:s.heap.IsList t XS) (hn:(At Yi env).length=XS.size) (hstar:(At Yi env).findIdx? (·.1)=Db) (h:∀h',Heap.ExtBut s.heap.objs.size s.heap h'->pi (Tk prog w) A (assignInOrder ((At Yi env).map (·.2)) XS.toList) Q E {s with heap:=h'}):
  pi (Tk prog w) A (assign (.Tuple Yi x1 pos) env (.ref t)) Q E s:=by
 rw[arm_assign_Tuple];refine df (hW ?_);unfold unpack;rw[hn,hstar];exact df (eD (AG hh ht h))
end L2
namespace L3
open L2
variable {X:Cx}{pos:Pos}
def S4(n:Nat)(t:Dl):Dj:=λd U M Q=>match d with|.ref a=>(oN M a).elim False λds=>ds.length=n/\t ds U M Q|_=>False
def Qh{t:Dl}{n:Nat}(hc:X.calm=pc)(h:UB X es t)(hn:(At es X.env).length=n:=by rfl)(Ye:(At es X.env).findIdx? (·.1)=Db:=by rfl):G3 X (.Tuple es k pos) (S4 n t):=by
 intro XQ s Y H v u Q' I r ⟨d,U,M,Q,hd,hs,hm,ht,kq⟩;cases d with
 | ref a=>
  obtain⟨ds,e,hl,ht⟩:=qZ ht;cases hd.mT;cases r;obtain⟨xs,h1,h2,_⟩:=qG hm e;obtain⟨its,rv,pl,hz⟩:=I.list h1;have hx:xs.length=n:=by rw[<-hl];exact h2.length.symm
  refine zo (I.ok.hd hc) pl.isList (by simp[hn,<-hx,rv.length]) Ye λh' hx=>?_;have I1:Inv X XQ Y H {s with heap:=h'}:=I.kept (t':=s.toks) λb o e=>hx b o (dP (dG e)) e;exact h XQ _ Y H xs _ Q' I1 (by simpa using rv) ⟨ds,U,M,Q,h2,hs,hm,ht,kq⟩
 | _=>exact ht.elim
variable {cn n x:Str}{e:Go}{cnp Y7 XW p1 p2 p4:Pos}{Cc L:Uf}{outer:T0 Env}{i ix:Nat}{te:RK}{ta:T3}{fl f:Str}
def UJ(K:qC)(ix i:Nat)(Cc:Uf)(te:RK):xT:=λD U M=>∃R,te U M (λ_ M1=>D.nx U M1) R/\∀C y M',R C y M'->W.exmOne K (.ref C) (.ref Cc)=Fa pc/\z9 λfl z=>y=Fa (fl,.str z)/\
 ∀a d M2,qO M' M2->M' a=Db->MW M2 a C (Fa (d,KZ d fl (.str z)))->D.nx ((U.set ix (Fa (.ref a))).set i Db) M2
def OW(he:Xm X e te)(Ye:X.stack=X.env::outer)(hL:X.env.frame=Fa L)(hg:Gl X cn)(hm:X.mg cn=Fa (.ref Cc))(hN:X.N.Nodup)(hix:X.N[ix]?=Fa x)(hx:X.env.scope.names.lookup x=Fa .local)(hi:X.N[i]?=Fa n)(hk:X.env.scope.names.lookup n=Fa .local)(Yc:ix≠i) (hd:yI n:=by decide) (Yl:(n==("__classdict__":Str))=lf:=by decide) (hsw2:sB (.Name n p2) (Fa (.Name x p1)) p4.line X.env=pure lf:=by rfl)
  (Yd:yI cn:=by decide) (Zj:sB e Db XW.line X.env=pure lf:=by rfl):
  S3 X (.Try [.Expr e XW] [.ExceptHandler (Fa (.Name cn cnp)) (Fa n) [.Assign [.Name x p1] (.Name n p2) p4] Y7] [] [] pos) (UJ X.K ix i Cc te):=
 PS.og (Qm (th:=QD (ED i) (Jw ix)) (Nc he Zj) Ye hL hg hm hN hi hk (λev E'=>EG (LQ (X:=X.marked ev E') (te:=ED i) hN hix (.inl hx) (NM (X:=X.marked ev E') hi (.inl hk) hd Yl) hsw2 (.inr hx))) Yd) λD' Y H hl ⟨U,M,D,hs,hm,⟨R,ht,hh⟩,k1,k2,k3,k4⟩=>by
  refine⟨λH1=>qY X.K H H1,λcv d H'=>∃C M' y,cv=.ref C/\HM X.K H' M'/\Us X.K H' d y/\R C y M',⟨U,M,_,R,hs,hm,ht,λv H1 d M1 hd XT e1 q1=>?_,λ_ z=>z,λC dx H' M' y h1 h0 h2=>⟨C,M',y,Z',h1,h0,h2⟩⟩,λC dx H1 H' jH tk ⟨C',M',y,ec,YY,ZG,r⟩=>?_⟩
  .exact k1 _ H1 _ M1 (hs.mono e1) XT e1 Z' q1
  .cases ec;obtain⟨r1,fl,z,ey,q⟩:=hh C y M' r;rcases ZG with⟨_,z⟩|⟨d,f,z',v,ed,ez,hd,hv⟩
   .rw[ey]at z;cases z
   .rw[ey]at ez;cases ez;obtain rfl:=hv.str_inv;have hiσ:i<Y.length:=by rw[hl];exact(dv.mp hi).1
    have hxσ:ix<Y.length:=by rw[hl];exact(dv.mp hix).1
    refine⟨d,ed,r1,λa na=>⟨.ref a,by rw[eW hiσ],?_⟩⟩;have e1:qY X.K H H':=jH.trans (L2.TKept.ext tk);have e2:qY X.K H' (upd H' a (.ext (G7 a C d))):=.new na;have s1:=(hs.mono (e1.trans e2)).set (i:=ix) (.ref (i:=a)) hxσ;have s2:=s1.unset (i:=i);have da:d≠a:=λz=>by rw[z,na]at hd;cases hd
    have hmd:HM X.K H' (pQ M' d (.exc (KZ d fl (.str z)))):=λb c q=>by
     by_cases e:b=d
     .subst e;rw[pZ]at q;cases q;exact hd
     .rw[sU e]at q;exact YY b c q
    refine k1 _ _ _ _ ?_ (hmd.new (c:=.exc (G7 a C d)) na qw) (e1.trans e2) (by simp) (q a d _ ?_ (YY.fresh na) ⟨pZ,by rw[sU da];exact pZ⟩)
    .rw[List.set_comm _ _ Yc.symm,ji];exact s2
    .intro b c hb;have ba:b≠a:=PH hb (YY.fresh na);rw[sU ba];by_cases e:b=d
     .subst e;rw[pZ];have ok:=YY b c hb;cases c with
      | lst ds=>obtain⟨xs,e1,_⟩:=ok;rw[hd]at e1;cases e1
      | ins C fs=>obtain⟨dx,vs,e1,_⟩:=ok;rw[hd]at e1;cases e1
      | dk kvs=>obtain⟨vs,e1,_⟩:=ok;rw[hd]at e1;cases e1
      | exc φ=>have e1:H' b=Fa (.ext φ):=ok;rw[hd]at e1;cases e1;rfl
     .rw[sU e];exact hb
def UV(K:qC)(ta:T3)(f:Str):T3:=λU M Q=>ta U M λx M1=>Au λa C d z=>x=.ref a/\MW M1 a C (Fa (d,KZ d f (.str z)))/\Q9 K C f/\Q (.str z) M1
def Qu(he:E3 X e ta)(hb:Ps e f X.env (wp e X.env)=wp e X.env:=by rfl):E3 X (.Attribute e f pos) (UV X.K ta f):=PE.mono (QM he hb) λY H Q' zz=>x7 zz λU M Q hs hm ht k=>
 ⟨U,M,_,hs,hm,ht,λv H1 x M1 hx XT e1 ⟨a,C,d,z,ex,ea,c,q⟩=>by
  subst ex;cases hx.mT;exact⟨a,C,d,.str z,Z',XT _ _ ea.1,XT _ _ ea.2,c,Z',k _ _ _ _ .str XT e1 q⟩⟩
end L3
namespace L3
open L2
def OC(i:Nat){X:Cx}{pos:Pos}{x:Str}(h1:X.N[i]?=Fa x:=by rfl)(h2:RV X.env.scope x:=by first|exact Or.inl Z'|exact Or.inr (Or.inl Z')|exact Or.inr (Or.inr Z'))(h3:yI x:=by decide)(h4:(x==("__classdict__":Str))=lf:=by decide):E3 X (.Name x pos) (v3 i):=Se i (pv i h1 h2 h3 h4)
variable {X:Cx}{pos:Pos}
def XC{N:QQQ}(h:decide N.Nodup=pc):N.Nodup:=fU h
def pU(i:Nat){x:Str}{e:Go}{te:T3}{X5:Pos}{ps:QQQ}{sc:XXb}(S:tN X.N ps sc)(he:E3 X e te)(hi:X.N[i]?=Fa x:=by rfl)(hx:Os X.env.scope x:=by first|exact Or.inl Z'|exact Or.inr Z')(Zj:sB e (Fa (.Name x X5)) pos.line X.env=pure lf:=by rfl)(hf:NA X x:=by first|exact .inl Z'|exact .inr Z'|assumption):S3 X (.Assign [.Name x X5] e pos) (CU te (tU i)):=R9 S.nd hi hx he Zj hf
def rC(i:Nat){x:Str}{ps:QQQ}{sc:XXb}(S:tN X.N ps sc)(hi:X.N[i]?=Fa x:=by rfl)(hx:Os X.env.scope x:=by first|exact Or.inl Z'|exact Or.inr Z')(hf:NA X x:=by first|exact .inl Z'|exact .inr Z'|assumption):G3 X (.Name x pos) (tU i):=Jg S.nd hi hx hf
def qM(i:Nat){x:Str}(hN:decide X.N.Nodup=pc:=by kernel_rfl)(hi:X.N[i]?=Fa x:=by rfl)(hx:Os X.env.scope x:=by first|exact Or.inl Z'|exact Or.inr Z')(hf:NA X x:=by first|exact .inl Z'|exact .inr Z'|assumption):G3 X (.Name x pos) (tU i):=Jg (XC hN) hi hx hf
abbrev Sc(n:Nat)(N:QQQ)(s:TD):=tN N (N.take n) (qu s)
def sk{n:Nat}{s:TD}(h:Tt N (N.take n) (qu s)=pc:=by decide+kernel):Sc n N s:=XO h
def qz(h0:E3 X e0 t0)(g0:Tl [e0] X.env=(lf,wp e0 X.env)::Tl [] X.env:=by rfl):A3 X [e0] (vB t0 xH):=(qg h0 tI g0)
def rQ(h0:E3 X e0 t0)(h1:E3 X e1 t1)(g0:Tl [e0,e1] X.env=(lf,wp e0 X.env)::Tl [e1] X.env:=by rfl)(g1:Tl [e1] X.env=(lf,wp e1 X.env)::Tl [] X.env:=by rfl):A3 X [e0,e1] (vB t0 (vB t1 xH)):=(qg h0 (qg h1 tI g1) g0)
def rc(h0:E3 X e0 t0)(h1:E3 X e1 t1)(h2:E3 X e2 t2)(g0:Tl [e0,e1,e2] X.env=(lf,wp e0 X.env)::Tl [e1,e2] X.env:=by rfl)(g1:Tl [e1,e2] X.env=(lf,wp e1 X.env)::Tl [e2] X.env:=by rfl)(g2:Tl [e2] X.env=(lf,wp e2 X.env)::Tl [] X.env:=by rfl):A3 X [e0,e1,e2] (vB t0 (vB t1 (vB t2 xH))):=(qg h0 (qg h1 (qg h2 tI g2) g1) g0)
abbrev v0:=@OC 0
abbrev U1:=@OC 1
abbrev U2:=@OC 2
abbrev U3:=@OC 3
abbrev v5:=@OC 5
abbrev v4:=@OC 4
abbrev v6:=@OC 6
abbrev v7:=@OC 7
abbrev v8:=@OC 8
abbrev v9:=@OC 9
variable {P:Pg}{w:Wo}{K:qC}{mg:QQZ}{base:No}
def fq{st:TD}{sp:rB}(F:DG K st x qual ps fa)(S:tN N ps (qu st)) (hb:∀{X1:Vl} {A:Ar} {outer:T0 Env} {s:Sd} {H:Hp} {E:XK},sC k (A.deeper (xL qual (qu st) s.heap.objs.size fa.f X1))->(A.deeper (xL qual (qu st) s.heap.objs.size fa.f X1)).units+9<X'->
   ∃t,HZ (vL OA P w K mg base N qual (qu st) fa.f X1 A outer s H E).oP (sd st) t/\∀ds M Q,sp ds M Q->t {nx:=λ_ M'=>∃XU,qO XU M'/\Q .mY XU,rt:=λd M'=>∃XU,qO XU M'/\Q d XU} (xg N ds) M) (len:∀ds M Q,sp ds M Q->ds.length=ps.length:=by walk_at "l"):Fq P w K mg base (k+1) fa sp:=WO F S len λ_ _ _ _ _ _ h=>hb h (Xr h)
def yh{X:Cx}(h:Iq X.env.scope X.N scope ix N'=pc:=by kernel_rfl):sF X scope ix N':=U8 h
end L3
namespace Z
section
open L2 L3
def xl{M:L3.Mp}{x:PySem.Addr}{ds:T0 L3.D}(h:M x=Db):∃M',M'=L3.pQ M x (.lst ds)/\qO M M'/\L3.oN M' x=Fa ds:=⟨_,Z',qO.new h,L3.pT⟩
def qT(i:Nat):TD:=PySem.Challenge.pw_callboard_k41_why_refused.main.body.getD i (.Pass ⟨0,0,0,0⟩)
abbrev tm(i j:Nat):TD:=Rf (qT i) j
def Cf:Sc 3 ["board","caller","target","wishes"] (qT 6):=sk
def tS:Sc 3 ["board","caller","target","free","members","place","in_turn"] (qT 7):=sk
def vj:Sc 3 ["board","caller","target","phones"] (qT 8):=sk
def AE:Sc 2 ["wanted","target"] (qT 9):=sk
def wQ:Sc 4 ["board","caller","target","way","come_to","steps","fits","wanted"] (qT 10):=sk
def yY:Sc 2 ["board","phone"] (qT 12):=sk
def wM:Sc 3 ["board","phone","target","word"] (qT 13):=sk
def NS:Sc 3 ["word","phone","calls"] (qT 14):=sk
def uj:Sc 4 ["board","word","phone","numbers","calls","due"] (qT 15):=sk
def zc:Sc 3 ["board","word","number"] (qT 16):=sk
def CA:Sc 2 ["board","deed","word"] (qT 17):=sk
def uq:Sc 3 ["board","number","steps","last","target","fits"] (qT 18):=sk
def uW:Sc 4 ["board","number","target","phones","members","place"] (qT 19):=sk
def xW:Sc 3 ["board","number","target","talk","members"] (qT 20):=sk
def xV:Sc 3 ["board","number","end","word"] (qT 21):=sk
def wH:Sc 2 ["board","number","call","told","end","steps","last"] (qT 22):=sk
def Ab:Sc 3 ["board","phone","target","number"] (qT 23):=sk
def CL:Sc 3 ["board","phone","number","call"] (qT 24):=sk
def yG:Sc 2 ["board","call","wishes"] (qT 25):=sk
def BS:Sc 3 ["board","number","fits","wish"] (qT 26):=sk
def uf:Sc 1 ["board","number","call","fits"] (qT 27):=sk
def tT:Sc 2 ["board","deed","word","phone","number","call","kept","others"] (qT 28):=sk
def MA:Sc 2 ["board","deed","word"] (qT 29):=sk
def IM:Sc 2 ["board","deed","word","begun"] (qT 30):=sk
def Af:Sc 1 ["answers"] (qT 32):=sk
def Hi:Sc 2 ["call","word"] (qT 34):=sk
def Dx:Sc 2 ["call","phone"] (qT 35):=sk
def xP:Sc 2 ["call","event","word"] (qT 36):=sk
def xE:Sc 1 ["call","lists"] (qT 38):=sk
def BR:Sc 1 ["board","calls"] (qT 39):=sk
def IA:Sc 3 ["board","caller","target"] (qT 41):=sk
def B6:Sc 1 ["told","word"] (qT 52):=sk
def Px:Sc 2 ["holds","words"] (qT 67):=sk
def HJ:Sc 1 ["text"] (qT 68):=sk
def DA:Sc 1 ["things"] (qT 69):=sk
def FU:Sc 3 ["chosen","known","most"] (qT 70):=sk
def uA:Sc 1 ["phones","name","lines","rank"] (qT 71):=sk
def uy:Sc 2 ["groups","phone_names","name","manner","members"] (qT 72):=sk
def DF:Sc 4 ["kind","part","phone_names","names"] (qT 73):=sk
def uo:Sc 3 ["wish","phone_names","names","form","parts","kind","part"] (qT 74):=sk
def vf:Sc 3 ["wishes","phone_names","names","on","wish"] (qT 75):=sk
def wz:Sc 3 ["phones","groups","wishes","phone_names","names"] (qT 76):=sk
def KH:Sc 2 ["_law_script","_law_k"] (qT 79):=sk
def Hq:Sc 3 ["_law_cell","_law_factor","_law_many"] (qT 80):=sk
def uD:Sc 2 ["_law_seed","_law_which","_law_letters","_law_size","_law_place","_law_rest","_law_letter"] (qT 81):=sk
def yd:Sc 3 ["_law_row","_law_cell","_law_most","_law_first","_law_size"] (qT 82):=sk
def uX:Sc 2 ["_law_seed","_law_most","_law_phones_here","_law_k","_law_lines"] (qT 83):=sk
def uY:Sc 2 ["_law_seed","_law_own","_law_groups_here","_law_g","_law_manner"] (qT 84):=sk
def tZ:Sc 3 ["_law_cell","_law_own","_law_names_here","_law_a","_law_place","_law_b","_law_c","_law_pick","_law_first"] (qT 85):=sk
def sP:Sc 2 ["_law_script","_law_most","_law_seed","_law_phones_here","_law_own","_law_groups_here","_law_names_here","_law_wishes","_law_k","_law_cell"] (qT 86):=sk
def DU:Sc 1 ["_law_call"] (qT 87):=sk
def Bx:Sc 2 ["_law_board","_law_states"] (qT 88):=sk
def rO:Sc 4 ["_law_board","_law_cell","_law_word_here","_law_states","_law_some_here","_law_k","_law_people_here","_law_a","_law_m"] (qT 89):=sk
def uV:Sc 4 ["_law_cell","_law_own","_law_names_here","_law_many","_law_a","_law_b","_law_k","_law_m","_law_some_here"] (qT 90):=sk
def rP:Sc 4 ["_law_board","_law_cell","_law_own","_law_names_here","_law_word_here","_law_states","_law_found","_law_a"] (qT 91):=sk
def we:Sc 2 ["_law_script","_law_most","_law_phones_here","_law_groups_here","_law_wishes"] (qT 92):=sk
def zw:Sc 1 ["_law_board","_law_own"] (qT 93):=sk
def x8:Sc 2 ["_law_board","_law_a","_law_call"] (qT 95):=sk
def vb:Sc 2 ["_law_board","_law_a","_law_many","_law_call","_law_inside"] (qT 96):=sk
def B7:Sc 3 ["_law_board","_law_k","_law_state"] (qT 97):=sk
def G0:Sc 3 ["_law_board","_law_a","_law_k"] (qT 98):=sk
def Hk:Sc 3 ["_law_board","_law_a","_law_k"] (qT 99):=sk
def va:Sc 3 ["_law_board","_law_a","_law_k","_law_rings","_law_waits","_law_word_here"] (qT 100):=sk
def AR:Sc 3 ["_law_board","_law_a","_law_k","_law_call"] (qT 101):=sk
def rF:Sc 2 ["_law_board","_law_deed_here","_law_word_here","_law_a","_law_k","_law_told","_law_good"] (qT 102):=sk
def IZ:Sc 4 ["_law_board","_law_deed_here","_law_own","_law_names_here"] (qT 103):=sk
def vG:Sc 2 ["_law_board","_law_deed_here","_law_caught","e"] (qT 104):=sk
def vp:Sc 4 ["_law_board","_law_deed_here","_law_own","_law_names_here","_law_before","_law_due_here","_law_told"] (qT 105):=sk
def y9:Sc 4 ["_law_board","_law_cell","_law_own","_law_names_here","_law_deed_here","_law_far"] (qT 106):=sk
def BV:Sc 1 ["_law_script","_law_board","_law_own","_law_names_here","_law_cell"] (qT 107):=sk
def CC:Sc 2 ["self","word"] (tm 3 0):=sk
def Dw:Sc 3 ["self","plan","hour"] (tm 37 0):=sk
def EN:Sc 4 ["self","phones","groups","wishes"] (tm 77 0):=sk
def yD:Sc 1 ["self"] (tm 77 2):=sk
def Am:Sc 2 ["self","phone"] (tm 37 3):=sk
def Hx:Sc 2 ["self","told"] (tm 43 0):=sk
def Gg:Sc 2 ["self","told"] (tm 44 0):=sk
def Bm:Sc 2 ["self","told"] (tm 45 0):=sk
def DL:Sc 2 ["self","told"] (tm 47 0):=sk
def CV:Sc 2 ["self","told"] (tm 49 0):=sk
def Fz:Sc 2 ["self","told"] (tm 50 0):=sk
def BX:Sc 2 ["self","told"] (tm 51 0):=sk
def DQ:Sc 1 ["self"] (tm 77 1):=sk
def Ay:Sc 2 ["self","phone"] (tm 37 2):=sk
def Ff:Sc 2 ["self","told"] (tm 42 0):=sk
def BY:Sc 2 ["self","phone"] (tm 37 4):=sk
def An:Sc 2 ["self","phone"] (tm 37 5):=sk
def DP:Sc 2 ["self","phone"] (tm 37 1):=sk
def DS:Sc 2 ["self","phone"] (tm 77 3):=sk
def xQ:Sc 2 ["self","event","word"] (tm 37 12):=sk
def FS:Sc 2 ["self","caller"] (tm 33 0):=sk
def zd:Sc 2 ["self","phone"] (tm 33 5):=sk
def yM:Sc 2 ["self","phone"] (tm 33 2):=sk
def xh:Sc 2 ["self","phone"] (tm 33 7):=sk
def Dm:Sc 2 ["self","phone"] (tm 33 6):=sk
def DV:Sc 2 ["self","phone"] (tm 33 3):=sk
def yE:Sc 2 ["self","phone"] (tm 33 4):=sk
def GF:Sc 2 ["self","phone"] (tm 33 1):=sk
def Ag:Sc 2 ["self","leg"] (tm 37 10):=sk
def yj:Sc 4 ["self","merged","kept","members","call"] (tm 37 11):=sk
def vA:Sc 1 ["self","call"] (tm 37 9):=sk
def y8:Sc 2 ["self","phone"] (tm 33 8):=sk
def B9:Sc 2 ["self","call"] (tm 42 4):=sk
def AC:Sc 2 ["self","call"] (tm 49 2):=sk
def F2:Sc 1 ["self"] (tm 42 1):=sk
def Gb:Sc 1 ["self"] (tm 43 1):=sk
def DM:Sc 1 ["self"] (tm 44 1):=sk
def Ai:Sc 1 ["self"] (tm 45 1):=sk
def DT:Sc 1 ["self"] (tm 50 1):=sk
def Bj:Sc 1 ["self"] (tm 51 1):=sk
def Hs:Sc 4 ["self","board","caller","target"] (tm 43 2):=sk
def Fe:Sc 4 ["self","board","caller","target"] (tm 44 2):=sk
def B5:Sc 4 ["self","board","caller","target"] (tm 46 0):=sk
def Do:Sc 4 ["self","board","caller","target"] (tm 47 2):=sk
def FQ:Sc 4 ["self","board","caller","target"] (tm 48 0):=sk
def CF:Sc 4 ["self","board","caller","target"] (tm 49 1):=sk
def FW:Sc 4 ["self","board","caller","target"] (tm 50 2):=sk
def vK:Sc 4 ["self","board","caller","target","talk","members"] (tm 51 3):=sk
def BW:Sc 2 ["self","name"] (tm 77 6):=sk
def zX:Sc 2 ["self","name"] (tm 77 5):=sk
def zx:Sc 2 ["self","hour"] (tm 47 1):=sk
def Ac:Sc 1 ["self"] (tm 37 8):=sk
def zq:Sc 2 ["self","phone"] (tm 37 6):=sk
def vE:Sc 3 ["self","plan","members","rank"] (tm 51 2):=sk
def zL:Sc 3 ["self","caller","target"] (tm 37 7):=sk
def E5:Sc 2 ["self","phone"] (tm 77 4):=sk
noncomputable def K9:T0 (Str×QQQ):=[("bar",["phone","names"]),("shut",["name","phones"]),("always",["name","name"]),("night",["name","name","hour","hour"]),("busy",["name","name"]),("silent",["name","name","turns"]),("wait",["phone"]),("breaks",["phone"])]
set_option genInjectivity false in
structure Ad where
 (aW aX aY aZ a0 ac a1 a2 a3 a4 ad a5 a6 a7 a8 ae a9 ba bb bc bd be bf L M af bg bh bi N O bj m ag ah P bk bl bm bn bo bp Q i ai R bq br bs bt bu bv bw aj bx bz bA S ak J bB al bC bD bE bF bG am bH an I ao ap T U aq ar C au av aw ax bI V H bJ bK bL bM k ay az X bN aA bO Y bP bQ bR bS aB q aC l aD aE B aF aG aH aI aJ aK aL aM aN aO aP Z bT bU bV bW aQ aR:FA)
 (e c E r t aa x n y u v o h b5 w b6 b7:Uf)
structure Gl(K:qC)(mg:QQZ)(a:Ad):Prop where
 e:CG K mg "Call" a.e
 c:CG K mg "Board" a.c
 E:CG K mg "Wish" a.E
 r:CG K mg "Bar" a.r
 t:CG K mg "Shut" a.t
 aa:CG K mg "Forward" a.aa
 x:CG K mg "Always" a.x
 n:CG K mg "Night" a.n
 y:CG K mg "Busy" a.y
 u:CG K mg "Silent" a.u
 v:CG K mg "Wait" a.v
 o:CG K mg "Breaks" a.o
 h:CG K mg "Plan" a.h
 cf:mg "CallError"=Fa (.ref a.b5)
 b8:mg "NoDeed"=Fa (.ref a.w)
 cg:mg "NoPlan"=Fa (.ref a.b6)
 ch:mg "NoSheet"=Fa (.ref a.b7)
 aW:TG K mg (qT 6) "fitting" ["board","caller","target"] a.aW
 aX:TG K mg (qT 7) "rung_phones" ["board","caller","target"] a.aX
 aY:TG K mg (qT 8) "end_without_wish" ["board","caller","target"] a.aY
 aZ:TG K mg (qT 9) "end_as_wanted" ["wanted","target"] a.aZ
 a0:TG K mg (qT 10) "route" ["board","caller","target","way"] a.a0
 ac:TG K mg (qT 12) "word_for_idling" ["board","phone"] a.ac
 a1:TG K mg (qT 13) "word_for_call" ["board","phone","target"] a.a1
 a2:TG K mg (qT 14) "suits" ["word","phone","calls"] a.a2
 a3:TG K mg (qT 15) "word_for_numbers" ["board","word","phone","numbers"] a.a3
 a4:TG K mg (qT 16) "word_for_switch" ["board","word","number"] a.a4
 ad:TG K mg (qT 17) "refusal" ["board","deed"] a.ad
 a5:TG K mg (qT 18) "take_steps" ["board","number","steps"] a.a5
 a6:TG K mg (qT 19) "start_ringing" ["board","number","target","phones"] a.a6
 a7:TG K mg (qT 20) "break_in" ["board","number","target"] a.a7
 a8:TG K mg (qT 21) "come_to_end" ["board","number","end"] a.a8
 ae:TG K mg (qT 22) "go_on" ["board","number"] a.ae
 a9:TG K mg (qT 23) "make_call" ["board","phone","target"] a.a9
 ba:TG K mg (qT 24) "hang_up" ["board","phone","number"] a.ba
 bb:TG K mg (qT 25) "due_wishes" ["board","call"] a.bb
 bc:TG K mg (qT 26) "send_on" ["board","number","fits"] a.bc
 bd:TG K mg (qT 27) "let_turn_pass" ["board"] a.bd
 be:TG K mg (qT 28) "event_of" ["board","deed"] a.be
 bf:TG K mg (qT 29) "act" ["board","deed"] a.bf
 L:TG K mg (qT 30) "do" ["board","deed"] a.L
 M:TG K mg (qT 32) "place_of_true" ["answers"] a.M
 af:TG K mg (qT 34) "end_call" ["call","word"] a.af
 bg:TG K mg (qT 35) "drop_phone" ["call","phone"] a.bg
 bh:TG K mg (qT 36) "change_call" ["call","event"] a.bh
 bi:TG K mg (qT 38) "call_picture" ["call"] a.bi
 N:TG K mg (qT 39) "picture" ["board"] a.N
 O:TG K mg (qT 41) "is_busy" ["board","caller","target"] a.O
 bj:TG K mg (qT 52) "wish_of" ["told"] a.bj
 m:TG K mg (qT 67) "need" ["holds","words"] a.m
 ag:TG K mg (qT 68) "is_name" ["text"] a.ag
 ah:TG K mg (qT 69) "all_unlike" ["things"] a.ah
 P:TG K mg (qT 70) "is_choice" ["chosen","known","most"] a.P
 bk:TG K mg (qT 71) "check_phones" ["phones"] a.bk
 bl:TG K mg (qT 72) "check_groups" ["groups","phone_names"] a.bl
 bm:TG K mg (qT 73) "part_holds" ["kind","part","phone_names","names"] a.bm
 bn:TG K mg (qT 74) "check_wish" ["wish","phone_names","names"] a.bn
 bo:TG K mg (qT 75) "check_wishes" ["wishes","phone_names","names"] a.bo
 bp:TG K mg (qT 76) "check_plan" ["phones","groups","wishes"] a.bp
 Q:TG K mg (qT 79) "_law_at" ["_law_script","_law_k"] a.Q
 i:TG K mg (qT 80) "_law_draw" ["_law_cell","_law_factor","_law_many"] a.i
 ai:TG K mg (qT 81) "_law_word" ["_law_seed","_law_which"] a.ai
 R:TG K mg (qT 82) "_law_some" ["_law_row","_law_cell","_law_most"] a.R
 bq:TG K mg (qT 83) "_law_phones" ["_law_seed","_law_most"] a.bq
 br:TG K mg (qT 84) "_law_groups" ["_law_seed","_law_own"] a.br
 bs:TG K mg (qT 85) "_law_wish" ["_law_cell","_law_own","_law_names_here"] a.bs
 bt:TG K mg (qT 86) "_law_plan" ["_law_script","_law_most"] a.bt
 bu:TG K mg (qT 87) "_law_people" ["_law_call"] a.bu
 bv:TG K mg (qT 88) "_law_of_state" ["_law_board","_law_states"] a.bv
 bw:TG K mg (qT 89) "_law_on_call" ["_law_board","_law_cell","_law_word_here","_law_states"] a.bw
 aj:TG K mg (qT 90) "_law_any" ["_law_cell","_law_own","_law_names_here","_law_many"] a.aj
 bx:TG K mg (qT 91) "_law_deed" ["_law_board","_law_cell","_law_own","_law_names_here"] a.bx
 bz:TG K mg (qT 92) "_law_made" ["_law_script","_law_most"] a.bz
 bA:TG K mg (qT 93) "_law_names" ["_law_board"] a.bA
 S:TG K mg (qT 95) "_law_idle" ["_law_board","_law_a"] a.S
 ak:TG K mg (qT 96) "_law_free" ["_law_board","_law_a"] a.ak
 J:TG K mg (qT 97) "_law_at_call" ["_law_board","_law_k","_law_state"] a.J
 bB:TG K mg (qT 98) "_law_held" ["_law_board","_law_a","_law_k"] a.bB
 al:TG K mg (qT 99) "_law_talk" ["_law_board","_law_a","_law_k"] a.al
 bC:TG K mg (qT 100) "_law_answer" ["_law_board","_law_a","_law_k"] a.bC
 bD:TG K mg (qT 101) "_law_hang" ["_law_board","_law_a","_law_k"] a.bD
 bE:TG K mg (qT 102) "_law_of_phone" ["_law_board","_law_deed_here"] a.bE
 bF:TG K mg (qT 103) "_law_due" ["_law_board","_law_deed_here","_law_own","_law_names_here"] a.bF
 bG:TG K mg (qT 104) "_law_refused" ["_law_board","_law_deed_here"] a.bG
 am:TG K mg (qT 105) "_law_asked" ["_law_board","_law_deed_here","_law_own","_law_names_here"] a.am
 bH:TG K mg (qT 106) "_law_odd" ["_law_board","_law_cell","_law_own","_law_names_here"] a.bH
 an:TG K mg (qT 107) "law" ["_law_script"] a.an
 I:MG K a.w (tm 3 0) "__init__" "NoDeed.__init__" ["self","word"] a.I
 ao:MG K a.c (tm 37 0) "__init__" "Board.__init__" ["self","plan","hour"] a.ao
 ap:MG K a.h (tm 77 0) "__init__" "Plan.__init__" ["self","phones","groups","wishes"] a.ap
 T:MG K a.h (tm 77 2) "phone_names" "Plan.phone_names" ["self"] a.T
 U:MG K a.c (tm 37 3) "talk_of" "Board.talk_of" ["self","phone"] a.U
 aq:MG K a.r (tm 43 0) "__init__" "Bar.__init__" ["self","told"] a.aq
 ar:MG K a.t (tm 44 0) "__init__" "Shut.__init__" ["self","told"] a.ar
 C:MG K a.aa (tm 45 0) "__init__" "Forward.__init__" ["self","told"] a.C
 au:MG K a.n (tm 47 0) "__init__" "Night.__init__" ["self","told"] a.au
 av:MG K a.u (tm 49 0) "__init__" "Silent.__init__" ["self","told"] a.av
 aw:MG K a.v (tm 50 0) "__init__" "Wait.__init__" ["self","told"] a.aw
 ax:MG K a.o (tm 51 0) "__init__" "Breaks.__init__" ["self","told"] a.ax
 bI:MG K a.h (tm 77 1) "names" "Plan.names" ["self"] a.bI
 V:MG K a.c (tm 37 2) "is_free" "Board.is_free" ["self","phone"] a.V
 H:MG K a.E (tm 42 0) "__init__" "Wish.__init__" ["self","told"] a.H
 bJ:MG K a.c (tm 37 4) "bound" "Board.bound" ["self","phone"] a.bJ
 bK:MG K a.c (tm 37 5) "calling" "Board.calling" ["self","phone"] a.bK
 bL:MG K a.c (tm 37 1) "used" "Board.used" ["self","phone"] a.bL
 bM:MG K a.h (tm 77 3) "lines" "Plan.lines" ["self","phone"] a.bM
 k:MG K a.c (tm 37 12) "apply" "Board.apply" ["self","event"] a.k
 ay:MG K a.e (tm 33 0) "__init__" "Call.__init__" ["self","caller"] a.ay
 az:MG K a.e (tm 33 5) "waits_with" "Call.waits_with" ["self","phone"] a.az
 X:MG K a.e (tm 33 2) "talks_with" "Call.talks_with" ["self","phone"] a.X
 bN:MG K a.e (tm 33 7) "can_be_left_by" "Call.can_be_left_by" ["self","phone"] a.bN
 aA:MG K a.e (tm 33 6) "pairs" "Call.pairs" ["self","phone"] a.aA
 bO:MG K a.e (tm 33 3) "binds" "Call.binds" ["self","phone"] a.bO
 Y:MG K a.e (tm 33 4) "is_tried_by" "Call.is_tried_by" ["self","phone"] a.Y
 bP:MG K a.e (tm 33 1) "has" "Call.has" ["self","phone"] a.bP
 bQ:MG K a.c (tm 37 10) "add_leg" "Board.add_leg" ["self","leg"] a.bQ
 bR:MG K a.c (tm 37 11) "merge" "Board.merge" ["self","merged","kept","members"] a.bR
 bS:MG K a.c (tm 37 9) "pass_turn" "Board.pass_turn" ["self"] a.bS
 aB:MG K a.e (tm 33 8) "other_than" "Call.other_than" ["self","phone"] a.aB
 q:MG K a.E (tm 42 4) "is_due" "Wish.is_due" ["self","call"] a.q
 aC:MG K a.u (tm 49 2) "is_due" "Silent.is_due" ["self","call"] a.aC
 l:MG K a.E (tm 42 1) "told" "Wish.told" ["self"] a.l
 aD:MG K a.r (tm 43 1) "wants" "Bar.wants" ["self"] a.aD
 aE:MG K a.t (tm 44 1) "wants" "Shut.wants" ["self"] a.aE
 B:MG K a.aa (tm 45 1) "wants" "Forward.wants" ["self"] a.B
 aF:MG K a.v (tm 50 1) "wants" "Wait.wants" ["self"] a.aF
 aG:MG K a.o (tm 51 1) "wants" "Breaks.wants" ["self"] a.aG
 aH:MG K a.r (tm 43 2) "fits" "Bar.fits" ["self","board","caller","target"] a.aH
 aI:MG K a.t (tm 44 2) "fits" "Shut.fits" ["self","board","caller","target"] a.aI
 aJ:MG K a.x (tm 46 0) "fits" "Always.fits" ["self","board","caller","target"] a.aJ
 aK:MG K a.n (tm 47 2) "fits" "Night.fits" ["self","board","caller","target"] a.aK
 aL:MG K a.y (tm 48 0) "fits" "Busy.fits" ["self","board","caller","target"] a.aL
 aM:MG K a.u (tm 49 1) "fits" "Silent.fits" ["self","board","caller","target"] a.aM
 aN:MG K a.v (tm 50 2) "fits" "Wait.fits" ["self","board","caller","target"] a.aN
 aO:MG K a.o (tm 51 3) "fits" "Breaks.fits" ["self","board","caller","target"] a.aO
 aP:MG K a.h (tm 77 6) "manner" "Plan.manner" ["self","name"] a.aP
 Z:MG K a.h (tm 77 5) "phones_of" "Plan.phones_of" ["self","name"] a.Z
 bT:MG K a.n (tm 47 1) "has_hour" "Night.has_hour" ["self","hour"] a.bT
 bU:MG K a.c (tm 37 8) "hour_now" "Board.hour_now" ["self"] a.bU
 bV:MG K a.c (tm 37 6) "waits_at" "Board.waits_at" ["self","phone"] a.bV
 bW:MG K a.o (tm 51 2) "outranks" "Breaks.outranks" ["self","plan","members"] a.bW
 aQ:MG K a.c (tm 37 7) "ringable" "Board.ringable" ["self","caller","target"] a.aQ
 aR:MG K a.h (tm 77 4) "rank" "Plan.rank" ["self","phone"] a.aR
 ci:J5 K a.w a.I.f
 cj:yS K a.w "word"
 b9:Q9 K a.w "word"
 ck:W.exmOne K (.ref a.w) (.ref a.b5)=Fa pc
 cl:Mk K a.c a.ao.f
 cm:Mk K a.h a.ap.f
 cn:Mk K a.r a.aq.f
 co:Mk K a.t a.ar.f
 cp:Mk K a.x a.C.f
 cq:Mk K a.n a.au.f
 cr:Mk K a.y a.C.f
 cs:Mk K a.u a.av.f
 ct:Mk K a.v a.aw.f
 cu:Mk K a.o a.ax.f
 cv:Mk K a.e a.ay.f
 cw:vP K a.r "is_due" a.q.f
 cx:vP K a.t "is_due" a.q.f
 cy:vP K a.x "is_due" a.q.f
 cz:vP K a.n "is_due" a.q.f
 cA:vP K a.y "is_due" a.q.f
 cB:vP K a.v "is_due" a.q.f
 cC:vP K a.o "is_due" a.q.f
 cD:vP K a.r "told" a.l.f
 cE:vP K a.t "told" a.l.f
 cF:vP K a.x "told" a.l.f
 cG:vP K a.n "told" a.l.f
 cH:vP K a.y "told" a.l.f
 cI:vP K a.u "told" a.l.f
 cJ:vP K a.v "told" a.l.f
 cK:vP K a.o "told" a.l.f
 cL:vP K a.x "wants" a.B.f
 cM:vP K a.n "wants" a.B.f
 cN:vP K a.y "wants" a.B.f
 cO:vP K a.u "wants" a.B.f
 aS:Np K a.E "__init__" a.H.f
 ca:Np K a.aa "__init__" a.C.f
 F:zY K a.c ["plan","hour","turn","calls","legs","nexts","on","log"]
 ab:zY K a.h ["phones","groups","wishes","on","phone_rows","group_rows"]
 bZ:zY K a.r ["form","phone","targets"]
 b0:zY K a.t ["form","target","callers"]
 b1:zY K a.x ["form","target","goal"]
 aT:zY K a.n ["form","target","goal","first","last"]
 b2:zY K a.y ["form","target","goal"]
 bX:zY K a.u ["form","target","goal","turns"]
 cb:zY K a.v ["form","phone"]
 cc:zY K a.o ["form","phone"]
 j:zY K a.e ["state","caller","way","at","members","holder","since","word"]
 cP:W.kitOne K (.type "str") (.type "str")=Fa pc
 cQ:W.kitOne K (.ref a.w) (.ref a.w)=Fa pc
 cR:W.kitOne K (.ref a.w) (.type "ValueError")=Fa pc
 cS:W.kitOne K (.ref a.w) (.ref a.b6)=Fa lf
 cT:W.kitOne K (.ref a.w) (.ref a.b7)=Fa lf
 cU:mg "ValueError"=Db
 z:mg "list"=Db
 aU:mg "isinstance"=Db
 cV:mg "str"=Db
 cW:mg "max"=Db
 g:mg "len"=Db
 aV:mg "range"=Db
 b3:mg "dict"=Db
 A:mg "tuple"=Db
 cX:mg "sorted"=Db
 bY:mg "all"=Db
 cY:mg "min"=Db
 cZ:mg "set"=Db
 c0:mg "zip"=Db
 b4:mg "enumerate"=Db
 c1:mg "any"=Db
 c2:KD K mg "MOST_PHONES" (.int 8)
 c3:KD K mg "MOST_LINES" (.int 3)
 c4:KD K mg "MOST_RANK" (.int 9)
 c5:KD K mg "MOST_GROUPS" (.int 3)
 c6:KD K mg "MANNERS" (.tup ((["all","turns"]:QQQ).map D.str))
 c7:KD K mg "MOST_MEMBERS" (.int 4)
 c8:KD K mg "MOST_WISHES" (.int 16)
 c9:KD K mg "MOST_SIGNS" (.int 6)
 da:KD K mg "LETTERS" (.str "abcdefghijklmnopqrstuvwxyz")
 cd:Lr K mg "FORMS" K9
 ce:KD K mg "MOST_LISTED" (.int 6)
 db:KD K mg "LAST_HOUR" (.int 23)
 dc:KD K mg "MOST_TURNS" (.int 9)
noncomputable def draw(c f m:Int):Int:=(c % 2147483647+5)*f % 2147483629 / 89 % m
def rj{c f m:Int}(h:0<m):0<=draw c f m:=fi _ (by lia)
def qU{c f m:Int}(h:0<m):draw c f m<m:=eY _ h
def Jf:rB:=λds M Q=>Di λc f m=>ds=[.int c,.int f,.int m]/\0<m/\Q (.int (draw c f m)) M
noncomputable def uH:Str:="abcdefghijklmnopqrstuvwxyz"
noncomputable def uB(i:Int):Str:=⟨#[97+i.toNat]⟩
noncomputable def size(s:Int):Int:=1+s % 6
def uJ(s:Int):Int:=s / 6 % size s
def xM(s v:Int):Str:=yV (uB (s / 36 % 26)) (uJ s)++uB ((s / 936+v) % 26)++yV (uB (s / 36 % 26)) (size s - 1 - uJ s)
def PB:rB:=λds M Q=>z9 λs v=>ds=[.int s,.int v]/\Q (.str (xM s v)) M
noncomputable def cell(ns:T0 Int)(i:Int):Int:=if 0<=i/\i<ns.length then ns.getD i.toNat 0 else 0
def VD:rB:=λds M Q=>z9 λns i=>ds=[.rl (ns.map D.int),.int i]/\Q (.int (cell ns i)) M
def G8(c:Int):0<size c:=by unfold size;have:=fi c (show(6:Int)≠0 by decide);lia
def J3(c:Int):size c<=6:=by unfold size;have:=eY c (show(0:Int)<6 by decide);lia
def Gr(i n:Int):(yV (uB i) n).length=n.toNat:=by show((List.replicate n.toNat (uB i).cps).foldl (·++·) #[]:Array Nat).size=n.toNat;rw[JU];show n.toNat*1=n.toNat;lia
def A0:uH.length<=Ch:=by decide+kernel
variable {P:Pg}{w:Wo}{K:qC}{mg:QQZ}{base:No}{a:Ad}(G:Gl K mg a)
def qR:Fq P w K mg base 1 a.i Jf:=by
 refine fq G.i.toDG Hq (λr u=>⟨_,(pG (pL (qe (qe (qe (qe (qe (qe v0 pI) pI) U1) pI) pI) U2))),?_⟩)
 rintro ds M Q ⟨c,f,m,rfl,hm,q⟩
 refine⟨by decide,.inl ?_,by decide,⟨by decide,by decide⟩,hm,M,.refl,q⟩;have h1:0<=c % 2147483647:=fi _ (by decide);have h2:c % 2147483647<2147483647:=eY _ (by decide);exact⟨by lia,by lia⟩
def Eu{i:Int}(h0:0<=i)(h1:i<26):wO uH.cps.toList i=Fa (97+i.toNat):=by
 obtain⟨n,rfl⟩:=eI h0;have hn:n<26:=by lia
 have key:∀n:_root_.Fin 26,wO uH.cps.toList ((n.val:Nat):Int)=Fa (97+n.val):=by decide+kernel
 exact key ⟨n,hn⟩
def JI:Fq P w K mg base 1 a.ai PB:=by
 refine fq G.ai.toDG uD (λr u=>⟨_,(pF (pU 2 uD pJ)
 (pF (pU 3 uD (qe pI (qe v0 pI)))
 (pF (pU 4 uD (qe (qe v0 pI) U3))
 (pF (pU 5 uD (pS U2 (qe (qe v0 pI) pI)))
 (pF (pU 6 uD (pS U2 (qe (qe (qe v0 pI) U1) pI)))
 (pG (pL (qe (qe (qe v5 v4) v6) (qe v5 (qe (qe U3 pI) v4)))))))))),?_⟩)
 rintro ds M Q ⟨c,v,rfl,q⟩
 have hs:=G8 c;have hs6:=J3 c;have hp0:0<=uJ c:=fi _ (by lia);have Y8:uJ c<size c:=eY _ hs;have l1:=Gr (c / 36 % 26) (uJ c);have l2:=Gr (c / 36 % 26) (size c - 1 - uJ c);have hz:=dR;refine⟨by decide,⟨by decide,by decide⟩,hs,⟨by decide,by decide⟩,by decide,A0,i' (Eu (fi _ (by decide)) (eY _ (by decide))) ?_⟩;refine⟨⟨by decide,by decide⟩,by decide,A0,i' (Eu (fi _ (by decide)) (eY _ (by decide))) ?_⟩;refine⟨⟨?_,?_,?_⟩,?_,⟨?_,?_,?_⟩,?_,M,.refl,q⟩
 .show uJ c<4096;lia
 .show -4096<uJ c;lia
 .show(1:Nat)<4096;decide
 .show(yV (uB (c / 36 % 26)) (uJ c)).length+1<=Ch;lia
 .show size c - 1 - uJ c<4096;lia
 .show -4096<size c - 1 - uJ c;lia
 .show(1:Nat)<4096;decide
 .show(yV (uB (c / 36 % 26)) (uJ c)++uB ((c / 936+v) % 26)).length+(yV (uB (c / 36 % 26)) (size c - 1 - uJ c)).length<=Ch;rw[PySem.size_cat];have:(uB ((c / 936+v) % 26)).length=1:=rfl;lia
def ME:Fq P w K mg base 1 a.Q VD:=by
 refine fq G.Q.toDG KH (λr u=>⟨_,(pF (pV (zT u pI U1 (qa qD Z' G.g qB (qz v0)))
 (pG (pL (pS v0 U1)))
 pO)
 (pG (pL pI))),?_⟩)
 rintro ds M Q ⟨ns,i,rfl,q⟩
 refine qv (λh0=>?_) (λh0=>?_)
 .have h0:0<=i:=fU h0;refine qv (λh1=>?_) (λh1=>?_)
  .have h1:i<((ns.map D.int).length:Int):=fU h1;rw[de]at h1;have hi:i.toNat<ns.length:=by lia
   have e:wO (ns.map D.int) i=Fa (D.int (ns.getD i.toNat 0)):=by
    obtain⟨n,rfl⟩:=eI h0;have hn:n<ns.length:=by lia
    refine u9 ?_;rw[dM,dg hn];simp[hn]
   refine i' e ⟨M,.refl,?_⟩;have:cell ns i=ns.getD i.toNat 0:=by unfold cell;rw[dw ⟨h0,h1⟩]
   rw[<-this];exact q
  .have h1:¬i<((ns.map D.int).length:Int):=λz=>h1 (eA z);rw[de]at h1;refine⟨M,.refl,?_⟩;have:cell ns i=0:=by unfold cell;rw[dh (λz=>h1 z.2)]
   rw[<-this];exact q
 .have h0:¬0<=i:=λz=>h0 (eA z);refine⟨M,.refl,?_⟩;have:cell ns i=0:=by unfold cell;rw[dh (λz=>h0 z.1)]
  rw[<-this];exact q
inductive Wi where
 | bar (x:Str) (ns:QQQ)|shut (x:Str) (ns:QQQ)|always (x y:Str)|night (x y:Str) (f l:Int)|busy (x y:Str)|silent (x y:Str) (n:Int)|wait (x:Str)|breaks (x:Str)
abbrev names(ns:QQQ):D:=.tup (ns.map D.str)
noncomputable def Wi.told:Wi->T0 D
 | .bar x ns=>[.str "bar",.str x,names ns]
 | .shut x ns=>[.str "shut",.str x,names ns]
 | .always x y=>[.str "always",.str x,.str y]
 | .night x y f l=>[.str "night",.str x,.str y,.int f,.int l]
 | .busy x y=>[.str "busy",.str x,.str y]
 | .silent x y n=>[.str "silent",.str x,.str y,.int n]
 | .wait x=>[.str "wait",.str x]
 | .breaks x=>[.str "breaks",.str x]
noncomputable def Wi.cls(a:Ad):Wi->Uf
 | .bar _ _=>a.r
 | .shut _ _=>a.t
 | .always _ _=>a.x
 | .night _ _ _ _=>a.n
 | .busy _ _=>a.y
 | .silent _ _ _=>a.u
 | .wait _=>a.v
 | .breaks _=>a.o
noncomputable def Wi.more:Wi->T0 (Str×D)
 | .bar x ns=>[("phone",.str x),("targets",names ns)]
 | .shut x ns=>[("target",.str x),("callers",names ns)]
 | .always x y=>[("target",.str x),("goal",.str y)]
 | .night x y f l=>[("target",.str x),("goal",.str y),("first",.int f),("last",.int l)]
 | .busy x y=>[("target",.str x),("goal",.str y)]
 | .silent x y n=>[("target",.str x),("goal",.str y),("turns",.int n)]
 | .wait x=>[("phone",.str x)]
 | .breaks x=>[("phone",.str x)]
noncomputable def Wi.nS(v:Wi):T0 (Str×D):=("form",.tup v.told)::v.more
abbrev CD(ns:QQQ)(i:Int):Str:=ns.getD i.toNat Str.empty
def xF(row:QQQ)(c m:Int):Nat:=(1+draw c 40692 (if (row.length:Int)<m then(row.length:Int)else m)).toNat
def VM(row:QQQ)(c:Int)(j:Nat):Str:=CD row ((draw c 69621 row.length+(0+(j:Nat))) % row.length)
def wg(row:QQQ)(c m:Int):QQQ:=(List.range (xF row c m)).map (VM row c)
def QI:rB:=λds M Q=>Au λr c m row=>ds=[.ref r,.int c,.int m]/\oN M r=Fa (row.map D.str)/\row≠[]/\0<m/\row.length<=64/\Q (names (wg row c m)) M
def JD{row:QQQ}(h:row≠[])(x:Int):wO (row.map D.str) (x % row.length)=Fa (D.str (CD row (x % row.length))):=by
 have hl:0<row.length:=fG.mpr h;have h0:0<=x % row.length:=fi _ (by lia);have h1:x % row.length<row.length:=eY _ (by lia);obtain⟨n,hn⟩:=eI h0;rw[hn]at h1 ⊢;have Zo:n<row.length:=by lia
 refine u9 ?_;rw[dM,dg Zo];simp[CD,Zo]
def yC:Fq P w K mg base 2 a.R QI:=by
 refine fq G.R.toDG yd (λr u=>⟨_,(pF (pU 3 yd (pP (qR G) r G.i (rc U1 pI (qa qD Z' G.g qB (qz v0)))))
 (pF (pU 4 yd (qe pI (pP (qR G) r G.i (rc U1 pI (qa (T9 Z') Z' G.cY Ti (rQ U2 (qa qD Z' G.g qB (qz v0))))))))
 (pG (pL (qp sO Z' G.A sI (qz (qP Z' (yh (ix:=[Db,Fa 0,Fa 3]) (N':=["_law_j","_law_row","_law_first"])) (wN Z' G.aV (qz v4)) (qM 0) se (pS U1 (qe (qe U2 v0) (qa qD Z' G.g qB (qz U1))))))))))),?_⟩)
 rintro ds M Q ⟨r,c,m,row,rfl,hl,Yc,hm,h64,q⟩
 have XY:0<row.length:=fG.mpr Yc;have hz:=dR;have el:((row.map D.str).length:Int)=row.length:=by rw[de]
 refine i' hl ⟨c,69621,_,Z',by rw[el];lia,?_⟩;refine i' hl ⟨c,40692,_,Z',by rw[el];split<;>lia,?_⟩;rw[el];have d0:=rj (c:=c) (f:=40692) (m:=if (row.length:Int)<m then(row.length:Int)else m) (by split<;>lia);have d1:=qU (c:=c) (f:=40692) (m:=if (row.length:Int)<m then(row.length:Int)else m) (by split<;>lia);have d2:draw c 40692 (if (row.length:Int)<m then(row.length:Int)else m)<row.length+1:=by refine Int.lt_of_lt_of_le d1 ?_;split<;>lia
 refine⟨Z',⟨?_,?_⟩,rA (f:=λd=>match d with|.int j=>D.str (CD row ((draw c 69621 row.length+j) % row.length))|_=>.mY) trivial _ [] _ ?_ (λd hd k hk=>?_) λp hp=>?_⟩
 .show -(2 ^ 62)<=1+draw c 40692 (if (row.length:Int)<m then(row.length:Int)else m);lia
 .show 1+draw c 40692 (if (row.length:Int)<m then(row.length:Int)else m)<2 ^ 62;lia
 .rw[de,eM];show 0+xF row c m<=Ch;unfold xF;lia
 .obtain⟨j,_,rfl⟩:=dJ.mp hd;refine i' hl ⟨by rw[el];lia,i' hl ?_⟩;rw[el];exact i' (JD Yc _) hk
 .refine i' (x:=(wg row c m).map D.str) ?_ ⟨M,.new hp,q⟩;unfold oN;rw[pZ];show Fa ([]++((List.range (xF row c m)).map λi=>D.int (0+(i:Nat))).map _)=_;rw[eB,eG];unfold wg;rw[eG];rfl
def wG(c:Int)(own all:QQQ):Wi:=
 let x:=CD own (draw c 16807 own.length);let pl:=draw c 39373 all.length;let y:=CD all pl;let z:=CD all ((pl+1+draw c 742938285 ((all.length:Int) - 1)) % all.length);let k:=draw c 1226874159 12
 if k=0 then .bar x (wg all c 3)
 else if k=1 then .shut y (wg own c 3)
 else if k=2 then .always y z
 else if k<5 then .night y z (draw c 22695477 24) ((draw c 22695477 24+1+draw c 48271 23) % 24)
 else if k<7 then .busy y z
 else if k<9 then .silent y z ([1,1,2,3,9].getD (draw c 950706376 5).toNat 0)
 else if k=9 then .wait x
 else .breaks x
def PX:rB:=λds M Q=>FV λc o n own all=>ds=[.int c,.ref o,.ref n]/\oN M o=Fa (own.map D.str)/\oN M n=Fa (all.map D.str)/\own≠[]/\2<=all.length/\own.length<=64/\all.length<=64/\Q (.tup (wG c own all).told) M
def IR{row:QQQ}{x:Int}(h0:0<=x)(h1:x<row.length):wO (row.map D.str) x=Fa (D.str (CD row x)):=by
 obtain⟨n,rfl⟩:=eI h0;have Zo:n<row.length:=by lia
 refine u9 ?_;rw[dM,dg Zo];simp[CD,Zo]
def Pf:Fq P w K mg base 3 a.bs PX:=by
 refine fq G.bs.toDG tZ (λr u=>⟨_,(pF (pU 3 tZ (pS U1 (pP (qR G) r G.i (rc v0 pI (qa qD Z' G.g qB (qz U1))))))
 (pF (pU 4 tZ (pP (qR G) r G.i (rc v0 pI (qa qD Z' G.g qB (qz U2)))))
 (pF (pU 5 tZ (pS U2 v4))
 (pF (pU 6 tZ (pS U2 (qe (qe (qe v4 pI) (pP (qR G) r G.i (rc v0 pI (qe (qa qD Z' G.g qB (qz U2)) pI)))) (qa qD Z' G.g qB (qz U2)))))
 (pF (pU 7 tZ (pP (qR G) r G.i (rc v0 pI pI)))
 (pF (pV (pN u v7 pI)
 (pG (pL (pW (rc pJ U3 (pP (yC G) r G.R (rc U2 v0 pI))))))
 pO)
 (pF (pV (pN u v7 pI)
 (pG (pL (pW (rc pJ v5 (pP (yC G) r G.R (rc U1 v0 pI))))))
 pO)
 (pF (pV (pN u v7 pI)
 (pG (pL (pW (rc pJ v5 v6))))
 pO)
 (pF (pV (pN u v7 pI)
 (pF (pU 8 tZ (pP (qR G) r G.i (rc v0 pI pI)))
 (pG (pL (pW (qg pJ (qg v5 (rc v6 v8 (qe (qe (qe v8 pI) (pP (qR G) r G.i (rc v0 pI pI))) pI))))))))
 pO)
 (pF (pV (pN u v7 pI)
 (pG (pL (pW (rc pJ v5 v6))))
 pO)
 (pF (pV (pN u v7 pI)
 (pG (pL (pW (qg pJ (rc v5 v6 (pS (pW (qg pI (qg pI (rc pI pI pI)))) (pP (qR G) r G.i (rc v0 pI pI))))))))
 pO)
 (pF (pV (pN u v7 pI)
 (pG (pL (pW (rQ pJ U3))))
 pO)
 (pG (pL (pW (rQ pJ U3)))))))))))))))),?_⟩)
 rintro ds M Q ⟨c,o,n,own,all,rfl,ho,hn,Yc,h2,l1,l2,q⟩
 have XY:0<own.length:=fG.mpr Yc;have hne2:all≠[]:=λz=>by rw[z]at h2;simp at h2
 have e1:((own.map D.str).length:Int)=own.length:=by rw[de]
 have e2:((all.map D.str).length:Int)=all.length:=by rw[de]
 have p1:(0:Int)<own.length:=by lia
 have p2:(0:Int)<all.length:=by lia
 have p3:(0:Int)<(all.length:Int) - 1:=by lia
 refine i' ho ⟨c,_,_,Z',by rw[e1];exact p1,?_⟩;rw[e1];refine i' ho (i' (IR (rj p1) (qU p1)) ?_);refine i' hn ⟨c,_,_,Z',by rw[e2];exact p2,?_⟩;rw[e2];refine i' hn (i' (IR (rj p2) (qU p2)) ?_);refine i' hn ⟨c,_,_,Z',by rw[e2];exact p3,?_⟩;rw[e2];refine i' hn ⟨by rw[e2];exact p2,?_⟩;rw[e2];refine i' hn (i' (JD hne2 _) ?_);refine⟨c,_,_,Z',by decide,?_⟩;have XX:∀t:T0 D,(wG c own all).told=t->∃XU,qO XU M/\Q (.tup t) XU:=λt e=>⟨M,.refl,e ▸ q⟩;have k0:0<=draw c 1226874159 12:=rj (by decide);refine qv (λh=>?_) (λh=>?_)
 .have h:draw c 1226874159 12=0:=by simpa using h
  refine⟨n,c,3,all,Z',hn,hne2,by decide,l2,pD Z',XX _ ?_⟩;simp only[wG,dw h,Wi.told]
 have h:¬draw c 1226874159 12=0:=by simpa using h
 refine qv (λg=>?_) (λg=>?_)
 .have g:draw c 1226874159 12=1:=by simpa using g
  refine⟨o,c,3,own,Z',ho,Yc,by decide,l1,pD Z',XX _ ?_⟩;simp only[wG,dh h,dw g,Wi.told]
 have g:¬draw c 1226874159 12=1:=by simpa using g
 refine qv (λi=>?_) (λi=>?_)
 .have i:draw c 1226874159 12=2:=by simpa using i
  refine⟨pD Z',XX _ ?_⟩;simp only[wG,dh h,dh g,dw i,Wi.told]
 have i:¬draw c 1226874159 12=2:=by simpa using i
 refine qv (λj=>?_) (λj=>?_)
 .have j:draw c 1226874159 12<5:=fU j;refine⟨c,_,_,Z',by decide,c,_,_,Z',by decide,by decide,pD Z',XX _ ?_⟩;simp only[wG,dh h,dh g,dh i,dw j,Wi.told]
 have j:¬draw c 1226874159 12<5:=λz=>j (eA z);refine qv (λl=>?_) (λl=>?_)
 .have l:draw c 1226874159 12<7:=fU l;refine⟨pD Z',XX _ ?_⟩;simp only[wG,dh h,dh g,dh i,dh j,dw l,Wi.told]
 have l:¬draw c 1226874159 12<7:=λz=>l (eA z);refine qv (λm=>?_) (λm=>?_)
 .have m:draw c 1226874159 12<9:=fU m;have d0:0<=draw c 950706376 5:=rj (by decide);have d1:draw c 950706376 5<5:=qU (by decide);have e:wO [D.int 1,.int 1,.int 2,.int 3,.int 9] (draw c 950706376 5)=Fa (D.int ([1,1,2,3,9].getD (draw c 950706376 5).toNat 0)):=by
   obtain⟨t,ht⟩:=eI d0;rw[ht]at d1 ⊢;have:t<5:=by lia
   match t,this with
   | 0,_=>rfl
   | 1,_=>rfl
   | 2,_=>rfl
   | 3,_=>rfl
   | 4,_=>rfl
  refine⟨pD Z',c,_,_,Z',by decide,i' e ⟨pD Z',XX _ ?_⟩⟩;simp only[wG,dh h,dh g,dh i,dh j,dh l,dw m,Wi.told]
 have m:¬draw c 1226874159 12<9:=λz=>m (eA z);refine qv (λr=>?_) (λr=>?_)
 .have r:draw c 1226874159 12=9:=by simpa using r
  refine⟨pD Z',XX _ ?_⟩;simp only[wG,dh h,dh g,dh i,dh j,dh l,dh m,dw r,Wi.told]
 have r:¬draw c 1226874159 12=9:=by simpa using r
 refine⟨pD Z',XX _ ?_⟩;simp only[wG,dh h,dh g,dh i,dh j,dh l,dh m,dh r,Wi.told]
def Nh(K:qC):rB:=λds M Q=>Di λp d C=>ds=[.ref p,d]/\M p=Fa (.ins C [])/\uC K C "form"/\Q .mY (pQ M p (.ins C [("form",d)]))
def NF(K:qC):rB:=λds M Q=>FV λp t x y C=>ds=[.ref p,.tup t]/\wO t 1=Fa x/\wO t 2=Fa y/\M p=Fa (.ins C [])/\uC K C "form"/\uC K C "target"/\uC K C "goal"/\Q .mY (pQ M p (.ins C [("form",.tup t),("target",x),("goal",y)]))
def yq(a:Ad)(k:Wi->Prop):rB:=λds M Q=>z9 λp v=>ds=[.ref p,.tup (Wi.told v)]/\k v/\M p=Fa (.ins (v.cls a) [])/\Q .mY (pQ M p (.ins (v.cls a) v.nS))
def xX:Fq P w K mg base 1 a.H (Nh K):=by
 refine fq G.H.toDG Ff (λr u=>⟨_,(pG (qr v0 U1)),?_⟩)
 rintro ds M Q ⟨p,d,C,rfl,hp,na,q⟩
 exact pH hp ⟨na,by decide,_,.refl,q⟩
def zV:Fq P w K mg base 2 a.C (NF K):=by
 refine fq G.C.toDG Bm (λr u=>⟨_,(pF (pY (zi G.aS (xX G) r G.E G.H.toDG (rQ v0 U1)))
 (pF (qr v0 (pS U1 pI))
 (pG (qr v0 (pS U1 pI))))),?_⟩)
 rintro ds M Q ⟨p,t,x,y,C,rfl,e1,e2,hp,n1,n2,n3,q⟩
 refine⟨p,_,C,Z',hp,n1,i' e1 (pH pZ ⟨n2,by show 1<1000;decide,?_⟩)⟩;refine i' e2 (pH pZ ⟨n3,by show 2<1000;decide,_,?_,q⟩);rw[rY,rY];exact .refl
def R7:Fq P w K mg base 2 a.aq (yq a λv=>∃x ns,v=.bar x ns):=by
 refine fq G.aq.toDG Hx (λr u=>⟨_,(pF (pY (zi G.aS (xX G) r G.E G.H.toDG (rQ v0 U1)))
 (pF (qr v0 (pS U1 pI))
 (pG (qr v0 (pS U1 pI))))),?_⟩)
 rintro ds M Q ⟨p,v,rfl,⟨x,ns,rfl⟩,hp,q⟩
 refine⟨p,_,_,Z',hp,(G.bZ "form" Z'),pH pZ ⟨(G.bZ "phone" Z'),by show 1<1000;decide,?_⟩⟩;refine pH pZ ⟨(G.bZ "targets" Z'),by show 2<1000;decide,_,?_,q⟩;rw[rY,rY];exact .refl
def Pw:Fq P w K mg base 2 a.ar (yq a λv=>∃x ns,v=.shut x ns):=by
 refine fq G.ar.toDG Gg (λr u=>⟨_,(pF (pY (zi G.aS (xX G) r G.E G.H.toDG (rQ v0 U1)))
 (pF (qr v0 (pS U1 pI))
 (pG (qr v0 (pS U1 pI))))),?_⟩)
 rintro ds M Q ⟨p,v,rfl,⟨x,ns,rfl⟩,hp,q⟩
 refine⟨p,_,_,Z',hp,(G.b0 "form" Z'),pH pZ ⟨(G.b0 "target" Z'),by show 1<1000;decide,?_⟩⟩;refine pH pZ ⟨(G.b0 "callers" Z'),by show 2<1000;decide,_,?_,q⟩;rw[rY,rY];exact .refl
def NH:Fq P w K mg base 3 a.au (yq a λv=>∃x y f l,v=.night x y f l):=by
 refine fq G.au.toDG DL (λr u=>⟨_,(pF (pY (zi G.ca (zV G) r G.aa G.C.toDG (rQ v0 U1)))
 (pF (qr v0 (pS U1 pI))
 (pG (qr v0 (pS U1 pI))))),?_⟩)
 rintro ds M Q ⟨p,v,rfl,⟨x,y,f,l,rfl⟩,hp,q⟩
 refine⟨p,_,_,_,_,Z',Z',Z',hp,(G.aT "form" Z'),(G.aT "target" Z'),(G.aT "goal" Z'),pH pZ ⟨(G.aT "first" Z'),by show 3<1000;decide,?_⟩⟩;refine pH pZ ⟨(G.aT "last" Z'),by show 4<1000;decide,_,?_,q⟩;rw[rY,rY];exact .refl
def K5:Fq P w K mg base 3 a.av (yq a λv=>∃x y n,v=.silent x y n):=by
 refine fq G.av.toDG CV (λr u=>⟨_,(pF (pY (zi G.ca (zV G) r G.aa G.C.toDG (rQ v0 U1)))
 (pG (qr v0 (pS U1 pI)))),?_⟩)
 rintro ds M Q ⟨p,v,rfl,⟨x,y,n,rfl⟩,hp,q⟩
 refine⟨p,_,_,_,_,Z',Z',Z',hp,(G.bX "form" Z'),(G.bX "target" Z'),(G.bX "goal" Z'),pH pZ ⟨(G.bX "turns" Z'),by show 3<1000;decide,_,?_,q⟩⟩;rw[rY];exact .refl
def Qy:Fq P w K mg base 2 a.aw (yq a λv=>∃x,v=.wait x):=by
 refine fq G.aw.toDG Fz (λr u=>⟨_,(pF (pY (zi G.aS (xX G) r G.E G.H.toDG (rQ v0 U1)))
 (pG (qr v0 (pS U1 pI)))),?_⟩)
 rintro ds M Q ⟨p,v,rfl,⟨x,rfl⟩,hp,q⟩
 refine⟨p,_,_,Z',hp,(G.cb "form" Z'),pH pZ ⟨(G.cb "phone" Z'),by show 1<1000;decide,_,?_,q⟩⟩;rw[rY];exact .refl
def KO:Fq P w K mg base 2 a.ax (yq a λv=>∃x,v=.breaks x):=by
 refine fq G.ax.toDG BX (λr u=>⟨_,(pF (pY (zi G.aS (xX G) r G.E G.H.toDG (rQ v0 U1)))
 (pG (qr v0 (pS U1 pI)))),?_⟩)
 rintro ds M Q ⟨p,v,rfl,⟨x,rfl⟩,hp,q⟩
 refine⟨p,_,_,Z',hp,(G.cc "form" Z'),pH pZ ⟨(G.cc "phone" Z'),by show 1<1000;decide,_,?_,q⟩⟩;rw[rY];exact .refl
def IF(a:Ad):rB:=λds M Q=>∃v:Wi,ds=[.tup v.told]/\∀p,M p=Db->Q (.ref p) (pQ M p (.ins (v.cls a) v.nS))
def JZ(a:Ad):rB:=λds M Q=>z9 λp (v:Wi)=>ds=[.ref p]/\M p=Fa (.ins (v.cls a) v.nS)/\Q (.tup v.told) M
def ID:rB:=λds M Q=>∃p,ds=[.ref p]/\Q (.tup [.str "end"]) M
def Mo:rB:=λds M Q=>∃p,ds=[.ref p]/\Q (.tup [.str "break"]) M
def Rg:rB:=λds M Q=>Au λp C fs y=>ds=[.ref p]/\M p=Fa (.ins C fs)/\fs.lookup ("goal":Str)=Fa y/\Q (.tup [.str "to",y]) M
def RD:rB:=λds M Q=>Au λp C fs y=>ds=[.ref p]/\M p=Fa (.ins C fs)/\fs.lookup ("phone":Str)=Fa y/\Q (.tup [.str "wait",y]) M
def Nk(a:Ad):Uf->rB->Prop:=λC sp=>(∃v:Wi,C=v.cls a)/\sp=JZ a
def Jn(a:Ad):Uf->rB->Prop:=λC sp=>((C=a.r\/C=a.t)/\sp=ID)\/((C=a.x\/C=a.n\/C=a.y\/C=a.u)/\sp=Rg)\/(C=a.v/\sp=RD)\/(C=a.o/\sp=Mo)
def Ig:Fq P w K mg base 5 a.bj (IF a):=by
 refine fq G.bj.toDG B6 (λr u=>⟨_,(pF (pU 1 B6 (pS v0 pI))
 (pF (pV (pN u U1 pJ)
 (pG (pL (vD (R7 G) r G.r G.cn G.aq.toDG (qz v0))))
 pO)
 (pF (pV (pN u U1 pJ)
 (pG (pL (vD (Pw G) r G.t G.co G.ar.toDG (qz v0))))
 pO)
 (pF (pV (pN u U1 pJ)
 (pG (pL (vD (zV G) r G.x G.cp G.C.toDG (qz v0))))
 pO)
 (pF (pV (pN u U1 pJ)
 (pG (pL (vD (NH G) r G.n G.cq G.au.toDG (qz v0))))
 pO)
 (pF (pV (pN u U1 pJ)
 (pG (pL (vD (zV G) r G.y G.cr G.C.toDG (qz v0))))
 pO)
 (pF (pV (pN u U1 pJ)
 (pG (pL (vD (K5 G) r G.u G.cs G.av.toDG (qz v0))))
 pO)
 (pF (pV (pN u U1 pJ)
 (pG (pL (vD (Qy G) r G.v G.ct G.aw.toDG (qz v0))))
 pO)
 (pF (pV (pN u U1 pJ)
 (pG (pL (vD (KO G) r G.o G.cu G.ax.toDG (qz v0))))
 pO)
 (pG HC)))))))))),?_⟩)
 rintro ds M Q ⟨v,rfl,q⟩
 have XX:∀(x:Uf) (c0 c1:vd) (C:Uf) (fs:T0 (Str×D)),M x=Db->Q (.ref x) (pQ M x c1)->∃XU,qO XU (pQ (pQ M x c0) x c1)/\Q (.ref x) XU:=λx c0 c1 C fs hx q=>⟨_,by rw[rY];exact .refl,q⟩;cases v with
 | bar x ns=>exact λp hp=>⟨p,.bar x ns,Z',⟨_,_,Z'⟩,pZ,Z',XX p _ _ 0 [] hp (q p hp)⟩
 | shut x ns=>exact λp hp=>⟨p,.shut x ns,Z',⟨_,_,Z'⟩,pZ,Z',XX p _ _ 0 [] hp (q p hp)⟩
 | always x y=>exact λp hp=>⟨p,_,_,_,_,Z',Z',Z',pZ,(G.b1 "form" Z'),(G.b1 "target" Z'),(G.b1 "goal" Z'),Z',XX p _ _ 0 [] hp (q p hp)⟩
 | night x y f l=>exact λp hp=>⟨p,.night x y f l,Z',⟨_,_,_,_,Z'⟩,pZ,Z',XX p _ _ 0 [] hp (q p hp)⟩
 | busy x y=>exact λp hp=>⟨p,_,_,_,_,Z',Z',Z',pZ,(G.b2 "form" Z'),(G.b2 "target" Z'),(G.b2 "goal" Z'),Z',XX p _ _ 0 [] hp (q p hp)⟩
 | silent x y n=>exact λp hp=>⟨p,.silent x y n,Z',⟨_,_,_,Z'⟩,pZ,Z',XX p _ _ 0 [] hp (q p hp)⟩
 | wait x=>exact λp hp=>⟨p,.wait x,Z',⟨_,Z'⟩,pZ,Z',XX p _ _ 0 [] hp (q p hp)⟩
 | breaks x=>exact λp hp=>⟨p,.breaks x,Z',⟨_,Z'⟩,pZ,Z',XX p _ _ 0 [] hp (q p hp)⟩
def Qb:Fq P w K mg base 1 a.l (JZ a):=by
 refine fq G.l.toDG F2 (λr u=>⟨_,(pG (pL (pK v0))),?_⟩)
 rintro ds M Q ⟨p,v,rfl,hp,q⟩
 exact pH hp (i' Z' ⟨M,.refl,q⟩)
def QB:Fq P w K mg base 1 a.aD ID:=by
 refine fq G.aD.toDG Gb (λr u=>⟨_,(pG (pL (pW (qz pJ)))),?_⟩)
 rintro ds M Q ⟨p,rfl,q⟩
 exact⟨pD Z',M,.refl,q⟩
def Mm:Fq P w K mg base 1 a.aE ID:=by
 refine fq G.aE.toDG DM (λr u=>⟨_,(pG (pL (pW (qz pJ)))),?_⟩)
 rintro ds M Q ⟨p,rfl,q⟩
 exact⟨pD Z',M,.refl,q⟩
def vU:Fq P w K mg base 1 a.B Rg:=by
 refine fq G.B.toDG Ai (λr u=>⟨_,(pG (pL (pW (rQ pJ (pK v0))))),?_⟩)
 rintro ds M Q ⟨p,C,fs,y,rfl,hp,e,q⟩
 exact pH hp (i' e ⟨pD Z',M,.refl,q⟩)
def Nd:Fq P w K mg base 1 a.aF RD:=by
 refine fq G.aF.toDG DT (λr u=>⟨_,(pG (pL (pW (rQ pJ (pK v0))))),?_⟩)
 rintro ds M Q ⟨p,C,fs,y,rfl,hp,e,q⟩
 exact pH hp (i' e ⟨pD Z',M,.refl,q⟩)
def Iv:Fq P w K mg base 1 a.aG Mo:=by
 refine fq G.aG.toDG Bj (λr u=>⟨_,(pG (pL (pW (qz pJ)))),?_⟩)
 rintro ds M Q ⟨p,rfl,q⟩
 exact⟨pD Z',M,.refl,q⟩
def TV:∀C sp,Nk a C sp->xN P w K mg base 1 "told" C (Ox K sp):=by
 rintro C sp ⟨⟨v,rfl⟩,rfl⟩
 have F:=Qb (P:=P) (w:=w) (base:=base) G;cases v with
 | bar _ _=>exact⟨G.r.toCls,_,_,_,G.cD,F,G.l.b⟩
 | shut _ _=>exact⟨G.t.toCls,_,_,_,G.cE,F,G.l.b⟩
 | always _ _=>exact⟨G.x.toCls,_,_,_,G.cF,F,G.l.b⟩
 | night _ _ _ _=>exact⟨G.n.toCls,_,_,_,G.cG,F,G.l.b⟩
 | busy _ _=>exact⟨G.y.toCls,_,_,_,G.cH,F,G.l.b⟩
 | silent _ _ _=>exact⟨G.u.toCls,_,_,_,G.cI,F,G.l.b⟩
 | wait _=>exact⟨G.v.toCls,_,_,_,G.cJ,F,G.l.b⟩
 | breaks _=>exact⟨G.o.toCls,_,_,_,G.cK,F,G.l.b⟩
def OL:∀C sp,Jn a C sp->xN P w K mg base 1 "wants" C (Ox K sp):=by
 rintro C sp (⟨rfl|rfl,rfl⟩|⟨rfl|rfl|rfl|rfl,rfl⟩|⟨rfl,rfl⟩|⟨rfl,rfl⟩)
 .exact⟨G.r.toCls,_,_,_,G.aD.nH,QB G,G.aD.b⟩
 .exact⟨G.t.toCls,_,_,_,G.aE.nH,Mm G,G.aE.b⟩
 .exact⟨G.x.toCls,_,_,_,G.cL,vU G,G.B.b⟩
 .exact⟨G.n.toCls,_,_,_,G.cM,vU G,G.B.b⟩
 .exact⟨G.y.toCls,_,_,_,G.cN,vU G,G.B.b⟩
 .exact⟨G.u.toCls,_,_,_,G.cO,vU G,G.B.b⟩
 .exact⟨G.v.toCls,_,_,_,G.aF.nH,Nd G,G.aF.b⟩
 .exact⟨G.o.toCls,_,_,_,G.aG.nH,Iv G,G.aG.b⟩
def uO(x:Str):Bool:=decide ((1:Int)<=x.length)&&(decide ((x.length:Int)<=6)&&x.cps.toList.all λc=>Dt ⟨#[c]⟩ uH)
def IK:rB:=λds M Q=>∃x:Str,ds=[.str x]/\x.length<=1000/\Q (.bl (uO x)) M
def Jz:rB:=λds M Q=>∃w,ds=[.bl pc,w]/\Q .mY M
noncomputable def wZ(ss:QQQ):Bool:=((ud ss).length:Int)==(ss.length:Int)
def TR(M:Mp)(x:D)(ss:QQQ):Prop:=x=.tup (ss.map D.str)\/∃a,x=.ref a/\oN M a=Fa (ss.map D.str)
def Km:rB:=λds M Q=>z9 λx ss=>ds=[x]/\TR M x ss/\ss.length<4000/\Q (.bl (wZ ss)) M
def zB{α:Type}(f:α->Bool)(l:List α):(l.map f).all id=l.all f:=by rw[j3];rfl
def rh(x:Str)(ss:QQQ):inD (.str x) (ss.map D.str)=ss.any (·==x):=by unfold inD;rw[j8];rfl
theorem qm:∀ss:QQQ,(ss.map D.str).all vi=pc
 | []=>rfl
 | _::r=>by rw[eh,eL,qm r];rfl
def sV(cs ks:QQQ)(m:Int):Bool:=decide ((1:Int)<=cs.length)&&(decide ((cs.length:Int)<=m)&&(wZ cs&&cs.all λc=>ks.any (·==c)))
def Lg:rB:=λds M Q=>Au λcs ks k m=>ds=[.tup (cs.map D.str),.ref k,.int m]/\oN M k=Fa (ks.map D.str)/\cs.length<4000/\Q (.bl (sV cs ks m)) M
def C7:Fq P w K mg base 1 a.ag IK:=by
 refine fq G.ag.toDG HJ (λr u=>⟨_,(pG (pL (sv (ur u pI (qa qD Z' G.g qB (qz v0)) (sY Z' G.c9)) (rN (qa (FJ Z') Z' G.bY Fb (qz (qP Z' (yh (ix:=[Db]) (N':=["sign"])) (qL v0) (qM 0) se (ql u v0 (sY Z' G.da))))))))),?_⟩)
 rintro ds M Q ⟨x,rfl,hl,q⟩
 have hz:=dR;refine⟨by lia,qv (λh1=>?_) (λh1=>?_)⟩
 .refine qv (λh2=>?_) (λh2=>?_)
  .refine rA (f:=λd=>match d with|.str z=>D.bl (Dt z uH)|_=>.mY) trivial _ [] _ ?_ (λd hd k hk=>?_) λp hp=>?_
   .rw[de];have:x.cps.toList.length=x.length:=by simp[Str.length]
    simp only[dS];lia
   .obtain⟨c,_,rfl⟩:=dJ.mp hd;exact hk
   .refine i' pT ?_;have e:([]++(x.cps.toList.map λc=>D.str ⟨#[c]⟩).map λd=>match d with|.str z=>D.bl (Dt z uH)|_=>.mY)=x.cps.toList.map λc=>D.bl (Dt ⟨#[c]⟩ uH):=by rw[eB,eG];rfl
    rw[e];refine i' (yp (λc=>Dt ⟨#[c]⟩ uH) x.cps.toList) ⟨M,.new hp,?_⟩;rw[zB];have:uO x=x.cps.toList.all λc=>Dt ⟨#[c]⟩ uH:=by unfold uO;rw[h1,h2];rfl
    rw[<-this];exact q
  .refine⟨M,.refl,?_⟩;have:uO x=lf:=by
    unfold uO;have h2:decide ((x.length:Int)<=6)=lf:=by simpa using h2
    rw[h2];simp
   rw[<-this];exact q
 .refine⟨M,.refl,?_⟩;have:uO x=lf:=by
   unfold uO;have h1:decide ((1:Int)<=x.length)=lf:=by simpa using h1
   rw[h1];rfl
  rw[<-this];exact q
def tz:Fq P w K mg base 1 a.m Jz:=by
 refine fq G.m.toDG Px (λr u=>⟨_,(pG (pV (tj (sR v0))
 (pG HC)
 pO)),?_⟩)
 rintro ds M Q ⟨x,rfl,q⟩
 exact⟨M,.refl,q⟩
def Et:Fq P w K mg base 1 a.ah Km:=by
 refine fq G.ah.toDG DA (λr u=>⟨_,(pG (pL (ql u (Kn Z' v0 Z' G.g Z' G.cZ qB SA) (qa qD Z' G.g qB (qz v0))))),?_⟩)
 rintro ds M Q ⟨x,ss,rfl,hx,hl,q⟩
 have key:((ss.map D.str).length:Int)=ss.length:=by rw[de]
 rcases hx with rfl|⟨b,rfl,hb⟩
 .refine i' (L3.Cu ss) ⟨hl,M,.refl,?_⟩;rw[key];exact q
 .refine i' hb (i' (L3.Cu ss) ⟨hl,i' hb ⟨M,.refl,?_⟩⟩);rw[key];exact q
def Ap:Fq P w K mg base 2 a.P Lg:=by
 refine fq G.P.toDG FU (λr u=>⟨_,(pG (pL (sv (ur u pI (qa qD Z' G.g qB (qz v0)) U2) (sv (pP (Et G) r G.ah (qz v0)) (rN (qa (FJ Z') Z' G.bY Fb (qz (qP Z' (yh (ix:=[Db,Fa 1]) (N':=["name","known"])) (qL v0) (qM 0) se (ql u v0 U1))))))))),?_⟩)
 rintro ds M Q ⟨cs,ks,k,m,rfl,hk,hl,q⟩
 have hz:=dR;have key:((cs.map D.str).length:Int)=cs.length:=by rw[de]
 have end_:∀b:Bool,sV cs ks m=b->∃XU,qO XU M/\Q (.bl b) XU:=λb e=>⟨M,.refl,e ▸ q⟩;refine qv (λh1=>?_) (λh1=>?_)
 .have h1:decide ((1:Int)<=cs.length)=pc:=by rw[<-key];exact h1
  refine qv (λh2=>?_) (λh2=>?_)
  .have h2:decide ((cs.length:Int)<=m)=pc:=by rw[<-key];exact h2
   refine⟨_,cs,Z',.inl Z',hl,qv (λh3=>?_) (λh3=>?_)⟩
   .refine rA (f:=λd=>match d with|.str z=>D.bl (ks.any (·==z))|_=>.mY) trivial _ [] _ ?_ (λd hd k0 hk0=>?_) λp hp=>?_
    .rw[de];simp only[dS];lia
    .obtain⟨c,_,rfl⟩:=dJ.mp hd;refine i' hk ⟨Z',qm ks,?_⟩;show k0 (.bl (inD (.str c) (ks.map D.str))) M;rw[rh];exact hk0
    .refine i' pT ?_;have e:([]++(cs.map D.str).map λd=>match d with|.str z=>D.bl (ks.any (·==z))|_=>.mY)=cs.map λc=>D.bl (ks.any (·==c)):=by rw[eB,eG];rfl
     rw[e];refine i' (yp (λc=>ks.any (·==c)) cs) ⟨M,.new hp,?_⟩;rw[zB];have:sV cs ks m=cs.all λc=>ks.any (·==c):=by unfold sV;rw[h1,h2,h3];rfl
     rw[<-this];exact q
   .refine end_ _ ?_;unfold sV;have h3:wZ cs=lf:=by simpa using h3
    rw[h3];simp
  .refine end_ _ ?_;unfold sV;have h2:decide ((cs.length:Int)<=m)=lf:=by
    rw[<-key]
    simpa using h2
   rw[h2];simp
 .refine end_ _ ?_;unfold sV;have h1:decide ((1:Int)<=cs.length)=lf:=by
   rw[<-key]
   simpa using h1
  rw[h1];rfl
abbrev uL:=Str×Int×Int
abbrev uE:=Str×Str×QQQ
abbrev vJ:=Bool×Wi
noncomputable def rD(p:uL):D:=.tup [.str p.1,.int p.2.1,.int p.2.2]
noncomputable def rL(g:uE):D:=.tup [.str g.1,.str g.2.1,names g.2.2]
noncomputable def xC(w:vJ):D:=.tup [.bl w.1,.tup w.2.told]
structure F0(p:uL):Prop where
 len:p.1.length<=1000
 nm:uO p.1=pc
 l1:1<=p.2.1
 l2:p.2.1<=3
 r1:0<=p.2.2
 r2:p.2.2<=9
structure Fg(pn:QQQ)(g:uE):Prop where
 len:g.1.length<=1000
 nm:uO g.1=pc
 man:g.2.1="all"\/g.2.1="turns"
 pD:g.2.2.length<4000
 mem:sV g.2.2 pn 4=pc
def xZ(ss:QQQ)(x:Str):Prop:=ss.any (·==x)=pc
def BU(pn nm:QQQ):Wi->Prop
 | .bar x ns=>xZ pn x/\ns.length<4000/\sV ns nm 6=pc
 | .shut x ns=>xZ nm x/\ns.length<4000/\sV ns pn 6=pc
 | .always x y=>xZ nm x/\xZ nm y/\x≠y
 | .night x y f l=>xZ nm x/\xZ nm y/\x≠y/\(0<=f/\f<=23)/\(0<=l/\l<=23)/\f≠l
 | .busy x y=>xZ nm x/\xZ nm y/\x≠y
 | .silent x y n=>xZ nm x/\xZ nm y/\x≠y/\1<=n/\n<=9
 | .wait x=>xZ pn x
 | .breaks x=>xZ pn x
inductive xO(pn nm:QQQ):Str->D->Prop
 | nB (x:Str) (h:xZ pn x):xO pn nm "phone" (.str x)
 | name (x:Str) (h:xZ nm x):xO pn nm "name" (.str x)
 | mV (cs:QQQ) (l:cs.length<4000) (h:sV cs pn 6=pc):xO pn nm "phones" (names cs)
 | names (cs:QQQ) (l:cs.length<4000) (h:sV cs nm 6=pc):xO pn nm "names" (names cs)
 | hour (i:Int) (h0:0<=i) (h1:i<=23):xO pn nm "hour" (.int i)
 | turns (i:Int) (h0:1<=i) (h1:i<=9):xO pn nm "turns" (.int i)
def Ka:rB:=λds M Q=>IS λk d pl nl (pn nm:QQQ)=>ds=[.str k,d,.ref pl,.ref nl]/\oN M pl=Fa (pn.map D.str)/\oN M nl=Fa (nm.map D.str)/\xO pn nm k d/\Q (.bl pc) M
def Be:rB:=λds M Q=>z9 λr (ps:List uL)=>ds=[.ref r]/\oN M r=Fa (ps.map rD)/\1<=ps.length/\ps.length<=8/\(∀p∈ps,F0 p)/\Q .mY M
def Bk:rB:=λds M Q=>Au λr (gs:List uE) pl (pn:QQQ)=>ds=[.ref r,.ref pl]/\oN M r=Fa (gs.map rL)/\oN M pl=Fa (pn.map D.str)/\gs.length<=3/\(∀g∈gs,Fg pn g)/\Q .mY M
def Dk:rB:=λds M Q=>FV λv pl nl (pn nm:QQQ)=>ds=[.tup (Wi.told v),.ref pl,.ref nl]/\oN M pl=Fa (pn.map D.str)/\oN M nl=Fa (nm.map D.str)/\BU pn nm v/\Q .mY M
def By:rB:=λds M Q=>IS λr (ws:List vJ) pl nl (pn nm:QQQ)=>ds=[.ref r,.ref pl,.ref nl]/\oN M r=Fa (ws.map xC)/\oN M pl=Fa (pn.map D.str)/\oN M nl=Fa (nm.map D.str)/\ws.length<=16/\(∀w∈ws,BU pn nm w.2)/\Q .mY M
def Xg(h:xZ ss x):inD (.str x) (ss.map D.str)=pc:=by rw[rh];exact h
def Q2:Fq P w K mg base 3 a.bm Ka:=by
 refine fq G.bm.toDG DF (λr u=>⟨_,(pF (pV (pN u v0 pJ)
 (pG (pL (ql u U1 U2)))
 pO)
 (pF (pV (pN u v0 pJ)
 (pG (pL (ql u U1 U3)))
 pO)
 (pF (pV (pN u v0 pJ)
 (pG (pL (pP (Ap G) r G.P (rc U1 U2 (sY Z' G.ce)))))
 pO)
 (pF (pV (pN u v0 pJ)
 (pG (pL (pP (Ap G) r G.P (rc U1 U3 (sY Z' G.ce)))))
 pO)
 (pF (pV (pN u v0 pJ)
 (pG (pL (ur u pI U1 (sY Z' G.db))))
 pO)
 (pG (pL (ur u pI U1 (sY Z' G.dc))))))))),?_⟩)
 rintro ds M Q ⟨k,d,pl,nl,pn,nm,rfl,hp,hn,ok,q⟩
 cases ok with
 | nB x h=>refine i' hp ⟨Z',qm pn,M,.refl,?_⟩;show Q (.bl (inD (.str x) (pn.map D.str))) M;rw[Xg h];exact q
 | name x h=>refine i' hn ⟨Z',qm nm,M,.refl,?_⟩;show Q (.bl (inD (.str x) (nm.map D.str))) M;rw[Xg h];exact q
 | mV cs l h=>exact⟨cs,pn,pl,6,Z',hp,l,M,.refl,by rw[h];exact q⟩
 | names cs l h=>exact⟨cs,nm,nl,6,Z',hn,l,M,.refl,by rw[h];exact q⟩
 | hour i h0 h1=>refine A9 (c:=decide (0<=i)) (eA h0) ⟨M,.refl,?_⟩;show Q (.bl (decide (i<=23))) M;rw[eA h1];exact q
 | turns i h0 h1=>refine A9 (c:=decide (1<=i)) (eA h0) ⟨M,.refl,?_⟩;show Q (.bl (decide (i<=9))) M;rw[eA h1];exact q
def Bh:Fq P w K mg base 2 a.bk Be:=by
 refine fq G.bk.toDG uA (λr u=>⟨_,(pF (pY (pP (tz G) r G.m (rQ (ur u pI (qa qD Z' G.g qB (qz v0)) (sY Z' G.c2)) pJ)))
 (pG (uP ft Z' (qL v0) (ve (n:=3) Z' (qF (rC 1 uA) (qF (rC 2 uA) (qF (rC 3 uA) ub))))
 (pF (pY (pP (tz G) r G.m (rQ (pP (C7 G) r G.ag (qz U1)) pJ)))
 (pF (pY (pP (tz G) r G.m (rQ (ur u pI U2 (sY Z' G.c3)) pJ)))
 (pG (pY (pP (tz G) r G.m (rQ (ur u pI U3 (sY Z' G.c4)) pJ))))))))),?_⟩)
 rintro ds M Q ⟨r,ps,rfl,YA,h1,h8,m8,q⟩
 have el:((ps.map rD).length:Int)=ps.length:=by rw[de]
 refine i' YA (A9 (c:=decide ((1:Int)<=(ps.map rD).length)) (eA (by lia)) ⟨_,by rw[eA (show((ps.map rD).length:Int)<=8 by lia)],i' YA ?_⟩);refine BD (λU M'=>M=M'/\∃x y z,U=[Fa (.ref r),x,y,z]) (λU M' j=>by rw[<-j.1];exact YA) _ _ _ ⟨Z',Db,Db,Db,Z'⟩ ?_ ?_
 .rintro d hd U M' ⟨rfl,x,y,z,rfl⟩ nx X0
  obtain⟨p,hp,rfl⟩:=dJ.mp hd;have o:=m8 p hp;refine⟨Z',⟨p.1,Z',o.len,_,by rw[o.nm],?_⟩⟩;refine A9 (c:=decide ((1:Int)<=p.2.1)) (eA o.l1) ⟨_,by rw[eA (show p.2.1<=3 from o.l2)],?_⟩;refine A9 (c:=decide ((0:Int)<=p.2.2)) (eA o.r1) ⟨_,by rw[eA (show p.2.2<=9 from o.r2)],?_⟩;exact X0 _ _ ⟨Z',_,_,_,Z'⟩
 .rintro U M' ⟨rfl,x,y,z,rfl⟩
  exact⟨M,.refl,q⟩
def Bp:Fq P w K mg base 3 a.bl Bk:=by
 refine fq G.bl.toDG uy (λr u=>⟨_,(pF (pY (pP (tz G) r G.m (rQ (ql u (qa qD Z' G.g qB (qz v0)) (sY Z' G.c5)) pJ)))
 (pG (uP ft Z' (qL v0) (ve (n:=3) Z' (qF (rC 2 uy) (qF (rC 3 uy) (qF (rC 4 uy) ub))))
 (pF (pY (pP (tz G) r G.m (rQ (pP (C7 G) r G.ag (qz U2)) pJ)))
 (pF (pY (pP (tz G) r G.m (rQ (ql u U3 (sY Z' G.c6)) pJ)))
 (pG (pY (pP (tz G) r G.m (rQ (pP (Ap G) r G.P (rc v4 U1 (sY Z' G.c7))) pJ))))))))),?_⟩)
 rintro ds M Q ⟨r,gs,pl,pn,rfl,YA,hp,h3,m8,q⟩
 have el:((gs.map rL).length:Int)=gs.length:=by rw[de]
 refine i' YA ⟨_,by rw[eA (show((gs.map rL).length:Int)<=3 by lia)],i' YA ?_⟩;refine BD (λU M'=>M=M'/\∃x y z,U=[Fa (.ref r),Fa (.ref pl),x,y,z]) (λU M' j=>by rw[<-j.1];exact YA) _ _ _ ⟨Z',Db,Db,Db,Z'⟩ ?_ ?_
 .rintro d hd U M' ⟨rfl,x,y,z,rfl⟩ nx X0
  obtain⟨g,hg,rfl⟩:=dJ.mp hd;have o:=m8 g hg;refine⟨Z',⟨g.1,Z',o.len,_,by rw[o.nm],?_⟩⟩;have hm:inD (.str g.2.1) [.str "all",.str "turns"]=pc:=by rcases o.man with e|e<;>(rw[e];rfl)
  refine⟨Z',Z',.str "a group's manner is all or turns",eZ (λb=>[D.bl b,D.str "a group's manner is all or turns"]) hm,?_⟩;refine⟨g.2.2,pn,pl,4,Z',hp,o.pD,_,by rw[o.mem],?_⟩;exact X0 _ _ ⟨Z',_,_,_,Z'⟩
 .rintro U M' ⟨rfl,x,y,z,rfl⟩
  exact⟨M,.refl,q⟩
def Dz:Fq P w K mg base 4 a.bn Dk:=by
 refine fq G.bn.toDG uo (λr u=>⟨_,(pF (pY (pP (tz G) r G.m (rQ (LM G.cd Z' (pS v0 pI)) pJ)))
 (pF (pU 3 uo (Lc G.cd Z' (pS v0 pI)))
 (pF (pU 4 uo (sy v0 (sT pI) tL))
 (pF (pY (pP (tz G) r G.m (rQ (ql u (qa qD Z' G.g qB (qz v4)) (qa qD Z' G.g qB (qz U3))) pJ)))
 (pF (uP ft Z' (SO Z' G.c0 (rQ U3 v4)) (ve (n:=2) Z' (qF (rC 5 uo) (qF (rC 6 uo) ub)))
 (pG (pY (pP (tz G) r G.m (rQ (pP (Q2 G) r G.bm (qg v5 (rc v6 U1 U2))) pJ)))))
 (pF (pV (pN u (sy U3 tL (sT pI)) (pW (rQ pJ pJ)))
 (pG (pY (pP (tz G) r G.m (rQ (ql u (pS v4 pI) (pS v4 pI)) pJ))))
 pO)
 (pG (pV (pN u (sy U3 (sT pI) tL) (pW (rQ pJ pJ)))
 (pG (pY (pP (tz G) r G.m (rQ (ql u (pS v4 pI) (pS v4 pI)) pJ))))
 pO)))))))),?_⟩)
 rintro ds M Q ⟨v,pl,nl,pn,nm,rfl,hp,hn,ok,q⟩
 have part:∀{k:Str} {d:D} {C:DK},xO pn nm k d->C (.bl pc) M->Ka [.str k,d,.ref pl,.ref nl] M C:=λo c=>⟨_,_,pl,nl,pn,nm,Z',hp,hn,o,c⟩;have need:∀{x:D} {C:DK},C .mY M->Jz [.bl pc,x] M C:=λc=>⟨_,Z',c⟩;have ne:∀{x y:Str},x≠y->(!(x==y))=pc:=λh=>by simpa using h
 have nei:∀{x y:Int},x≠y->(!(x==y))=pc:=λh=>by simpa using h
 have XX:∃XU,qO XU M/\Q .mY XU:=⟨M,.refl,q⟩;cases v with
 | bar x ns=>obtain⟨h1,h2,h3⟩:=ok;refine⟨_,Z',_,Z',?_⟩;refine⟨Z',_,_,pl,nl,pn,nm,Z',hp,hn,.nB x h1,_,Z',trivial,⟨Z',_,_,pl,nl,pn,nm,Z',hp,hn,.names ns h2 h3,_,Z',trivial,?_⟩⟩;exact⟨pD Z',pD Z',XX⟩
 | shut x ns=>obtain⟨h1,h2,h3⟩:=ok;refine⟨_,Z',_,Z',?_⟩;refine⟨Z',_,_,pl,nl,pn,nm,Z',hp,hn,.name x h1,_,Z',trivial,⟨Z',_,_,pl,nl,pn,nm,Z',hp,hn,.mV ns h2 h3,_,Z',trivial,?_⟩⟩;exact⟨pD Z',pD Z',XX⟩
 | always x y=>obtain⟨h1,h2,h3⟩:=ok;refine⟨_,Z',_,Z',?_⟩;refine⟨Z',_,_,pl,nl,pn,nm,Z',hp,hn,.name x h1,_,Z',trivial,⟨Z',_,_,pl,nl,pn,nm,Z',hp,hn,.name y h2,_,Z',trivial,?_⟩⟩;refine⟨pD Z',⟨_,by rw[ne h3],?_⟩⟩;exact⟨pD Z',XX⟩
 | night x y f l=>obtain⟨h1,h2,h3,h4,h5,h6⟩:=ok;refine⟨_,Z',_,Z',?_⟩;refine⟨Z',_,_,pl,nl,pn,nm,Z',hp,hn,.name x h1,_,Z',trivial,⟨Z',_,_,pl,nl,pn,nm,Z',hp,hn,.name y h2,_,Z',trivial,⟨Z',_,_,pl,nl,pn,nm,Z',hp,hn,.hour f h4.1 h4.2,_,Z',trivial,⟨Z',_,_,pl,nl,pn,nm,Z',hp,hn,.hour l h5.1 h5.2,_,Z',trivial,?_⟩⟩⟩⟩;refine⟨pD Z',⟨_,by rw[ne h3],?_⟩⟩;refine⟨pD Z',⟨_,by rw[nei h6],?_⟩⟩;exact XX
 | busy x y=>obtain⟨h1,h2,h3⟩:=ok;refine⟨_,Z',_,Z',?_⟩;refine⟨Z',_,_,pl,nl,pn,nm,Z',hp,hn,.name x h1,_,Z',trivial,⟨Z',_,_,pl,nl,pn,nm,Z',hp,hn,.name y h2,_,Z',trivial,?_⟩⟩;refine⟨pD Z',⟨_,by rw[ne h3],?_⟩⟩;exact⟨pD Z',XX⟩
 | silent x y n=>obtain⟨h1,h2,h3,h4,h5⟩:=ok;refine⟨_,Z',_,Z',?_⟩;refine⟨Z',_,_,pl,nl,pn,nm,Z',hp,hn,.name x h1,_,Z',trivial,⟨Z',_,_,pl,nl,pn,nm,Z',hp,hn,.name y h2,_,Z',trivial,⟨Z',_,_,pl,nl,pn,nm,Z',hp,hn,.turns n h4 h5,_,Z',trivial,?_⟩⟩⟩;refine⟨pD Z',⟨_,by rw[ne h3],?_⟩⟩;exact⟨pD Z',XX⟩
 | wait x=>refine⟨_,Z',_,Z',?_⟩;refine⟨Z',_,_,pl,nl,pn,nm,Z',hp,hn,.nB x ok,_,Z',trivial,?_⟩;exact⟨pD Z',pD Z',XX⟩
 | breaks x=>refine⟨_,Z',_,Z',?_⟩;refine⟨Z',_,_,pl,nl,pn,nm,Z',hp,hn,.nB x ok,_,Z',trivial,?_⟩;exact⟨pD Z',pD Z',XX⟩
def Bu:Fq P w K mg base 5 a.bo By:=by
 refine fq G.bo.toDG vf (λr u=>⟨_,(pF (pY (pP (tz G) r G.m (rQ (ql u (qa qD Z' G.g qB (qz v0)) (sY Z' G.c8)) pJ)))
 (pG (uP ft Z' (qL v0) (ve (n:=2) Z' (qF (rC 3 vf) (qF (rC 4 vf) ub)))
 (pG (pY (pP (Dz G) r G.bn (rc v4 U1 U2))))))),?_⟩)
 rintro ds M Q ⟨r,ws,pl,nl,pn,nm,rfl,YA,hp,hn,h16,m8,q⟩
 have el:((ws.map xC).length:Int)=ws.length:=by rw[de]
 refine i' YA ⟨_,by rw[eA (show((ws.map xC).length:Int)<=16 by lia)],i' YA ?_⟩;refine BD (λU M'=>M=M'/\∃x y,U=[Fa (.ref r),Fa (.ref pl),Fa (.ref nl),x,y]) (λU M' j=>by rw[<-j.1];exact YA) _ _ _ ⟨Z',Db,Db,Z'⟩ ?_ ?_
 .rintro d hd U M' ⟨rfl,x,y,rfl⟩ nx X0
  obtain⟨v,hv,rfl⟩:=dJ.mp hd;exact⟨Z',⟨v.2,pl,nl,pn,nm,Z',hp,hn,m8 v hv,X0 _ _ ⟨Z',_,_,Z'⟩⟩⟩
 .rintro U M' ⟨rfl,x,y,rfl⟩
  exact⟨M,.refl,q⟩
structure pR where
 mV:List uL
 groups:List uE
 mU:List vJ
noncomputable def pR.pn(l:pR):QQQ:=l.mV.map (·.1)
noncomputable def pR.gn(l:pR):QQQ:=l.groups.map (·.1)
noncomputable def pR.nm(l:pR):QQQ:=l.pn++l.gn
structure sj(l:pR):Prop where
 p1:1<=l.mV.length
 p8:l.mV.length<=8
 po:∀p∈l.mV,F0 p
 g3:l.groups.length<=3
 go:∀g∈l.groups,Fg l.pn g
 nd:l.nm.Nodup
 pq:l.mU.length<=16
 wo:∀w∈l.mU,BU l.pn l.nm w.2
def Eb{ss:QQQ}(h:ss.Nodup):wZ ss=pc:=by unfold wZ;rw[HR ss h];simp
def DR:rB:=λds M Q=>Au λr1 r2 r3 (l:pR)=>ds=[.ref r1,.ref r2,.ref r3]/\oN M r1=Fa (l.mV.map rD)/\oN M r2=Fa (l.groups.map rL)/\oN M r3=Fa (l.mU.map xC)/\sj l/\Q .mY M
noncomputable def Bg:D->D
 | .tup (x::_)=>x
 | _=>.mY
def xn(ps:List uL):(ps.map rD).map Bg=(ps.map (·.1)).map D.str:=by rw[eG,eG];rfl
def xq(ps:List uE):(ps.map rL).map Bg=(ps.map (·.1)).map D.str:=by rw[eG,eG];rfl
def DJ:Fq P w K mg base 6 a.bp DR:=by
 refine fq G.bp.toDG wz (λr u=>⟨_,(pF (pY (pP (Bh G) r G.bk (qz v0)))
 (pF (vH (i:=3) wz.nd Z' (Or.inl Z') Z' (yh (ix:=[Db]) (N':=["phone"])) (qL v0) (qM 0) se (pS v0 pI))
 (pF (pY (pP (Bp G) r G.bl (rQ U1 U3)))
 (pF (pU 4 wz (qe U3 (qP Z' (yh (ix:=[Db]) (N':=["group"])) (qL U1) (qM 0) se (pS v0 pI))))
 (pF (pY (pP (tz G) r G.m (rQ (pP (Et G) r G.ah (qz v4)) pJ)))
 (pG (pY (pP (Bu G) r G.bo (rc U2 U3 v4))))))))),?_⟩)
 rintro ds M Q ⟨r1,r2,r3,l,rfl,h1,h2,h3,ok,q⟩
 have hz:=dR;have l1:=ok.p8;have l2:=ok.g3;refine⟨r1,l.mV,Z',h1,ok.p1,ok.p8,ok.po,i' h1 ?_⟩;refine rA (f:=Bg) h1 _ [] _ (by rw[de];simp only[dS];lia) (λd hd k hk=>?_) λp hp=>?_
 .obtain⟨x,_,rfl⟩:=dJ.mp hd;exact hk
 rw[eB,xn];obtain⟨M1,e0,s1,lp⟩:=xl (ds:=(l.mV.map (·.1)).map D.str) hp;rw[<-e0];have lp:oN M1 p=Fa (l.pn.map D.str):=lp;refine⟨r2,l.groups,p,l.pn,Z',s1.lst h2,lp,ok.g3,ok.go,?_⟩;refine i' (s1.lst h2) (rA (f:=Bg) (s1.lst h2) _ [] _ (by rw[de];simp only[dS];lia) (λd hd k hk=>?_) λp2 X2=>?_)
 .obtain⟨x,_,rfl⟩:=dJ.mp hd;exact hk
 rw[eB,xq];have s2:=qO.new (c:=.lst ((l.groups.map (·.1)).map D.str)) X2;refine i' (s2.lst lp) (i' pT ⟨?_,λp3 hp3=>?_⟩)
 .rw[de,de,de];show(l.mV.map (·.1)).length+_<=_;rw[de];lia
 have en:l.pn.map D.str++(l.groups.map (·.1)).map D.str=l.nm.map D.str:=by unfold pR.nm;rw[dZ];rfl
 rw[en];have s3:=s2.trans (qO.new (c:=.lst (l.nm.map D.str)) hp3);have l3:=@pT (pQ M1 p2 (.lst ((l.groups.map (·.1)).map D.str))) p3 (l.nm.map D.str);generalize pQ (pQ M1 p2 (.lst ((l.groups.map (·.1)).map D.str))) p3 (.lst (l.nm.map D.str))=M3 at s3 l3 ⊢;have ln:l.nm.length<4000:=by unfold pR.nm pR.pn pR.gn;rw[dq,de,de];lia
 refine⟨_,l.nm,Z',.inr ⟨p3,Z',l3⟩,ln,_,by rw[Eb ok.nd],?_⟩;exact⟨r3,l.mU,p,p3,l.pn,l.nm,Z',s3.lst (s1.lst h3),s3.lst lp,l3,ok.pq,ok.wo,M,s1.trans s3,q⟩
noncomputable def Rp(ph gr ws on pr gd:Uf):T0 (Str×D):=[("phones",.ref ph),("groups",.ref gr),("wishes",.ref ws),("on",.ref on),("phone_rows",.ref pr),("group_rows",.ref gd)]
def R4(l:pR):T0 (rm×D):=l.mV.map λp=>(Sum.inr p.1,rD p)
def H9(l:pR):T0 (rm×D):=l.groups.map λg=>(Sum.inr g.1,rL g)
def sW(a:Ad)(M:Mp)(rs:QXQ)(ws:List vJ):Prop:=rs.length=ws.length/\∀(i:Nat) (r:Uf) (v:vJ),rs[i]?=Fa r->ws[i]?=Fa v->M r=Fa (.ins (v.2.cls a) v.2.nS)
def tW(a:Ad)(M:Mp)(p:Uf)(l:pR):Prop:=Uk λph gr ws on pr gd (rs:QXQ)=>M p=Fa (.ins a.h (Rp ph gr ws on pr gd))/\oN M ph=Fa (l.mV.map rD)/\oN M gr=Fa (l.groups.map rL)/\
 oN M ws=Fa (rs.map D.ref)/\oN M on=Fa (l.mU.map λw=>D.bl w.1)/\zr M pr=Fa (R4 l)/\zr M gd=Fa (H9 l)/\sW a M rs l.mU
def sW.keep{p:Uf}(h:sW a M rs ws)(k:sJ p M M')(n:∀r∈rs,r≠p):sW a M' rs ws:=⟨h.1,λi r v e1 e2=>k r _ (n r (fD e1)) (h.2 i r v e1 e2)⟩
def sW.sub(h:sW a M rs ws)(k:qO M M'):sW a M' rs ws:=⟨h.1,λi r v e1 e2=>k r _ (h.2 i r v e1 e2)⟩
def tW.sub{p:Uf}(h:tW a M p l)(s:qO M M'):tW a M' p l:=by obtain⟨ph,gr,ws,on,pr,gd,rs,h1,h2,h3,h4,h5,h6,h7,h8⟩:=h;exact⟨ph,gr,ws,on,pr,gd,rs,s _ _ h1,s.lst h2,s.lst h3,s.lst h4,s.lst h5,s.dk h6,s.dk h7,h8.sub s⟩
def PL(a:Ad):rB:=λds M Q=>FV λp r1 r2 r3 (l:pR)=>ds=[.ref p,.ref r1,.ref r2,.ref r3]/\M p=Fa (.ins a.h [])/\oN M r1=Fa (l.mV.map rD)/\oN M r2=Fa (l.groups.map rL)/\oN M r3=Fa (l.mU.map xC)/\sj l/\
 ∀M',sJ p M M'->tW a M' p l->(∀XU,(∀b c,(b=p\/M b=Db)->M' b=Fa c->XU b=Fa c)->tW a XU p l)->Q .mY M'
def rR{p x:Uf}{c:vd}(k:sJ p M N)(hp:N p=Fa c)(h:N x=Db):M x=Db:=by
 cases e:M x with
 | none=>rfl
 | some d=>
  have n:x≠p:=λz=>by rw[z,hp]at h;cases h
  rw[k x d n e]at h;cases h
def zD{a:Uf}{es:T0 (rm×D)}(h:zr M a=Fa es):M a=Fa (.dk es):=by
 unfold zr at h;split at h
 .rename_i e;rw[e];cases h;rfl
 .cases h
theorem wX{α:Type}(f:α->Str)(g:α->D):∀l:List α,xi (l.map λx=>D.tup [.str (f x),g x])=Fa (l.map λx=>(Sum.inr (f x),g x))
 | []=>rfl
 | x::r=>by show(xi (r.map λx=>D.tup [.str (f x),g x])).map ((Sum.inr (f x),g x)::·)=_;rw[wX f g r];rfl
def Kh{ss:QQQ}(h:ss.Nodup):(ss.map λx=>(Sum.inr x:rm)).Nodup:=by
 induction ss with
 | nil=>exact eU
 | cons x r ih=>obtain⟨h1,h2⟩:=d6.mp h;rw[eh];refine d6.mpr ⟨λz=>h1 ?_,ih h2⟩;obtain⟨y,hy,e⟩:=dJ.mp z;cases e;exact hy
def za{α:Type}{f:α->Str}{g:α->D}{l:List α}(h:(l.map f).Nodup):((l.map λx=>((Sum.inr (f x):rm),g x)).map (·.1)).Nodup:=by rw[eG];have:=Kh h;rw[eG]at this;exact this
def BG(d:D):D:=.tup [Bg d,d]
noncomputable def Xl:D->D
 | .tup (x::_)=>x
 | _=>.mY
def RO(ws:List vJ):(ws.map xC).map Xl=ws.map λw=>D.bl w.1:=by rw[eG];rfl
def Gk(ps:List uL):(ps.map rD).map BG=ps.map λp=>D.tup [.str p.1,rD p]:=by rw[eG];rfl
def He(ps:List uE):(ps.map rL).map BG=ps.map λp=>D.tup [.str p.1,rL p]:=by rw[eG];rfl
def sW.snoc{r:Uf}{v:vJ}(h:sW a M rs ws)(n:M r=Db):sW a (pQ M r (.ins (v.2.cls a) v.2.nS)) (rs++[r]) (ws++[v]):=by
 refine⟨by rw[dq,dq,h.1];rfl,λi r' v' e1 e2=>?_⟩;by_cases hi:i<rs.length
 .rw[fm hi]at e1;rw[fm (by rw[<-h.1];exact hi)]at e2;have:=h.2 i r' v' e1 e2;rw[sU (PH this n)];exact this
 .have Zr:i=rs.length:=by have:=(dv.mp e1).1;rw[dq,dX]at this;lia
  subst Zr;rw[fj (dE _)]at e1;rw[h.1,fj (dE _)]at e2;simp only[iq,iQ,jK]at e1 e2;subst e1 e2;exact pZ
def QZ:Fq P w K mg base 7 a.ap (PL a):=by
 refine fq G.ap.toDG EN (λr u=>⟨_,(pF (pY (pP (DJ G) r G.bp (rc U1 U2 U3)))
 (pF (qr v0 (qp tO Z' G.z tK (qz U1)))
 (pF (qr v0 (qp tO Z' G.z tK (qz U2)))
 (pF (qr v0 (qP Z' (yh (ix:=[Db,Db]) (N':=["on","wish"])) (qL U3) (ve (n:=2) Z' (qF (qM 0) (qF (qM 1) ub))) se (pP (Ig G) r G.bj (qz U1))))
 (pF (qr v0 (qP Z' (yh (ix:=[Db,Db]) (N':=["on","wish"])) (qL U3) (ve (n:=2) Z' (qF (qM 0) (qF (qM 1) ub))) se v0))
 (pF (qr v0 (qp (FZ Z') Z' G.b3 FX (qz (qP Z' (yh (ix:=[Db]) (N':=["phone"])) (qL U1) (qM 0) se (pW (rQ (pS v0 pI) v0))))))
 (pG (qr v0 (qp (FZ Z') Z' G.b3 FX (qz (qP Z' (yh (ix:=[Db]) (N':=["group"])) (qL U2) (qM 0) se (pW (rQ (pS v0 pI) v0))))))))))))),?_⟩)
 rintro ds M Q ⟨p,r1,r2,r3,l,rfl,hp,h1,h2,h3,ok,q⟩
 have hz:=dR;have l1:=ok.p8;have l2:=ok.g3;have l3:=ok.pq;refine⟨r1,r2,r3,l,Z',h1,h2,h3,ok,?_⟩;refine i' h1 λph hph=>?_;obtain⟨n1,e1,k1,c1,p1⟩:=tJ (fs':=[("phones",.ref ph)]) (c:=.lst (l.mV.map rD)) hp hph;refine pH e1 ⟨(G.ab "phones" Z'),by show 0<1000;decide,?_⟩;show uR _ _ _ _ (pQ (pQ M ph (.lst (l.mV.map rD))) p (.ins a.h [("phones",.ref ph)]));generalize pQ (pQ M ph (.lst (l.mV.map rD))) p (.ins a.h [("phones",.ref ph)])=N1 at k1 c1 p1 ⊢;have Yz:=k1.lst (qd h1 hp) h1;have h2':=k1.lst (qd h2 hp) h2;have h3':=k1.lst (qd h3 hp) h3;have f1:oN N1 ph=Fa (l.mV.map rD):=tD c1;refine i' h2' λgr hgr=>?_;obtain⟨n2,e2,k2,c2,p2⟩:=tJ (fs':=[("phones",.ref ph),("groups",.ref gr)]) (c:=.lst (l.groups.map rL)) p1 hgr;refine pH e2 ⟨(G.ab "groups" Z'),by show 1<1000;decide,?_⟩;show uR _ _ _ _ (pQ (pQ N1 gr (.lst (l.groups.map rL))) p (.ins a.h [("phones",.ref ph),("groups",.ref gr)]));generalize pQ (pQ N1 gr (.lst (l.groups.map rL))) p (.ins a.h [("phones",.ref ph),("groups",.ref gr)])=N2 at k2 c2 p2 ⊢;have g1:=k2.lst (qd Yz p1) Yz;have g2:=k2.lst (qd h2' p1) h2';have g3:=k2.lst (qd h3' p1) h3';have f2:=k2.lst (qd f1 p1) f1;have f3:oN N2 gr=Fa (l.groups.map rL):=tD c2;have kk2:=k1.trans k2;have m2:M gr=Db:=rR k1 p1 hgr;clear Yz h2' h3' f1 c1 c2 k1 k2 e1 e2;refine i' g3 ?_;refine BH (l.mU.map xC) (λpre acc U Mx=>(∃x y,U=[x,y])/\qO N2 Mx/\∃rs:QXQ,acc=rs.map D.ref/\(∀r∈rs,N2 r=Db)/\sW a Mx rs (l.mU.take pre.length)) (λpre acc U Mx j=>j.2.1.lst g3) _ [] [] _ _ Z' (by rw[de];simp only[dS];lia) ⟨⟨Db,Db,Z'⟩,.refl,[],Z',λr hr=>absurd hr (dQ),Z',λi r v e=>by simp at e⟩ ?_ ?_
 .rintro pre d post e acc U Mx ⟨⟨x,y,rfl⟩,sx,rs,rfl,fr,wa⟩ k hk
  obtain⟨v,hv,rfl⟩:∃v,l.mU[pre.length]?=Fa v/\d=xC v:=by
   have:(l.mU.map xC)[pre.length]?=Fa d:=by rw[<-e];simp
   rw[dM]at this;cases z:l.mU[pre.length]? with
   | none=>rw[z]at this;cases this
   | some v=>rw[z]at this;exact⟨v,Z',(dD this).symm⟩
  refine⟨Z',⟨v.2,Z',λr hr=>hk _ _ _ ⟨⟨_,_,Z'⟩,sx.trans (.new hr),rs++[r],?_,λr' hr'=>?_,?_⟩⟩⟩
  .rw[dZ];rfl
  .rcases eF.mp hr' with z|z
   .exact fr r' z
   .rw[dI.mp z];exact sx.none hr
  .rw[dq,dX,ii,hv];exact wa.snoc hr
 rintro acc U Mx ⟨⟨x,y,rfl⟩,sx,rs,rfl,fr,wa⟩ ws hws
 have wa:sW a Mx rs l.mU:=by rw[de,fA]at wa;exact wa
 obtain⟨n3,e3,k3,c3,p3⟩:=tJ (fs':=[("phones",.ref ph),("groups",.ref gr),("wishes",.ref ws)]) (c:=.lst (rs.map D.ref)) (sx _ _ p2) hws;refine pH e3 ⟨(G.ab "wishes" Z'),by show 2<1000;decide,?_⟩;show uR _ _ _ _ (pQ (pQ Mx ws (.lst (rs.map D.ref))) p (.ins a.h [("phones",.ref ph),("groups",.ref gr),("wishes",.ref ws)]));generalize pQ (pQ Mx ws (.lst (rs.map D.ref))) p (.ins a.h [("phones",.ref ph),("groups",.ref gr),("wishes",.ref ws)])=N3 at k3 c3 p3 ⊢;have px:=sx _ _ p2;have i1:=k3.lst (qd (sx.lst g1) px) (sx.lst g1);have i2:=k3.lst (qd (sx.lst g2) px) (sx.lst g2);have i3:=k3.lst (qd (sx.lst g3) px) (sx.lst g3);have f4:=k3.lst (qd (sx.lst f2) px) (sx.lst f2);have f5:=k3.lst (qd (sx.lst f3) px) (sx.lst f3);have f6:oN N3 ws=Fa (rs.map D.ref):=tD c3;have rp:∀r∈rs,r≠p:=λr hr z=>by have:=fr r hr;rw[z,p2]at this;cases this
 have w3:=wa.keep k3 rp;have kk3:=(kk2.trans sx.keep).trans k3;have m3:M ws=Db:=rR (kk2.trans sx.keep) px hws;have mr:∀r∈rs,M r=Db:=λr hr=>rR kk2 p2 (fr r hr);clear g1 g2 g3 f2 f3 c3 k3 e3 wa px kk2;refine i' i3 (Cj (f:=Xl) (λU=>∃x y,U=[x,y]) i3 _ [] _ ⟨Db,Db,Z'⟩ (by rw[de];simp only[dS];lia) (λd hd U hj k hk=>?_) λon hon=>?_)
 .obtain⟨x,y,rfl⟩:=hj;obtain⟨v,_,rfl⟩:=dJ.mp hd;exact⟨Z',hk _ ⟨_,_,Z'⟩⟩
 rw[eB,RO];obtain⟨n4,e4,k4,c4,p4⟩:=tJ (fs':=[("phones",.ref ph),("groups",.ref gr),("wishes",.ref ws),("on",.ref on)]) (c:=.lst (l.mU.map λw=>D.bl w.1)) p3 hon;refine pH e4 ⟨(G.ab "on" Z'),by show 3<1000;decide,?_⟩;show uR _ _ _ _ (pQ (pQ N3 on (.lst (l.mU.map λw=>D.bl w.1))) p (.ins a.h [("phones",.ref ph),("groups",.ref gr),("wishes",.ref ws),("on",.ref on)]));generalize pQ (pQ N3 on (.lst (l.mU.map λw=>D.bl w.1))) p (.ins a.h [("phones",.ref ph),("groups",.ref gr),("wishes",.ref ws),("on",.ref on)])=N4 at k4 c4 p4 ⊢;have j1:=k4.lst (qd i1 p3) i1;have j2:=k4.lst (qd i2 p3) i2;have f7:=k4.lst (qd f4 p3) f4;have f8:=k4.lst (qd f5 p3) f5;have f9:=k4.lst (qd f6 p3) f6;have fa:oN N4 on=Fa (l.mU.map λw=>D.bl w.1):=tD c4;have w4:=w3.keep k4 rp;have ZQ:=kk3.trans k4;have m4:M on=Db:=rR kk3 p3 hon;clear i1 i2 i3 f4 f5 f6 c4 k4 e4 w3 kk3;refine i' j1 (rA (f:=BG) j1 _ [] _ (by rw[de];simp only[dS];lia) (λd hd k hk=>?_) λq1 YR=>?_)
 .obtain⟨v,_,rfl⟩:=dJ.mp hd;exact⟨pD Z',hk⟩
 rw[eB,Gk];have sq1:=qO.new (c:=.lst (l.mV.map λp=>D.tup [.str p.1,rD p])) YR;refine i' pT (i' (wX (λp:uL=>p.1) rD l.mV) ⟨za (iN (List.sublist_append_left _ _) ok.nd),λpr hpr=>?_⟩);obtain⟨n5,e5,k5,c5,p5⟩:=tJ (fs':=[("phones",.ref ph),("groups",.ref gr),("wishes",.ref ws),("on",.ref on),("phone_rows",.ref pr)]) (c:=.dk (l.mV.map λx=>(Sum.inr x.1,rD x))) (sq1 _ _ p4) hpr;refine pH e5 ⟨(G.ab "phone_rows" Z'),by show 4<1000;decide,?_⟩;have k5:=sq1.keep.trans k5;have ZH:wj "phone_rows" (.ref pr) [("phones",.ref ph),("groups",.ref gr),("wishes",.ref ws),("on",.ref on)]=([("phones",.ref ph),("groups",.ref gr),("wishes",.ref ws),("on",.ref on),("phone_rows",.ref pr)]:T0 (Str×D)):=rfl;rw[ZH];generalize pQ (pQ (pQ N4 q1 (.lst (l.mV.map λp=>D.tup [.str p.1,rD p]))) pr (.dk (l.mV.map λx=>(Sum.inr x.1,rD x)))) p (.ins a.h [("phones",.ref ph),("groups",.ref gr),("wishes",.ref ws),("on",.ref on),("phone_rows",.ref pr)])=N5 at k5 c5 p5 ⊢;have mm:=k5.lst (qd j2 p4) j2;have fb:=k5.lst (qd f7 p4) f7;have fc:=k5.lst (qd f8 p4) f8;have fd:=k5.lst (qd f9 p4) f9;have fe:=k5.lst (qd fa p4) fa;have ff:zr N5 pr=Fa (R4 l):=Ew c5;have w5:=w4.keep k5 rp;have ZR:=ZQ.trans k5;have m5:M pr=Db:=rR (ZQ.trans sq1.keep) (sq1 _ _ p4) hpr;clear j1 j2 f7 f8 f9 fa c5 k5 e5 w4 ZQ;refine i' mm (rA (f:=BG) mm _ [] _ (by rw[de];simp only[dS];lia) (λd hd k hk=>?_) λq2 Z6=>?_)
 .obtain⟨v,_,rfl⟩:=dJ.mp hd;exact⟨pD Z',hk⟩
 rw[eB,He];have sq2:=qO.new (c:=.lst (l.groups.map λg=>D.tup [.str g.1,rL g])) Z6;refine i' pT (i' (wX (λp:uE=>p.1) rL l.groups) ⟨za (iN (jP _ _) ok.nd),λgd hgd=>?_⟩);obtain⟨n6,e6,k6,c6,p6⟩:=tJ (fs':=Rp ph gr ws on pr gd) (c:=.dk (H9 l)) (sq2 _ _ p5) hgd;have k6:=sq2.keep.trans k6;refine pH e6 ⟨(G.ab "group_rows" Z'),by show 5<1000;decide,_,.refl,?_⟩;have m6:M gd=Db:=rR (ZR.trans sq2.keep) (sq2 _ _ p5) hgd;have w6:=w5.keep k6 rp;have y1:=k6.lst (qd fb p5) fb;have y2:=k6.lst (qd fc p5) fc;have y3:=k6.lst (qd fd p5) fd;have y4:=k6.lst (qd fe p5) fe;have y5:=k6.dk (C5 ff p5) ff;refine q _ (ZR.trans k6) ⟨ph,gr,ws,on,pr,gd,rs,p6,y1,y2,y3,y4,y5,Ew c6,w6⟩ λXU hs=>?_;exact⟨ph,gr,ws,on,pr,gd,rs,hs _ _ (.inl Z') p6,tD (hs _ _ (.inr hph) (qE y1)),tD (hs _ _ (.inr m2) (qE y2)),tD (hs _ _ (.inr m3) (qE y3)),tD (hs _ _ (.inr m4) (qE y4)),Ew (hs _ _ (.inr m5) (zD y5)),Ew (hs _ _ (.inr m6) c6),w6.1,λi r v e1 e2=>hs _ _ (.inr (mr r (fD e1))) (w6.2 i r v e1 e2)⟩
theorem yr{α:Type}(f:α->Str)(g:α->D)(k:Str):∀l:List α,vQ (l.map λx=>((Sum.inr (f x):rm),g x)) (Sum.inr k)=(l.find? λx=>decide (f x=k)).map g
 | []=>rfl
 | x::r=>by
  have ih:=yr f g k r;unfold vQ at ih ⊢;rw[eh,fN,fN];by_cases h:f x=k
  .have h':decide ((Sum.inr (f x):rm)=Sum.inr k)=pc:=eA (by rw[h]);simp[h]
  .have h':¬(Sum.inr (f x):rm)=Sum.inr k:=λz=>h (kr z);simp only[h,h',decide_false];exact ih
noncomputable def pR.nB(l:pR)(x:Str):Option uL:=l.mV.find? λp=>decide (p.1=x)
noncomputable def pR.group(l:pR)(x:Str):Option uE:=l.groups.find? λg=>decide (g.1=x)
noncomputable def pR.mS(l:pR)(x:Str):QQQ:=(l.group x).elim [x] λg=>g.2.2
noncomputable def pR.m9(l:pR)(x:Str):Str:=(l.group x).elim "one" λg=>g.2.1
def GX(l:pR)(x:Str):vQ (R4 l) (Sum.inr x)=(l.nB x).map rD:=yr (λp:uL=>p.1) rD x l.mV
def wJ(l:pR)(x:Str):vQ (H9 l) (Sum.inr x)=(l.group x).map rL:=yr (λp:uE=>p.1) rL x l.groups
def yP(a:Ad):rB:=λds M Q=>z9 λp (l:pR)=>ds=[.ref p]/\tW a M p l/\l.mV.length<=100/\∀q,M q=Db->Q (.ref q) (pQ M q (.lst (l.pn.map D.str)))
def FI(a:Ad):rB:=λds M Q=>z9 λp (l:pR)=>ds=[.ref p]/\tW a M p l/\l.mV.length<=100/\l.groups.length<=100/\∀q,M q=Db->Q (.ref q) (pQ M q (.lst (l.nm.map D.str)))
def F4(a:Ad):rB:=λds M Q=>Au λp x v (l:pR)=>ds=[.ref p,.str x]/\tW a M p l/\l.nB x=Fa v/\Q (.int v.2.1) M
def Gx(a:Ad):rB:=λds M Q=>Au λp x v (l:pR)=>ds=[.ref p,.str x]/\tW a M p l/\l.nB x=Fa v/\Q (.int v.2.2) M
def Av(a:Ad):rB:=λds M Q=>Di λp x (l:pR)=>ds=[.ref p,.str x]/\tW a M p l/\∀q,M q=Db->Q (.ref q) (pQ M q (.lst ((l.mS x).map D.str)))
def Dq(a:Ad):rB:=λds M Q=>Di λp x (l:pR)=>ds=[.ref p,.str x]/\tW a M p l/\Q (.str (l.m9 x)) M
def uk:Fq P w K mg base 1 a.T (yP a):=by
 refine fq G.T.toDG yD (λr u=>⟨_,(pG (pL (qP Z' (yh (ix:=[Db]) (N':=["phone"])) (qL (pK v0)) (qM 0) se (pS v0 pI)))),?_⟩)
 rintro ds M Q ⟨p,l,rfl,hp,hl,q⟩
 have hz:=dR;obtain⟨ph,gr,ws,on,pr,gd,rs,h1,h2,h3,h4,h5,h6,h7,h8⟩:=hp;refine pH h1 (i' Z' (i' h2 ?_));refine rA (f:=Bg) h2 _ [] _ (by rw[de];simp only[dS];lia) (λd hd k hk=>?_) λq1 YR=>?_
 .obtain⟨x,_,rfl⟩:=dJ.mp hd;exact hk
 rw[eB,xn];exact⟨_,.refl,q q1 YR⟩
def Dn:Fq P w K mg base 2 a.bI (FI a):=by
 refine fq G.bI.toDG DQ (λr u=>⟨_,(pG (pL (qe (yz v0 G.h.toCls G.T (uk G) r) (qP Z' (yh (ix:=[Db]) (N':=["group"])) (qL (pK v0)) (qM 0) se (pS v0 pI))))),?_⟩)
 rintro ds M Q ⟨p,l,rfl,hp,hl,hl2,q⟩
 have hz:=dR;have X9:=hp;obtain⟨ph,gr,ws,on,pr,gd,rs,h1,h2,h3,h4,h5,h6,h7,h8⟩:=hp;refine pH h1 ⟨Z',_,⟨Z',Z'⟩,p,l,Z',X9,hl,λq1 YR=>?_⟩;obtain⟨M1,e0,s1,e1⟩:=xl (ds:=l.pn.map D.str) YR;rw[<-e0];have h3':=s1.lst h3;refine pH (s1 _ _ h1) (i' Z' (i' h3' ?_));refine rA (f:=Bg) h3' _ [] _ (by rw[de];simp only[dS];lia) (λd hd k hk=>?_) λq2 Z6=>?_
 .obtain⟨x,_,rfl⟩:=dJ.mp hd;exact hk
 rw[eB,xq];have s2:=qO.new (c:=.lst ((l.groups.map (·.1)).map D.str)) Z6;refine i' (s2.lst e1) (i' pT ⟨?_,λq3 hq3=>?_⟩)
 .rw[de,de,de];show(l.mV.map (·.1)).length+_<=_;rw[de];lia
 have en:l.pn.map D.str++(l.groups.map (·.1)).map D.str=l.nm.map D.str:=by unfold pR.nm;rw[dZ];rfl
 rw[en];exact⟨_,(s1.trans s2).upd,q q3 ((s1.trans s2).none hq3)⟩
def DN:Fq P w K mg base 1 a.bM (F4 a):=by
 refine fq G.bM.toDG DS (λr u=>⟨_,(pG (pL (pS (zJ u (pK v0) U1) pI))),?_⟩)
 rintro ds M Q ⟨p,x,v,l,rfl,hp,hv,q⟩
 obtain⟨ph,gr,ws,on,pr,gd,rs,h1,h2,h3,h4,h5,h6,h7,h8⟩:=hp;exact pH h1 (i' Z' (i' Z' (i' h6 (i' (x:=rD v) (by rw[GX,hv];rfl) ⟨M,.refl,q⟩))))
def zS:Fq P w K mg base 1 a.aR (Gx a):=by
 refine fq G.aR.toDG E5 (λr u=>⟨_,(pG (pL (pS (zJ u (pK v0) U1) pI))),?_⟩)
 rintro ds M Q ⟨p,x,v,l,rfl,hp,hv,q⟩
 obtain⟨ph,gr,ws,on,pr,gd,rs,h1,h2,h3,h4,h5,h6,h7,h8⟩:=hp;exact pH h1 (i' Z' (i' Z' (i' h6 (i' (x:=rD v) (by rw[GX,hv];rfl) ⟨M,.refl,q⟩))))
def uI:Fq P w K mg base 1 a.Z (Av a):=by
 refine fq G.Z.toDG zX (λr u=>⟨_,(pF (pV (MC u U1 (pK v0))
 (pG (pL (qp tO Z' G.z tK (qz (pS (zJ u (pK v0) U1) pI)))))
 pO)
 (pG (pL (qW (qz U1))))),?_⟩)
 rintro ds M Q ⟨p,x,l,rfl,hp,q⟩
 obtain⟨ph,gr,ws,on,pr,gd,rs,h1,h2,h3,h4,h5,h6,h7,h8⟩:=hp;refine pH h1 (i' Z' (i' h7 ?_));cases e:l.group x with
 | none=>refine Nt (c:=(vQ (H9 l) (Sum.inr x)).isSome) (by rw[wJ,e];rfl) ⟨pD Z',λq1 YR=>⟨_,.refl,?_⟩⟩;have:=q q1 YR;unfold pR.mS at this;rw[e]at this;exact this
 | some g=>refine A9 (c:=(vQ (H9 l) (Sum.inr x)).isSome) (by rw[wJ,e];rfl) (pH h1 (i' Z' (i' Z' (i' h7 (i' (x:=rL g) (by rw[wJ,e];rfl) λq1 YR=>⟨_,.refl,?_⟩)))));have:=q q1 YR;unfold pR.mS at this;rw[e]at this;exact this
def yg:Fq P w K mg base 1 a.aP (Dq a):=by
 refine fq G.aP.toDG BW (λr u=>⟨_,(pF (pV (MC u U1 (pK v0))
 (pG (pL (pS (zJ u (pK v0) U1) pI)))
 pO)
 (pG (pL pJ))),?_⟩)
 rintro ds M Q ⟨p,x,l,rfl,hp,q⟩
 obtain⟨ph,gr,ws,on,pr,gd,rs,h1,h2,h3,h4,h5,h6,h7,h8⟩:=hp;refine pH h1 (i' Z' (i' h7 ?_));cases e:l.group x with
 | none=>refine Nt (c:=(vQ (H9 l) (Sum.inr x)).isSome) (by rw[wJ,e];rfl) ⟨M,.refl,?_⟩;unfold pR.m9 at q;rw[e]at q;exact q
 | some g=>refine A9 (c:=(vQ (H9 l) (Sum.inr x)).isSome) (by rw[wJ,e];rfl) (pH h1 (i' Z' (i' Z' (i' h7 (i' (x:=rL g) (by rw[wJ,e];rfl) ⟨M,.refl,?_⟩)))));unfold pR.m9 at q;rw[e]at q;exact q
noncomputable def PD:T0 Int:=[1,1,2,2,3]
noncomputable def OG:T0 Int:=[0,1,1,2,5,9]
noncomputable def Q7:QQQ:=["all","turns"]
noncomputable def Hy(t:T0 Int)(i:Int):Int:=t.getD i.toNat 0
def ww(s:Int)(i:Nat):uL:=(xM s (0+(i:Nat)),Hy PD (draw (s+17*(0+(i:Nat))*(0+(i:Nat))) 16807 5),Hy OG (draw (s+17*(0+(i:Nat))*(0+(i:Nat))) 39373 6))
def rV(s m:Int):Nat:=(2+draw s 48271 (m - 1)).toNat
def qJ(s m:Int):List uL:=(List.range (rV s m)).map (ww s)
def Ao(s:Int)(own:QQQ)(i:Nat):uE:=(xM s (8+(0+(i:Nat))),CD Q7 (draw (s+5*(0+(i:Nat))) 742938285 2),wg own (s+11*(0+(i:Nat))) 4)
def vW(s:Int):Nat:=(draw s 69621 3).toNat
def rE(s:Int)(own:QQQ):List uE:=(List.range (vW s)).map (Ao s own)
def Hg{ts:T0 Int}{i:Int}(h0:0<=i)(h1:i<ts.length):wO (ts.map D.int) i=Fa (D.int (Hy ts i)):=by
 obtain⟨n,rfl⟩:=eI h0;have Zo:n<ts.length:=by lia
 refine u9 ?_;rw[dM,dg Zo];simp[Hy,Zo]
def De{pre post:T0 D}{d:D}(e:pre++d::post=(List.range n).map λi=>D.int (0+(i:Nat))):d=.int (0+(pre.length:Nat))/\pre.length<n:=by
 have h:((List.range n).map λi=>D.int (0+(i:Nat)))[pre.length]?=Fa d:=by rw[<-e];simp
 have hl:pre.length<n:=by
  have:=(dv.mp h).1
  simpa using this
 rw[dM,kY hl]at h;exact⟨(dD h).symm,hl⟩
def B'{α β:Type}(f:Nat->α)(g:α->β)(n:Nat):((List.range n).map f).map g++[g (f n)]=((List.range (n+1)).map f).map g:=by rw[jj,dZ,dZ];rfl
def IE:rB:=λds M Q=>z9 λs m=>ds=[.int s,.int m]/\2<=m/\m<=100/\∀q,M q=Db->Q (.ref q) (pQ M q (.lst ((qJ s m).map rD)))
def HU:rB:=λds M Q=>Di λs o own=>ds=[.int s,.ref o]/\oN M o=Fa (own.map D.str)/\own≠[]/\own.length<=64/\∀q,M q=Db->Q (.ref q) (pQ M q (.lst ((rE s own).map rL)))
def xo{s m:Int}(h2:2<=m)(h:m<=100):rV s m<=100/\2<=rV s m:=by have d0:=rj (c:=s) (f:=48271) (m:=m - 1) (by lia);have d1:=qU (c:=s) (f:=48271) (m:=m - 1) (by lia);unfold rV;lia
def wY{s:Int}:vW s<=3:=by have d0:=rj (c:=s) (f:=69621) (m:=3) (by decide);have d1:=qU (c:=s) (f:=69621) (m:=3) (by decide);unfold vW;lia
def Ir:Fq P w K mg base 2 a.bq IE:=by
 refine fq G.bq.toDG uX (λr u=>⟨_,(pF (pU 2 uX (qW tI))
 (pF (uP ft Z' (wN Z' G.aV (qz (qe pI (pP (qR G) r G.i (rc v0 pI (qe U1 pI)))))) (rC 3 uX)
 (pF (pU 4 uX (pS (pW (qg pI (qg pI (rc pI pI pI)))) (pP (qR G) r G.i (rc (qe v0 (qe (qe pI U3) U3)) pI pI))))
 (pG (pY (r6 U2 (qz (pW (rc (pP (JI G) r G.ai (rQ v0 U3)) v4 (pS (pW (qg pI (qg pI (qg pI (rc pI pI pI))))) (pP (qR G) r G.i (rc (qe v0 (qe (qe pI U3) U3)) pI pI)))))))))))
 (pG (pL U2)))),?_⟩)
 rintro ds M Q ⟨s,m,rfl,h2,h100,q⟩
 have hz:=dR;have d0:=rj (c:=s) (f:=48271) (m:=m - 1) (by lia);have d1:=qU (c:=s) (f:=48271) (m:=m - 1) (by lia);have nl:=(xo (s:=s) h2 h100).1;refine⟨pD Z',λr hr=>⟨s,_,_,Z',by show 0<m - 1;lia,Z',⟨?_,?_⟩,?_⟩⟩
 .show -(2 ^ 62)<=2+draw s 48271 (m - 1);lia
 .show 2+draw s 48271 (m - 1)<2 ^ 62;lia
 refine vN ((List.range (rV s m)).map λi=>D.int (0+(i:Nat))) (λpre U M'=>M'=pQ M r (.lst (((List.range pre.length).map (ww s)).map rD))/\∃x y,U=[Fa (.int s),Fa (.int m),Fa (.ref r),x,y]) (λ_ _ _ _=>trivial) _ [] _ _ Z' ⟨Z',Db,Db,Z'⟩ ?_ ?_
 .rintro pre d post e U M' ⟨rfl,x,y,rfl⟩ nx X0
  obtain⟨rfl,X3⟩:=De e;generalize hi:pre.length=i at X3 X0 ⊢;have cm:DC (17*(0+(i:Int))) (0+(i:Int)):=.inr ⟨by lia,by lia⟩;have c17:DC 17 (0+(i:Int)):=.inl ⟨by decide,by decide⟩;have t5:wO [D.int 1,.int 1,.int 2,.int 2,.int 3] (draw (s+17*(0+(i:Int))*(0+(i:Int))) 16807 5)=Fa (.int (ww s i).2.1):=Hg (ts:=PD) (rj (by decide)) (qU (by decide));have t6:wO [D.int 0,.int 1,.int 1,.int 2,.int 5,.int 9] (draw (s+17*(0+(i:Int))*(0+(i:Int))) 39373 6)=Fa (.int (ww s i).2.2):=Hg (ts:=OG) (rj (by decide)) (qU (by decide));refine⟨pD Z',c17,cm,_,_,_,Z',by decide,i' t5 ?_⟩;refine⟨by show(oN _ r).isSome=pc;rw[pT];rfl,s,_,Z',pD Z',c17,cm,_,_,_,Z',by decide,i' t6 ⟨pD Z',i' pT ⟨?_,?_⟩⟩⟩
  .rw[de,de,eM];lia
  .refine X0 _ _ ⟨?_,_,_,Z'⟩;rw[rY,dq,hi];show pQ M r (.lst (_++[rD (ww s i)]))=_;rw[B'];rfl
 .rintro U M' ⟨rfl,x,y,rfl⟩
  refine⟨_,.refl,?_⟩;rw[de,eM];exact q r hr
def IX:Fq P w K mg base 3 a.br HU:=by
 refine fq G.br.toDG uY (λr u=>⟨_,(pF (pU 2 uY (qW tI))
 (pF (uP ft Z' (wN Z' G.aV (qz (pP (qR G) r G.i (rc v0 pI pI)))) (rC 3 uY)
 (pF (pU 4 uY (pS (pW (rQ pJ pJ)) (pP (qR G) r G.i (rc (qe v0 (qe pI U3)) pI pI))))
 (pG (pY (r6 U2 (qz (pW (rc (pP (JI G) r G.ai (rQ v0 (qe pI U3))) v4 (pP (yC G) r G.R (rc U1 (qe v0 (qe pI U3)) pI))))))))))
 (pG (pL U2)))),?_⟩)
 rintro ds M Q ⟨s,o,own,rfl,ho,Yc,h64,q⟩
 have hz:=dR;have d0:=rj (c:=s) (f:=69621) (m:=3) (by decide);have d1:=qU (c:=s) (f:=69621) (m:=3) (by decide);have nl:=wY (s:=s);refine⟨pD Z',λr hr=>⟨s,_,_,Z',by decide,Z',⟨?_,?_⟩,?_⟩⟩
 .show -(2 ^ 62)<=draw s 69621 3;lia
 .show draw s 69621 3<2 ^ 62;lia
 have nor:o≠r:=λz=>by rw[z]at ho;unfold oN at ho;rw[hr]at ho;cases ho
 refine vN ((List.range (vW s)).map λi=>D.int (0+(i:Nat))) (λpre U M'=>M'=pQ M r (.lst (((List.range pre.length).map (Ao s own)).map rL))/\∃x y,U=[Fa (.int s),Fa (.ref o),Fa (.ref r),x,y]) (λ_ _ _ _=>trivial) _ [] _ _ Z' ⟨Z',Db,Db,Z'⟩ ?_ ?_
 .rintro pre d post e U M' ⟨rfl,x,y,rfl⟩ nx X0
  obtain⟨rfl,X3⟩:=De e;generalize hi:pre.length=i at X3 X0 ⊢;have c5:DC 5 (0+(i:Int)):=.inl ⟨by decide,by decide⟩;have c11:DC 11 (0+(i:Int)):=.inl ⟨by decide,by decide⟩;have tm:wO [D.str "all",.str "turns"] (draw (s+5*(0+(i:Int))) 742938285 2)=Fa (.str (Ao s own i).2.1):=IR (row:=Q7) (rj (by decide)) (qU (by decide));have Yw:oN (pQ M r (.lst (((List.range i).map (Ao s own)).map rL))) o=Fa (own.map D.str):=by unfold oN;rw[sU nor];exact ho
  refine⟨pD Z',c5,_,_,_,Z',by decide,i' tm ?_⟩;refine⟨by show(oN _ r).isSome=pc;rw[pT];rfl,s,_,Z',c11,o,_,_,own,Z',Yw,Yc,by decide,h64,pD Z',i' pT ⟨?_,?_⟩⟩
  .rw[de,de,eM];lia
  .refine X0 _ _ ⟨?_,_,_,Z'⟩;rw[rY,dq,hi];show pQ M r (.lst (_++[rL (Ao s own i)]))=_;rw[B'];rfl
 .rintro U M' ⟨rfl,x,y,rfl⟩
  refine⟨_,.refl,?_⟩;rw[de,eM];exact q r hr
def JW(ns:T0 Int)(own nm:QQQ)(i:Nat):vJ:=(decide (0<draw (cell ns (1+(0+(i:Nat)))+31*(0+(i:Nat))*(0+(i:Nat))) 22695477 6),wG (cell ns (1+(0+(i:Nat)))+31*(0+(i:Nat))*(0+(i:Nat))) own nm)
def xb(s:Int):Nat:=(draw s 950706376 11).toNat
def vF(ns:T0 Int)(m:Int):pR:=
 let s:=cell ns 0;let own:=(qJ s m).map (·.1);let gs:=rE s own
 ⟨qJ s m,gs,(List.range (xb s)).map (JW ns own (own++gs.map (·.1)))⟩
def LK:rB:=λds M Q=>z9 λns m=>ds=[.rl (ns.map D.int),.int m]/\2<=m/\m<=8/\∀r1 r2 r3 M',qO M M'->oN M' r1=Fa ((vF ns m).mV.map rD)->oN M' r2=Fa ((vF ns m).groups.map rL)->oN M' r3=Fa ((vF ns m).mU.map xC)->Q (.tup [.ref r1,.ref r2,.ref r3]) M'
def Nj:Fq P w K mg base 4 a.bt LK:=by
 refine fq G.bt.toDG sP (λr u=>⟨_,(pF (pU 2 sP (pP (ME G) r G.Q (rQ v0 pI)))
 (pF (pU 3 sP (pP (Ir G) r G.bq (rQ U2 U1)))
 (pF (vH (i:=4) sP.nd Z' (Or.inl Z') Z' (yh (ix:=[Db]) (N':=["_law_phone"])) (qL U3) (qM 0) se (pS v0 pI))
 (pF (pU 5 sP (pP (IX G) r G.br (rQ U2 v4)))
 (pF (pU 6 sP (qe v4 (qP Z' (yh (ix:=[Db]) (N':=["_law_group"])) (qL v5) (qM 0) se (pS v0 pI))))
 (pF (pU 7 sP (qW tI))
 (pF (uP ft Z' (wN Z' G.aV (qz (pP (qR G) r G.i (rc U2 pI pI)))) (rC 8 sP)
 (pF (pU 9 sP (qe (pP (ME G) r G.Q (rQ v0 (qe pI v8))) (qe (qe pI v8) v8)))
 (pG (pY (r6 v7 (qz (pW (rQ (ql u (pP (qR G) r G.i (rc v9 pI pI)) pI) (pP (Pf G) r G.bs (rc v9 v4 v6))))))))))
 (pG (pL (pW (rc U3 v5 v7))))))))))),?_⟩)
 rintro ds M Q ⟨ns,m,rfl,h2,h8,q⟩
 have hz:=dR;have pl:=xo (s:=cell ns 0) h2 (by lia);have p8:rV (cell ns 0) m<=8:=by have d1:=qU (c:=cell ns 0) (f:=48271) (m:=m - 1) (by lia);unfold rV;lia
 have gl:=wY (s:=cell ns 0);have lp:(qJ (cell ns 0) m).length=rV (cell ns 0) m:=by unfold qJ;rw[de,eM]
 refine⟨ns,0,Z',cell ns 0,m,Z',h2,by lia,λr1 YA=>?_⟩;obtain⟨M1,e0,s1,a1⟩:=xl (ds:=(qJ (cell ns 0) m).map rD) YA;rw[<-e0];refine i' a1 (rA (f:=Bg) a1 _ [] _ (by rw[de];simp only[dS];lia) (λd hd k hk=>?_) λo ho=>?_)
 .obtain⟨x,_,rfl⟩:=dJ.mp hd;exact hk
 rw[eB,xn];have s2:=s1.trans (qO.new (c:=.lst (((qJ (cell ns 0) m).map (·.1)).map D.str)) ho);have b1:=(qO.new (c:=.lst (((qJ (cell ns 0) m).map (·.1)).map D.str)) ho).lst a1;have bo:=@pT M1 o (((qJ (cell ns 0) m).map (·.1)).map D.str);generalize pQ M1 o (.lst (((qJ (cell ns 0) m).map (·.1)).map D.str))=M2 at s2 b1 bo ⊢;have ol:((qJ (cell ns 0) m).map (·.1)).length=rV (cell ns 0) m:=by rw[de,lp]
 have one:(qJ (cell ns 0) m).map (·.1)≠[]:=λz=>by rw[z]at ol;have:0=rV (cell ns 0) m:=ol;lia
 have X9:vF ns m=⟨qJ (cell ns 0) m,rE (cell ns 0) ((qJ (cell ns 0) m).map (·.1)),(List.range (xb (cell ns 0))).map (JW ns ((qJ (cell ns 0) m).map (·.1)) ((qJ (cell ns 0) m).map (·.1)++(rE (cell ns 0) ((qJ (cell ns 0) m).map (·.1))).map (·.1)))⟩:=rfl;rw[X9]at q;generalize (qJ (cell ns 0) m).map (·.1)=own at bo ol one q ⊢;refine⟨cell ns 0,o,own,Z',bo,one,by lia,λr2 Zu=>?_⟩;obtain⟨M3,e0,t3,c2⟩:=xl (ds:=(rE (cell ns 0) own).map rL) Zu;rw[<-e0];have c1:=t3.lst b1;have co:=t3.lst bo;have s3:=s2.trans t3;have gll:(rE (cell ns 0) own).length=vW (cell ns 0):=by unfold rE;rw[de,eM]
 refine i' c2 (rA (f:=Bg) c2 _ [] _ (by rw[de];simp only[dS];lia) (λd hd k hk=>?_) λx4 hx4=>?_)
 .obtain⟨x,_,rfl⟩:=dJ.mp hd;exact hk
 rw[eB,xq];have t4:=qO.new (c:=.lst (((rE (cell ns 0) own).map (·.1)).map D.str)) hx4;refine i' (t4.lst co) (i' pT ⟨?_,λn hn=>?_⟩)
 .rw[de,de,de];lia
 have en:own.map D.str++((rE (cell ns 0) own).map (·.1)).map D.str=(own++(rE (cell ns 0) own).map (·.1)).map D.str:=by rw[dZ]
 rw[en];have nl:(own++(rE (cell ns 0) own).map (·.1)).length=rV (cell ns 0) m+vW (cell ns 0):=by rw[dq,de,ol,gll]
 have t5:=t4.trans (qO.new (c:=.lst ((own++(rE (cell ns 0) own).map (·.1)).map D.str)) hn);have en5:=@pT (pQ M3 x4 (.lst (((rE (cell ns 0) own).map (·.1)).map D.str))) n ((own++(rE (cell ns 0) own).map (·.1)).map D.str);have e1:=t5.lst c1;have e2:=t5.lst c2;have eo:=t5.lst co;have s5:=s3.trans t5;generalize pQ (pQ M3 x4 (.lst (((rE (cell ns 0) own).map (·.1)).map D.str))) n (.lst ((own++(rE (cell ns 0) own).map (·.1)).map D.str))=M5 at s5 e1 e2 eo en5 ⊢;generalize own++(rE (cell ns 0) own).map (·.1)=nm at en5 nl q ⊢;have d0:=rj (c:=cell ns 0) (f:=950706376) (m:=11) (by decide);have d1:=qU (c:=cell ns 0) (f:=950706376) (m:=11) (by decide);refine⟨pD Z',λr3 hr3=>⟨_,_,_,Z',by decide,Z',⟨?_,?_⟩,?_⟩⟩
 .show -(2 ^ 62)<=draw (cell ns 0) 950706376 11;lia
 .show draw (cell ns 0) 950706376 11<2 ^ 62;lia
 have t6:=qO.new (c:=.lst []) hr3;have g3:=@pT M5 r3 [];have no:o≠r3:=λz=>by have:=qE eo;rw[z,hr3]at this;cases this
 have nn:n≠r3:=λz=>by have:=qE en5;rw[z,hr3]at this;cases this
 have n1:r1≠r3:=λz=>by have:=qE e1;rw[z,hr3]at this;cases this
 have n2:r2≠r3:=λz=>by have:=qE e2;rw[z,hr3]at this;cases this
 have f1:=t6.lst e1;have f2:=t6.lst e2;have fo:=t6.lst eo;have fn:=t6.lst en5;have k6:qO M (pQ M5 r3 (.lst [])):=s5.trans t6;have nr:M r3=Db:=s5.none hr3;generalize pQ M5 r3 (.lst [])=M6 at f1 f2 fo fn k6 g3 ⊢;have wl:xb (cell ns 0)<=10:=by unfold xb;lia
 refine vN ((List.range (xb (cell ns 0))).map λi=>D.int (0+(i:Nat))) (λpre U M'=>sJ r3 M6 M'/\oN M' r3=Fa (((List.range pre.length).map (JW ns own nm)).map xC)/\∃x y,U=[Fa (.rl (ns.map D.int)),Fa (.int m),Fa (.int (cell ns 0)),Fa (.ref r1),Fa (.ref o),Fa (.ref r2),Fa (.ref n),Fa (.ref r3),x,y]) (λp U M' j=>trivial) _ [] _ _ Z' ⟨λ_ _ _ h=>h,g3,Db,Db,Z'⟩ ?_ ?_
 .rintro pre d post e U M' ⟨kp,lr,x,y,rfl⟩ nx X0
  obtain⟨rfl,X3⟩:=De e;generalize hi:pre.length=i at X3 X0 lr ⊢;have c31:DC 31 (0+(i:Int)):=.inl ⟨by decide,by decide⟩;have cm:DC (31*(0+(i:Int))) (0+(i:Int)):=.inr ⟨by lia,by lia⟩;refine⟨ns,_,Z',c31,cm,?_⟩;refine⟨by show(oN M' r3).isSome=pc;rw[lr];rfl,_,_,_,Z',by decide,_,o,n,own,nm,Z',kp.lst no fo,kp.lst nn fn,one,by lia,by lia,by lia,pD Z',i' lr ⟨?_,?_⟩⟩
  .rw[de,de,eM];lia
  .refine X0 _ _ ⟨kp.trans .put,?_,_,_,Z'⟩;rw[pT,dq,hi];show Fa (_++[xC (JW ns own nm i)])=_;rw[B'];rfl
 .rintro U M' ⟨kp,lr,x,y,rfl⟩
  rw[de,eM]at lr;exact⟨pD Z',M',.refl,q r1 r2 r3 M' (λb c h=>kp b c (λz=>by rw[z,nr]at h;cases h) (k6 b c h)) (kp.lst n1 f1) (kp.lst n2 f2) lr⟩
theorem CY(x:Array Nat):∀(n:Nat) (acc:Array Nat),((List.replicate n x).foldl (·++·) acc).toList=acc.toList++(List.replicate n x.toList).flatten
 | 0,acc=>by simp
 | n+1,acc=>by rw[eQ,gc,CY x n (acc++x),eQ,fT,jt,fC]
theorem Hc(c:Nat):∀n:Nat,(List.replicate n [c]).flatten=List.replicate n c
 | 0=>rfl
 | n+1=>by rw[eQ,fT,Hc c n,eQ];rfl
def Eo(i n:Int):(yV (uB i) n).cps.toList=List.replicate n.toNat (97+i.toNat):=by show((List.replicate n.toNat (uB i).cps).foldl (·++·) #[]:Array Nat).toList=_;rw[CY];show[]++(List.replicate n.toNat [97+i.toNat]).flatten=_;rw[eB,Hc]
def yx(s v:Int):(xM s v).cps.toList=List.replicate (uJ s).toNat (97+(s / 36 % 26).toNat)++(97+((s / 936+v) % 26).toNat)::List.replicate (size s - 1 - uJ s).toNat (97+(s / 36 % 26).toNat):=by show((yV (uB (s / 36 % 26)) (uJ s)).cps++(uB ((s / 936+v) % 26)).cps++(yV (uB (s / 36 % 26)) (size s - 1 - uJ s)).cps).toList=_;rw[jt,jt,Eo,Eo];show _++[97+((s / 936+v) % 26).toNat]++_=_;rw[fC];rfl
def B8(s v:Int):1<=(xM s v).length/\(xM s v).length<=6:=by
 have e:(xM s v).length=(xM s v).cps.toList.length:=by simp[Str.length]
 rw[e,yx,dq,eK,ja,ja];have h1:=G8 s;have h2:=J3 s;have h3:0<=uJ s:=fi _ (by lia);have h4:uJ s<size s:=eY _ h1;lia
def Mc{i:Int}(h0:0<=i)(h1:i<26):Dt ⟨#[97+i.toNat]⟩ uH=pc:=by
 obtain⟨n,rfl⟩:=eI h0;have hn:n<26:=by lia
 have key:∀n:_root_.Fin 26,Dt ⟨#[97+n.val]⟩ uH=pc:=by decide+kernel
 exact key ⟨n,hn⟩
def EC(s v:Int):uO (xM s v)=pc:=by
 obtain⟨h1,h2⟩:=B8 s v;unfold uO;rw[eA (show(1:Int)<=(xM s v).length by lia),eA (show((xM s v).length:Int)<=6 by lia),eN,eN,eV];intro c hc;rw[yx]at hc;have k1:=Mc (fi (s / 36) (show(26:Int)≠0 by decide)) (eY (s / 36) (by decide));have k2:=Mc (fi (s / 936+v) (show(26:Int)≠0 by decide)) (eY (s / 936+v) (by decide));rcases eF.mp hc with z|z
 .rw[j9 z];exact k1
 .rcases dC.mp z with z|z
  .rw[z];exact k2
  .rw[j9 z];exact k1
def B4{s u v:Int}(hu:0<=u)(hu':u<26)(hv:0<=v)(hv':v<26)(e:xM s u=xM s v):u=v:=by
 have e':(xM s u).cps.toList=(xM s v).cps.toList:=by rw[e]
 rw[yx,yx]at e';have:=(List.append_cancel_left e');have:=(gz this).1;have a1:=fi (s / 936+u) (show(26:Int)≠0 by decide);have a2:=fi (s / 936+v) (show(26:Int)≠0 by decide);have h:(s / 936+u) % 26=(s / 936+v) % 26:=by lia
 lia
def E4{ss:QQQ}{x:Str}(h:x∈ss):xZ ss x:=fY.mpr ⟨x,h,by simp⟩
def BE{row:QQQ}{i:Int}(h0:0<=i)(h1:i<row.length):CD row i∈row:=by
 obtain⟨n,rfl⟩:=eI h0;have hn:n<row.length:=by lia
 have:CD row (n:Int)=row[n]:=by simp[CD,hn]
 rw[this];exact iw hn
def JB{row:QQQ}{i j:Int}(nd:row.Nodup)(h0:0<=i)(h1:i<row.length)(g0:0<=j)(g1:j<row.length)(e:CD row i=CD row j):i=j:=by
 obtain⟨n,rfl⟩:=eI h0;obtain⟨k,rfl⟩:=eI g0;have hn:n<row.length:=by lia
 have hk:k<row.length:=by lia
 have e1:CD row (n:Int)=row[n]:=by simp[CD,hn]
 have e2:CD row (k:Int)=row[k]:=by simp[CD,hk]
 rw[e1,e2]at e;have pw:=jQ.mp nd;rcases Nat.lt_trichotomy n k with z|z|z
 .exact absurd e (pw n k hn hk z)
 .rw[z]
 .exact absurd e.symm (pw k n hk hn z)
def Ak{α:Type}(f:Nat->α)(n:Nat)(h:∀i j,i<n->j<n->f i=f j->i=j):((List.range n).map f).Nodup:=by refine jQ.mpr λi j hi hj X3 e=>?_;rw[de,eM]at hi hj;rw[mh,mh,lD,lD]at e;have:=h i j hi hj e;lia
def BZ{row:QQQ}{c m:Int}(hr:row≠[])(hm:0<m):1<=xF row c m/\(xF row c m:Int)<=m/\xF row c m<=row.length:=by
 have hl:0<row.length:=fG.mpr hr;have d0:=rj (c:=c) (f:=40692) (m:=if (row.length:Int)<m then(row.length:Int)else m) (by split<;>lia);have d1:=qU (c:=c) (f:=40692) (m:=if (row.length:Int)<m then(row.length:Int)else m) (by split<;>lia);unfold xF;by_cases h:(row.length:Int)<m
 .rw[dw h]at d0 d1 ⊢;lia
 .rw[dh h]at d0 d1 ⊢;lia
def BO{row:QQQ}{c:Int}(hr:row≠[])(j:Nat):0<=(draw c 69621 row.length+(0+(j:Nat))) % (row.length:Int)/\(draw c 69621 row.length+(0+(j:Nat))) % (row.length:Int)<row.length:=by have hl:0<row.length:=fG.mpr hr;exact⟨fi _ (by lia),eY _ (by lia)⟩
def JV{d n i j:Int}(hn:0<n)(hi:0<=i)(Zr:i<n)(hj:0<=j)(hj':j<n)(e:(d+i) % n=(d+j) % n):i=j:=by
 have h1:=kF (d+i) n;have h2:=kF (d+j) n;generalize (d+i) / n=a at h1;generalize (d+j) / n=b at h2;have h3:i - j=n*(a - b):=by rw[Int.mul_sub];lia
 rcases Int.lt_trichotomy (a - b) 0 with z|z|z
 .have:n*(a - b)<=n*(-1):=jr (by lia) (by lia);lia
 .rw[z]at h3;lia
 .have:n*1<=n*(a - b):=jr (by lia) (by lia);lia
def IG{row:QQQ}{c m:Int}(nd:row.Nodup)(hr:row≠[])(hm:0<m):(wg row c m).Nodup:=by have hl:0<row.length:=fG.mpr hr;obtain⟨_,_,l3⟩:=BZ (c:=c) hr hm;refine Ak _ _ λi j hi hj e=>?_;obtain⟨a0,a1⟩:=BO (c:=c) hr i;obtain⟨b0,b1⟩:=BO (c:=c) hr j;have e':=JB nd a0 a1 b0 b1 e;have:=JV (d:=draw c 69621 row.length) (n:=row.length) (i:=0+(i:Nat)) (j:=0+(j:Nat)) (by lia) (by lia) (by lia) (by lia) (by lia) e';lia
def xS{row:QQQ}{c m k:Int}(nd:row.Nodup)(hr:row≠[])(hm:0<m)(hk:m<=k):sV (wg row c m) row k=pc:=by
 obtain⟨l1,l2,l3⟩:=BZ (c:=c) hr hm;have el:(wg row c m).length=xF row c m:=by unfold wg;rw[de,eM]
 unfold sV;rw[el,eA (show(1:Int)<=xF row c m by lia),eA (show(xF row c m:Int)<=k by lia),Eb (IG nd hr hm),eN,eN,eN,eV];intro x hx;unfold wg at hx;obtain⟨j,_,rfl⟩:=dJ.mp hx;obtain⟨a0,a1⟩:=BO (c:=c) hr j;exact E4 (BE a0 a1)
def Co{row:QQQ}{c m:Int}(hr:row≠[])(hm:0<m)(h:m<=100):(wg row c m).length<4000:=by
 obtain⟨l1,l2,l3⟩:=BZ (c:=c) hr hm;have el:(wg row c m).length=xF row c m:=by unfold wg;rw[de,eM]
 lia
def Pq{c:Int}{own all:QQQ}(no:own.Nodup)(na:all.Nodup)(ho:own≠[])(ha:2<=all.length):BU own all (wG c own all):=by
 have hl:(0:Int)<own.length:=by have:=fG.mpr ho;lia
 have ha0:all≠[]:=λz=>by rw[z]at ha;simp at ha
 have hx:=E4 (BE (rj (c:=c) (f:=16807) hl) (qU (c:=c) (f:=16807) hl));have p0:=rj (c:=c) (f:=39373) (m:=all.length) (by lia);have p1:=qU (c:=c) (f:=39373) (m:=all.length) (by lia);have e0:=rj (c:=c) (f:=742938285) (m:=(all.length:Int) - 1) (by lia);have e1:=qU (c:=c) (f:=742938285) (m:=(all.length:Int) - 1) (by lia);have z0:=fi (draw c 39373 all.length+1+draw c 742938285 ((all.length:Int) - 1)) (show(all.length:Int)≠0 by lia);have z1:=eY (draw c 39373 all.length+1+draw c 742938285 ((all.length:Int) - 1)) (show(0:Int)<all.length by lia);have hy:=E4 (BE p0 p1);have hzz:=E4 (BE z0 z1);have ne:CD all (draw c 39373 all.length)≠CD all ((draw c 39373 all.length+1+draw c 742938285 ((all.length:Int) - 1)) % all.length):=λz=>by
  have q:=JB na p0 p1 z0 z1 z;have q2:(draw c 39373 all.length+0) % (all.length:Int)=(draw c 39373 all.length+(1+draw c 742938285 ((all.length:Int) - 1))) % (all.length:Int):=by rw[Int.add_zero,Int.emod_eq_of_lt p0 p1,<-Int.add_assoc];exact q
  have:=JV (by lia) (by lia) (by lia) (by lia) (by lia) q2;lia
 have f0:=rj (c:=c) (f:=22695477) (m:=24) (by decide);have f1:=qU (c:=c) (f:=22695477) (m:=24) (by decide);have g0:=rj (c:=c) (f:=48271) (m:=23) (by decide);have g1:=qU (c:=c) (f:=48271) (m:=23) (by decide);have t0:=rj (c:=c) (f:=950706376) (m:=5) (by decide);have t1:=qU (c:=c) (f:=950706376) (m:=5) (by decide);unfold wG;simp only;split
 .exact⟨hx,Co ha0 (by decide) (by decide),xS na ha0 (by decide) (by decide)⟩
 .split
  .exact⟨hy,Co ho (by decide) (by decide),xS no ho (by decide) (by decide)⟩
  .split
   .exact⟨hy,hzz,ne⟩
   .split
    .refine⟨hy,hzz,ne,⟨f0,by lia⟩,⟨fi _ (by decide),?_⟩,?_⟩
     .have:=eY (draw c 22695477 24+1+draw c 48271 23) (show(0:Int)<24 by decide);lia
     .omega
    .split
     .exact⟨hy,hzz,ne⟩
     .split
      .refine⟨hy,hzz,ne,?_⟩;generalize draw c 950706376 5=d at t0 t1;have:d=0\/d=1\/d=2\/d=3\/d=4:=by lia
       rcases this with z|z|z|z|z<;>(subst z;decide)
      .split
       .exact hx
       .exact hx
def LW(s:Int)(i:Nat):F0 (ww s i):=by
 have t0:=rj (c:=s+17*(0+(i:Nat))*(0+(i:Nat))) (f:=16807) (m:=5) (by decide);have t1:=qU (c:=s+17*(0+(i:Nat))*(0+(i:Nat))) (f:=16807) (m:=5) (by decide);have u0:=rj (c:=s+17*(0+(i:Nat))*(0+(i:Nat))) (f:=39373) (m:=6) (by decide);have u1:=qU (c:=s+17*(0+(i:Nat))*(0+(i:Nat))) (f:=39373) (m:=6) (by decide);have a:1<=(ww s i).2.1/\(ww s i).2.1<=3:=by
  show 1<=Hy PD (draw (s+17*(0+(i:Nat))*(0+(i:Nat))) 16807 5)/\Hy PD (draw (s+17*(0+(i:Nat))*(0+(i:Nat))) 16807 5)<=3;generalize draw (s+17*(0+(i:Nat))*(0+(i:Nat))) 16807 5=d at t0 t1;have:d=0\/d=1\/d=2\/d=3\/d=4:=by lia
  rcases this with z|z|z|z|z<;>(subst z;decide)
 have b:0<=(ww s i).2.2/\(ww s i).2.2<=9:=by
  show 0<=Hy OG (draw (s+17*(0+(i:Nat))*(0+(i:Nat))) 39373 6)/\Hy OG (draw (s+17*(0+(i:Nat))*(0+(i:Nat))) 39373 6)<=9;generalize draw (s+17*(0+(i:Nat))*(0+(i:Nat))) 39373 6=d at u0 u1;have:d=0\/d=1\/d=2\/d=3\/d=4\/d=5:=by lia
  rcases this with z|z|z|z|z|z<;>(subst z;decide)
 exact⟨eE (B8 s (0+(i:Nat))).2 (by decide),EC _ _,a.1,a.2,b.1,b.2⟩
def NB{s:Int}{own:QQQ}(nd:own.Nodup)(hr:own≠[])(i:Nat):Fg own (Ao s own i):=by
 have t0:=rj (c:=s+5*(0+(i:Nat))) (f:=742938285) (m:=2) (by decide);have t1:=qU (c:=s+5*(0+(i:Nat))) (f:=742938285) (m:=2) (by decide);refine⟨eE (B8 s (8+(0+(i:Nat)))).2 (by decide),EC _ _,?_,Co hr (by decide) (by decide),xS nd hr (by decide) (by decide)⟩;show CD Q7 (draw (s+5*(0+(i:Nat))) 742938285 2)="all"\/CD Q7 (draw (s+5*(0+(i:Nat))) 742938285 2)="turns";generalize draw (s+5*(0+(i:Nat))) 742938285 2=d at t0 t1;have:d=0\/d=1:=by lia
 rcases this with z|z
 .subst z;exact .inl Z'
 .subst z;exact .inr Z'
def LZ(s m:Int):(qJ s m).map (·.1)=(List.range (rV s m)).map λi=>xM s (0+(i:Nat)):=by unfold qJ;rw[eG];rfl
def GB{s m:Int}(h2:2<=m)(h8:m<=8):((qJ s m).map (·.1)).Nodup/\∀own,((qJ s m).map (·.1)++(rE s own).map (·.1)).Nodup:=by
 have d1:=qU (c:=s) (f:=48271) (m:=m - 1) (by lia);have d0:=rj (c:=s) (f:=48271) (m:=m - 1) (by lia);have p8:rV s m<=8:=by unfold rV;lia
 have g3:=wY (s:=s);have a:((qJ s m).map (·.1)).Nodup:=by rw[LZ];refine Ak _ _ λi j hi hj e=>?_;have:=B4 (by lia) (by lia) (by lia) (by lia) e;lia
 refine⟨a,λown=>?_⟩;have ge:(rE s own).map (·.1)=(List.range (vW s)).map λi=>xM s (8+(0+(i:Nat))):=by unfold rE;rw[eG];rfl
 rw[gx];refine⟨a,?_,λx hx y hy e=>?_⟩
 .rw[ge];refine Ak _ _ λi j hi hj e=>?_;have:=B4 (by lia) (by lia) (by lia) (by lia) e;lia
 .rw[LZ]at hx;rw[ge]at hy;obtain⟨i,hi,rfl⟩:=dJ.mp hx;obtain⟨j,hj,rfl⟩:=dJ.mp hy;have hi:=gp.mp hi;have hj:=gp.mp hj;have:=B4 (by lia) (by lia) (by lia) (by lia) e;lia
def QJ{m:Int}(h2:2<=m)(h8:m<=8):sj (vF ns m):=by
 obtain⟨n1,n2⟩:=GB (s:=cell ns 0) h2 h8;have pl:=xo (s:=cell ns 0) h2 (by lia);have p8:rV (cell ns 0) m<=8:=by have d1:=qU (c:=cell ns 0) (f:=48271) (m:=m - 1) (by lia);unfold rV;lia
 have lp:(qJ (cell ns 0) m).length=rV (cell ns 0) m:=by unfold qJ;rw[de,eM]
 have ol:((qJ (cell ns 0) m).map (·.1)).length=rV (cell ns 0) m:=by rw[de,lp]
 have one:(qJ (cell ns 0) m).map (·.1)≠[]:=λz=>by rw[z]at ol;have:0=rV (cell ns 0) m:=ol;lia
 have gl:(rE (cell ns 0) ((qJ (cell ns 0) m).map (·.1))).length=vW (cell ns 0):=by unfold rE;rw[de,eM]
 refine⟨?_,?_,λp hp=>?_,?_,λg hg=>?_,n2 _,?_,λv hv=>?_⟩
 .show 1<=(qJ (cell ns 0) m).length;lia
 .show(qJ (cell ns 0) m).length<=8;lia
 .obtain⟨i,_,rfl⟩:=dJ.mp hp;exact LW _ i
 .show(rE (cell ns 0) ((qJ (cell ns 0) m).map (·.1))).length<=3;rw[gl];exact wY
 .obtain⟨i,_,rfl⟩:=dJ.mp hg;exact NB n1 one i
 .show((List.range (xb (cell ns 0))).map _).length<=16;rw[de,eM];have d1:=qU (c:=cell ns 0) (f:=950706376) (m:=11) (by decide);unfold xb;lia
 .obtain⟨i,hi,rfl⟩:=dJ.mp hv;refine Pq n1 (n2 _) one ?_;show 2<=((qJ (cell ns 0) m).map (·.1)++_).length;rw[dq,ol];lia
structure pM where
 st:Str
 cr:Str
 way:QQQ
 at_:QQQ
 ms:QQQ
 hd:Option Str
 si:Int
 wd:Option Str
structure sA where
 i:Nat
 f:Str
 g:Str
 y:Str
inductive Ev
 | new (n:Nat) (x:Str)
 | leg (v:sA)
 | asks (i:Nat) (z:Str) (ns:List Nat)
 | next (z:Str) (n:Int)
 | merge (i j:Nat) (ms:QQQ)
 | turn
 | sw (b:Bool) (i:Nat)
 | rings (i:Nat) (ps:QQQ)
 | quiet (i:Nat)
 | waits (i:Nat) (x:Str)
 | talks (i:Nat) (ms:QQQ)
 | held (i:Nat) (x:Str)
 | leaves (i:Nat) (x:Str)
 | over (i:Nat) (w:Str)
structure qH where
 p:Uf
 h:Int
 t:Int
 calls:List pM
 nq:List sA
 ps:List (Str×Int)
 on:List Bool
 log:List Ev
 fo:QXQ
noncomputable def wU(ns:T0 Nat):D:=.tup (ns.map λn=>D.int (n:Nat))
noncomputable def sA.d(v:sA):D:=.tup [.int (v.i:Nat),.str v.f,.str v.g,.str v.y]
noncomputable def Vk(b:Bool):Str:=if b=pc then "on" else "off"
def Ev.d:Ev->D
 | .new n x=>.tup [.str "new",.int (n:Nat),.str x]
 | .leg v=>.tup [.str "leg",.int (v.i:Nat),.str v.f,.str v.g,.str v.y]
 | .asks i z ns=>.tup [.str "asks",.int (i:Nat),.str z,wU ns]
 | .next z n=>.tup [.str "next",.str z,.int n]
 | .merge i j ms=>.tup [.str "merge",.int (i:Nat),.int (j:Nat),names ms]
 | .turn=>.tup [.str "turn"]
 | .sw b i=>.tup [.str (Vk b),.int (i:Nat)]
 | .rings i ps=>.tup [.str "rings",.int (i:Nat),names ps]
 | .quiet i=>.tup [.str "quiet",.int (i:Nat)]
 | .waits i x=>.tup [.str "waits",.int (i:Nat),.str x]
 | .talks i ms=>.tup [.str "talks",.int (i:Nat),names ms]
 | .held i x=>.tup [.str "held",.int (i:Nat),.str x]
 | .leaves i x=>.tup [.str "leaves",.int (i:Nat),.str x]
 | .over i w=>.tup [.str "over",.int (i:Nat),.str w]
noncomputable def hasS(ss:QQQ)(x:Str):Bool:=ss.any (·==x)
noncomputable def rX(ss:QQQ)(x:Str):QQQ:=ss.filter λy=>!(y==x)
noncomputable def zO(x:Str):pM:=⟨"rings",x,[],[],[],Db,0,Db⟩
noncomputable def pM.over(c:pM)(w:Str):pM:={c with st:="over",wd:=some w,at_:=[],ms:=[],hd:=none}
def pM.drop(c:pM)(x:Str):pM:={c with at_:=rX c.at_ x,ms:=rX c.ms x}
noncomputable def pM.ring(c:pM)(ps:QQQ):pM:={c with st:="rings",at_:=ps,si:=0}
noncomputable def pM.nQ(c:pM)(ms:QQQ):pM:={c with st:="talks",ms:=ms,at_:=[],hd:=none}
noncomputable def pM.wait(c:pM)(x:Str):pM:={c with st:="waits",at_:=[x]}
noncomputable def pM.hold(c:pM)(x:Str):pM:={c with st:="held",hd:=some x}
noncomputable def pM.nV(c:pM):pM:={c with at_:=[]}
noncomputable def pM.mem(c:pM)(ms:QQQ):pM:={c with ms:=ms}
noncomputable def pM.go(c:pM)(g:Str):pM:={c with way:=c.way++[g]}
noncomputable def pM.tick(c:pM):pM:=if (c.st=="rings")=pc then{c with si:=c.si+1}else c
noncomputable def sA.to(m k:Nat)(v:sA):sA:=if v.i=m then{v with i:=k}else v
noncomputable def CN(ps:T0 (Str×Int))(z:Str)(n:Int):T0 (Str×Int):=if ps.any (λp=>decide (p.1=z))=pc then ps.map (λp=>if p.1=z then(p.1,n)else p)else ps++[(z,n)]
noncomputable def xR(V:qH)(i:Nat)(f:pM->pM):qH:={V with calls:=V.calls.modify i f}
noncomputable def qV(V:qH)(e:Ev):qH:={V with log:=V.log++[e]}
def U'(V:qH):Ev->qH
 | .new _ x=>{V with calls:=V.calls++[zO x]}
 | .leg v=>{V with nq:=V.nq++[v],calls:=V.calls.modify v.i (·.go v.g)}
 | .asks _ _ _=>V
 | .next z n=>{V with ps:=CN V.ps z n}
 | .merge i j ms=>{V with calls:=(V.calls.modify i (·.over "merged")).modify j (·.mem ms),nq:=V.nq.map (sA.to i j)}
 | .turn=>{V with t:=V.t+1,calls:=V.calls.map pM.tick}
 | .sw b i=>{V with on:=V.on.set i b}
 | .rings i ps=>xR V i (·.ring ps)
 | .quiet i=>xR V i pM.nV
 | .waits i x=>xR V i (·.wait x)
 | .talks i ms=>xR V i (·.nQ ms)
 | .held i x=>xR V i (·.hold x)
 | .leaves i x=>xR V i (·.drop x)
 | .over i w=>xR V i (·.over w)
def qy(V:qH)(e:Ev):qH:=U' (qV V e) e
def qS(V:qH)(es:T0 Ev):qH:=es.foldl qy V
def Ev.ok(V:qH):Ev->Prop
 | .new _ _=>True
 | .leg v=>v.i<V.calls.length
 | .asks _ _ _=>True
 | .next _ _=>True
 | .merge i j ms=>i<V.calls.length/\j<V.calls.length/\i≠j/\ms.length<=100
 | .turn=>True
 | .sw _ i=>i<V.on.length
 | .rings i ps=>i<V.calls.length/\ps.length<=100
 | .quiet i=>i<V.calls.length
 | .waits i _=>i<V.calls.length
 | .talks i ms=>i<V.calls.length/\ms.length<=100
 | .held i _=>i<V.calls.length
 | .leaves i _=>i<V.calls.length
 | .over i _=>i<V.calls.length
def rW(V:qH)(es fs:T0 Ev):qS V (es++fs)=qS (qS V es) fs:=lK ..
theorem JY:∀(es:T0 Ev) (V:qH),(qS V es).log=V.log++es
 | [],V=>(fk _).symm
 | e::r,V=>by
  show(qS (qy V e) r).log=_;rw[JY r];have:(qy V e).log=V.log++[e]:=by cases e<;>rfl
  rw[this,fC];rfl
def pM.nj(c:pM)(x:Str):Bool:=(c.st=="talks")&&hasS c.ms x
def pM.hasB(c:pM)(x:Str):Bool:=if (c.st=="rings")=pc then(x==c.cr)||hasS c.at_ x else if (c.st=="waits")=pc then x==c.cr else(c.st=="talks"||c.st=="held")&&hasS c.ms x
def pM.nk(c:pM)(x:Str):Bool:=if (c.st=="held")=pc then hasS c.ms x&&!((c.hd==Fa x))else c.nj x
noncomputable def pM.ng(c:pM)(x:Str):Bool:=(c.st=="rings"||c.st=="waits")&&(x==c.cr)
def pM.mZ(c:pM)(x:Str):Bool:=(c.st=="waits")&&hasS c.at_ x
def pM.nN(c:pM)(x:Str):Bool:=c.ng x||(hasS c.at_ x||hasS c.ms x)
noncomputable def pM.ni(c:pM)(x:Str):Bool:=c.nj x&&(c.ms.length==2)
noncomputable def uT(V:qH)(x:Str):Nat:=(V.calls.filter (·.hasB x)).length
noncomputable def wm(l:pR)(x:Str):Int:=(l.nB x).elim 0 λv=>v.2.1
noncomputable def vV(l:pR)(x:Str):Int:=(l.nB x).elim 0 λv=>v.2.2
def sD(l:pR)(V:qH)(x:Str):Bool:=decide ((uT V x:Int)<wm l x)
def uG(l:pR)(V:qH)(c z:Str):QQQ:=(l.mS z).filter λx=>!(x==c)&&sD l V x
def yb(l:pR)(V:qH)(c z:Str):Bool:=(uG l V c z).isEmpty
noncomputable def vY(V:qH)(x:Str):Option Nat:=V.calls.findIdx? (·.nj x)
noncomputable def CB(V:qH)(x:Str):Option Nat:=V.calls.findIdx? (·.nk x)
noncomputable def GV(V:qH)(x:Str):Option Nat:=V.calls.findIdx? (·.ng x)
noncomputable def AM(V:qH)(x:Str):Bool:=V.calls.any (·.mZ x)
noncomputable def Qw:Option Nat->D
 | none=>.mY
 | some j=>.int (j:Nat)
noncomputable def EO(f l h:Int):Bool:=if f<l then decide (f<=h)&&decide (h<l)else decide (h>=f)||decide (h<l)
def IB(l:pR)(x:Str)(ms:QQQ):Bool:=ms.all λm=>decide (vV l m<vV l x)
def IU(l:pR)(V:qH)(x c z:Str):Bool:=if (!(c==x)||(z==x))=pc then lf else if (!(hasS l.pn z)||!(yb l V c z))=pc then lf else((vY V z).bind (V.calls[·]?)).elim lf λk=>(k.ms.length==2)&&IB l x k.ms
def Bv(l:pR)(V:qH)(c z:Str):Wi->Bool
 | .bar x ns=>(c==x)&&hasS ns z
 | .shut x ns=>(z==x)&&hasS ns c
 | .always x _=>z==x
 | .night x _ f m=>(z==x)&&EO f m ((V.h+V.t) % 24)
 | .busy x _=>(z==x)&&yb l V c z
 | .silent _ _ _=>lf
 | .wait x=>if (!(z==x)||(c==x))=pc then lf else yb l V c z&&!(AM V z)
 | .breaks x=>IU l V x c z
noncomputable def Hn(c:pM):Wi->Bool
 | .silent x _ n=>(c.way.getLast?==Fa x)&&decide (n<=c.si)
 | _=>lf
noncomputable def HK(l:pR)(V:qH)(f:Wi->Bool):T0 Nat:=(List.range V.on.length).filter λi=>V.on.getD i lf&&(l.mU[i]?).elim lf λw=>f w.2
def Ey(l:pR)(V:qH)(c z:Str):T0 Nat:=HK l V (Bv l V c z)
noncomputable def vk(ms:QQQ)(n:Nat):QQQ:=ms.drop n++ms.take n
noncomputable def zy(V:qH)(z:Str):Nat:=((V.ps.find? λp=>decide (p.1=z)).elim 0 λp=>p.2).toNat
def yf(l:pR)(V:qH)(c z:Str):QQQ:=if (l.m9 z=="turns")=pc then((vk (l.mS z) (zy V z)).filter λx=>hasS (uG l V c z) x).take 1 else uG l V c z
inductive wA
 | engaged (z:Str)
 | rings (z:Str) (ps:QQQ)
 | waits (z:Str)
 | breaks (z:Str)
 | barred
 | ring (ns:QQQ)
noncomputable def wA.d:wA->D
 | .engaged z=>.tup [.str "engaged",.str z]
 | .rings z ps=>.tup [.str "rings",.str z,names ps]
 | .waits z=>.tup [.str "waits",.str z]
 | .breaks z=>.tup [.str "breaks",.str z]
 | .barred=>.tup [.str "barred"]
 | .ring ns=>.tup [.str "ring",names ns]
def HP(l:pR)(V:qH)(c z:Str):wA:=match yf l V c z with
 | []=>.engaged z
 | x::r=>.rings z (x::r)
noncomputable def Jc(z:Str):Wi->Sum wA Str
 | .bar _ _=>.inl .barred
 | .shut _ _=>.inl .barred
 | .always _ y=>.inr y
 | .night _ y _ _=>.inr y
 | .busy _ y=>.inr y
 | .silent _ y _=>.inr y
 | .wait _=>.inl (.waits z)
 | .breaks _=>.inl (.breaks z)
abbrev tX:=T0 (Str×T0 Nat)
def xm(l:pR)(V:qH)(c:Str):Nat->Str->QQQ->tX->wA×tX
 | 0,_,_,st=>(.barred,st)
 | n+1,z,way,st=>if hasS way z=pc then(.ring (way.drop (way.findIdx (·==z))),st)else
  match Ey l V c z with
  | []=>(HP l V c z,st++[(z,[])])
  | i::r=>(l.mU[i]?).elim (.barred,st) λw=>match Jc z w.2 with
   | .inl e=>(e,st++[(z,i::r)])
   | .inr y=>xm l V c n y (way++[z]) (st++[(z,i::r)])
def vh(l:pR)(V:qH)(c z:Str)(way:QQQ):wA×tX:=xm l V c (l.nm.length+1) z way []
noncomputable def rS(i:Nat):Option Str->tX->T0 Ev
 | _,[]=>[]
 | none,(z,fs)::r=>.asks i z fs::rS i (Fa z) r
 | some y,(z,fs)::r=>.leg ⟨i,y,z,y⟩::.asks i z fs::rS i (Fa z) r
noncomputable def Rz(ms:QQQ)(x:Str):Int:=((ms.findIdx (·==x):Nat)+1) % (ms.length:Int)
def tY(l:pR)(V:qH)(i:Nat):wA->T0 Ev
 | .rings z ps=>(if (l.m9 z=="turns")=pc then[.next z (Rz (l.mS z) (ps.headD Str.empty))]else[])++[.rings i ps]
 | .waits z=>[.waits i z]
 | .breaks z=>match vY V z,V.calls[i]? with
  | some j,Fa c=>[.merge i j ((V.calls[j]?).elim [] (·.ms)++[c.cr])]
  | _,_=>[]
 | .engaged _=>[.over i "engaged"]
 | .barred=>[.over i "barred"]
 | .ring _=>[.over i "ring"]
noncomputable def ux(i:Nat)(st:tX):wA->T0 Ev
 | .ring ns=>(st.getLast?).elim [] λs=>[.leg ⟨i,s.1,ns.headD Str.empty,s.1⟩]
 | _=>[]
def xG(l:pR)(V:qH)(i:Nat):T0 Ev:=(V.calls[i]?).elim [] λc=>
 let r:=vh l V c.cr (c.way.getLastD Str.empty) c.way.dropLast
 rS i Db r.2++(ux i r.2 r.1++tY l V i r.1)
def FF(l:pR)(V:qH)(y z:Str):T0 Ev:=
 let es:=[Ev.new V.calls.length y,.leg ⟨V.calls.length,y,z,y⟩]
 es++xG l (qS V es) V.calls.length
def xc(V:qH)(x:Str)(i:Nat):T0 Ev:=(V.calls[i]?).elim [] λc=>if c.ng x=pc then[.over i "left"]else if hasS c.at_ x=pc then .leaves i x::(if rX c.at_ x=[]then[.over i "refused"]else[])else if 2<c.ms.length then[.leaves i x]else[.over i "done"]
def uz(l:pR)(V:qH)(i:Nat)(fs:T0 Nat):T0 Ev:=match fs.head?.bind (l.mU[·]?)with
 | some (_,.silent x y _)=>
  let es:=[Ev.asks i x fs,.quiet i,.leg ⟨i,x,y,x⟩]
  es++xG l (qS V es) i
 | _=>[]
def zM(l:pR)(V:qH)(i:Nat):T0 Nat:=(V.calls[i]?).elim [] λc=>if (c.st=="rings")=pc then HK l V (Hn c)else[]
def so(l:pR):T0 Nat->qH->T0 Ev
 | [],_=>[]
 | i::r,V=>uz l V i (zM l V i)++so l r (qS V (uz l V i (zM l V i)))
def ER(l:pR)(V:qH):T0 Ev:=.turn::so l (List.range V.calls.length) (qy V .turn)
inductive tE
 | call (y z:Str)
 | num (w x:Str) (ns:List Int)
 | turn
 | sw (b:Bool) (i:Int)
def tE.d:tE->D
 | .call y z=>.tup [.str "call",.str y,.str z]
 | .num w x ns=>.tup (.str w::.str x::ns.map D.int)
 | .turn=>.tup [.str "turn"]
 | .sw b i=>.tup [.str (Vk b),.int i]
def tE.nC:tE->Prop
 | .num w _ ns=>((w="answer"\/w="hang"\/w="hold"\/w="back")/\ns.length=1)\/((w="hand"\/w="join")/\ns.length=2)
 | _=>True
def rM(V:qH)(x:Str):Option Str:=if (CB V x).isSome=pc then Fa "bound" else if (GV V x).isSome=pc then Fa "calls" else Db
noncomputable def wV(n:Nat)(i:Int):Bool:=decide (0<=i)&&decide (i<(n:Int))
def D3(w x:Str):List pM->Bool
 | []=>lf
 | c::r=>if (w=="answer")=pc then hasS c.at_ x else if (w=="hang")=pc then c.nN x else if (w=="hold")=pc then c.ni x else if (w=="back")=pc then c.hd==Fa x else(c.hd==Fa x)&&(r.head?.elim lf λd=>d.ni x)
noncomputable def tw(V:qH)(ns:T0 Int):List pM:=ns.filterMap λi=>V.calls[i.toNat]?
def Cw(l:pR)(V:qH)(y z:Str):Option Str:=if hasS l.nm z=lf then Fa "name" else if ((rM V y).isNone&&!(sD l V y))=pc then Fa "full" else rM V y
def Br(l:pR)(V:qH)(w x:Str)(ns:T0 Int):Option Str:=if ns.all (wV V.calls.length)=lf then Fa "call" else if D3 w x (tw V ns)=lf then Fa "call" else if (w=="answer"||w=="back")=lf then Db else
 if ((rM V x).isNone&&((tw V ns).head?.elim lf (λc=>c.mZ x)&&!(sD l V x)))=pc then Fa "full" else rM V x
def Q0(V:qH)(b:Bool)(i:Int):Option Str:=if wV V.on.length i=lf then Fa "wish" else if (V.on.getD i.toNat lf==b)=pc then Fa "wish" else Db
def wu(l:pR)(V:qH):tE->Option Str
 | .turn=>Db
 | .sw b i=>Q0 V b i
 | .call y z=>if hasS l.pn y=lf then Fa "name" else Cw l V y z
 | .num w x ns=>if hasS l.pn x=lf then Fa "name" else Br l V w x ns
def qI(c:pM)(x:Str):Str:=(rX c.ms x).headD Str.empty
noncomputable def FL(V:qH)(w x:Str)(i:Nat):Ev:=(V.calls[i]?).elim .turn λc=>if (w=="answer")=pc then .talks i [c.cr,x]else if (w=="hold")=pc then .held i x else .talks i c.ms
def G2(V:qH)(w x:Str)(i j:Nat):Ev:=(V.calls[i]?).elim .turn λc=>(V.calls[j]?).elim .turn λd=>.merge i j (if (w=="hand")=pc then[qI c x,qI d x]else[x,qI c x,qI d x])
def xB(l:pR)(V:qH):tE->T0 Ev
 | .call y z=>FF l V y z
 | .num w x [i]=>if (w=="hang")=pc then xc V x i.toNat else[FL V w x i.toNat]
 | .num w x [i,j]=>[G2 V w x i.toNat j.toNat]
 | .num _ _ _=>[]
 | .turn=>ER l V
 | .sw b i=>[.sw b i.toNat]
structure rT where
 p:Uf
 wy:Uf
structure tP where
 b:Uf
 ca:Uf
 le:Uf
 nx:Uf
 on:Uf
 lo:Uf
 cs:List rT
noncomputable def wC:Option Str->D
 | none=>.mY
 | some x=>.str x
def rG(c:pM)(wy ad md:Uf):T0 (Str×D):=[("state",.str c.st),("caller",.str c.cr),("way",.ref wy),("at",.ref ad),("members",.ref md),("holder",wC c.hd),("since",.int c.si),("word",wC c.wd)]
noncomputable def ui(p:D)(h t:Int)(ca le nx on lo:Uf):T0 (Str×D):=[("plan",p),("hour",.int h),("turn",.int t),("calls",.ref ca),("legs",.ref le),("nexts",.ref nx),("on",.ref on),("log",.ref lo)]
noncomputable def ua(ps:T0 (Str×Int)):T0 (rm×D):=ps.map λp=>((Sum.inr p.1:rm),D.int p.2)
noncomputable def tP.lists(A:tP):QXQ:=A.ca::A.le::A.on::A.lo::A.cs.map (·.wy)
noncomputable def tP.foot(A:tP):QXQ:=A.b::A.nx::(A.lists++A.cs.map (·.p))
def sf(a:Ad)(M:Mp)(L:QXQ)(k:rT)(c:pM):Prop:=z9 λad md=>M k.p=Fa (.ins a.e (rG c k.wy ad md))/\oN M k.wy=Fa (c.way.map D.str)/\oN M ad=Fa (c.at_.map D.str)/\oN M md=Fa (c.ms.map D.str)/\ad∉L/\md∉L
structure pX(a:Ad)(M:Mp)(A:tP)(V:qH):Prop where
 at_:M A.b=Fa (.ins a.c (ui (.ref V.p) V.h V.t A.ca A.le A.nx A.on A.lo))
 ca:oN M A.ca=Fa (A.cs.map λk=>D.ref k.p)
 le:oN M A.le=Fa (V.nq.map sA.d)
 nx:zr M A.nx=Fa (ua V.ps)
 on:oN M A.on=Fa (V.on.map D.bl)
 lo:oN M A.lo=Fa (V.log.map Ev.d)
 len:A.cs.length=V.calls.length
 cs:∀(i:Nat) k c,A.cs[i]?=Fa k->V.calls[i]?=Fa c->sf a M (A.lists++V.fo) k c
 nl:A.lists.Nodup
 np:(A.b::A.cs.map (·.p)).Nodup
 fo:∀x∈V.fo,∃c,M x=Fa c
def wW{F:QXQ}{M:Mp}{p:Uf}{c:vd}(h:∀x∈F,∃c,M x=Fa c):∀x∈F,∃d,pQ M p c x=Fa d:=λx hx=>by
 by_cases z:x=p
 .exact⟨c,by rw[z];exact pZ⟩
 .obtain⟨d,e⟩:=h x hx;exact⟨d,sJ.put x d z e⟩
def sf.sub{k:rT}{c:pM}(h:sf a M L k c)(s:qO M M'):sf a M' L k c:=by obtain⟨ad,md,h1,h2,h3,h4,h5⟩:=h;exact⟨ad,md,s _ _ h1,s.lst h2,s.lst h3,s.lst h4,h5⟩
def pX.sub{A:tP}{V:qH}(h:pX a M A V)(s:qO M M'):pX a M' A V:=⟨s _ _ h.at_,s.lst h.ca,s.lst h.le,s.dk h.nx,s.lst h.on,s.lst h.lo,h.len,λi k c e1 e2=>(h.cs i k c e1 e2).sub s,h.nl,h.np,λx hx=>(h.fo x hx).imp λc e=>s x c e⟩
def sf.oi{k:rT}{c:pM}{x:Uf}{ds:T0 D}(h:sf a M L k c)(kp:sJ x M M')(hl:oN M x=Fa ds)(hx:x∈L)(hn:k.wy≠x):sf a M' L k c:=by obtain⟨ad,md,h1,h2,h3,h4,h5,h6⟩:=h;exact⟨ad,md,kp _ _ (λz=>by rw[z,qE hl]at h1;cases h1) h1,kp.lst hn h2,kp.lst (λz=>h5 (z ▸ hx)) h3,kp.lst (λz=>h6 (z ▸ hx)) h4,h5,h6⟩
def sf.oq{k:rT}{c:pM}{x C:Uf}{fs:T0 (Str×D)}(h:sf a M L k c)(kp:sJ x M M')(hi:M x=Fa (.ins C fs))(hn:k.p≠x):sf a M' L k c:=by obtain⟨ad,md,h1,h2,h3,h4,h5⟩:=h;exact⟨ad,md,kp _ _ hn h1,kp.lst (qd h2 hi) h2,kp.lst (qd h3 hi) h3,kp.lst (qd h4 hi) h4,h5⟩
def vg{a p:Uf}{ds:T0 (rm×D)}{es:T0 D}(h:zr M a=Fa ds)(hp:oN M p=Fa es):a≠p:=λz=>by subst z;unfold zr at h;rw[qE hp]at h;cases h
def sf.o9{k:rT}{c:pM}{x:Uf}{ds:T0 (rm×D)}(h:sf a M L k c)(kp:sJ x M M')(hd:zr M x=Fa ds):sf a M' L k c:=by obtain⟨ad,md,h1,h2,h3,h4,h5⟩:=h;exact⟨ad,md,kp _ _ (λz=>by rw[z,zD hd]at h1;cases h1) h1,kp.lst (dW (vg hd h2)) h2,kp.lst (dW (vg hd h3)) h3,kp.lst (dW (vg hd h4)) h4,h5⟩
def rg{α:Type}{l:List α}{i:Nat}{x:α}(h:l[i]?=Fa x):x∈l:=fD h
def pX.ne{A:tP}{V:qH}(h:pX a M A V):A.ca≠A.le/\A.ca≠A.on/\A.ca≠A.lo/\A.le≠A.on/\A.le≠A.lo/\A.on≠A.lo/\∀k∈A.cs,k.wy≠A.ca/\k.wy≠A.le/\k.wy≠A.on/\k.wy≠A.lo:=by
 have n:=h.nl;unfold tP.lists at n;obtain⟨n1,n⟩:=d6.mp n;obtain⟨n2,n⟩:=d6.mp n;obtain⟨n3,n⟩:=d6.mp n;obtain⟨n4,n⟩:=d6.mp n;have w:∀k∈A.cs,k.wy∈A.cs.map (·.wy):=λk hk=>dJ.mpr ⟨k,hk,Z'⟩;refine⟨λz=>n1 (z ▸ by simp),λz=>n1 (z ▸ by simp),λz=>n1 (z ▸ by simp),λz=>n2 (z ▸ by simp),λz=>n2 (z ▸ by simp),λz=>n3 (z ▸ by simp),λk hk=>⟨λz=>n1 ?_,λz=>n2 ?_,λz=>n3 ?_,λz=>n4 ?_⟩⟩
 .rw[<-z];exact dN _ (dN _ (dN _ (w k hk)))
 .rw[<-z];exact dN _ (dN _ (w k hk))
 .rw[<-z];exact dN _ (w k hk)
 .rw[<-z];exact w k hk
def pX.oF{A:tP}{V:qH}(_:pX a M A V):A.ca∈A.lists/\A.le∈A.lists/\A.lo∈A.lists/\(∀k∈A.cs,k.wy∈A.lists)/\A.on∈A.lists:=by unfold tP.lists;refine⟨by simp,by simp,by simp,?_,by simp⟩;exact λk hk=>by simp;exact .inr (.inr (.inr (.inr ⟨k,hk,Z'⟩)))
def pX.pj{A:tP}{V:qH}(h:pX a M A V):A.ca∈A.lists++V.fo/\A.le∈A.lists++V.fo/\A.lo∈A.lists++V.fo/\(∀k∈A.cs,k.wy∈A.lists++V.fo)/\A.on∈A.lists++V.fo:=by obtain⟨h1,h2,h3,h4,h5⟩:=h.oF;exact⟨fJ _ h1,fJ _ h2,fJ _ h3,λk hk=>fJ _ (h4 k hk),fJ _ h5⟩
def rf(A:tP)(M:Mp)(A':tP)(M':Mp):Prop:=(∀x c,x∉A.foot->M x=Fa c->M' x=Fa c)/\(∀x∈A'.foot,x∈A.foot\/M x=Db)/\(∀(i:Nat) k,A.cs[i]?=Fa k->A'.cs[i]?=Fa k)/\∀x c,M x=Fa c->∃d,M' x=Fa d
def Fs{M:Mp}{p y:Uf}{c d:vd}(h:M y=Fa d):∃e,pQ M p c y=Fa e:=by
 by_cases z:y=p
 .exact⟨c,by rw[z];exact pZ⟩
 .exact⟨d,sJ.put y d z h⟩
def rf.refl{A:tP}:rf A M A M:=⟨λ_ _ _ h=>h,λ_ h=>.inl h,λ_ _ h=>h,λ_ c h=>⟨c,h⟩⟩
def rf.trans{A A1 A2:tP}{M M1 M2:Mp}(s:rf A M A1 M1)(u:rf A1 M1 A2 M2):rf A M A2 M2:=by
 refine⟨λx c n h=>u.1 x c (λz=>?_) (s.1 x c n h),λx hx=>?_,λi k h=>u.2.2.1 i k (s.2.2.1 i k h),λx c h=>(s.2.2.2 x c h).elim λd e=>u.2.2.2 x d e⟩
 .rcases s.2.1 x z with y|y
  .exact n y
  .rw[y]at h;cases h
 .rcases u.2.1 x hx with z|z
  .exact s.2.1 x z
  .by_cases y:x∈A.foot
   .exact .inl y
   .refine .inr ?_;cases e:M x with
    | none=>rfl
    | some c=>rw[s.1 x c y e]at z;cases z
def rf.keep{A:tP}{x:Uf}{c:vd}(h:x∈A.foot)(k:sJ x M (pQ M x c)):rf A M A (pQ M x c):=⟨λy c n e=>k y c (λz=>n (z ▸ h)) e,λ_ h=>.inl h,λ_ _ h=>h,λ_ _ h=>Fs h⟩
def rf.sub{A:tP}(s:qO M M'):rf A M A M':=⟨λy c _ e=>s y c e,λ_ h=>.inl h,λ_ _ h=>h,λx c h=>⟨c,s x c h⟩⟩
def tP.nu(A:tP):A.b∈A.foot/\A.nx∈A.foot/\A.ca∈A.foot/\A.le∈A.foot/\A.lo∈A.foot/\(∀k∈A.cs,k.p∈A.foot)/\∀k∈A.cs,k.wy∈A.foot:=by unfold tP.foot tP.lists;exact⟨by simp,by simp,by simp,by simp,by simp,λk hk=>by simp;exact .inr (.inr (.inr (.inr (.inr (.inr (.inr ⟨k,hk,Z'⟩)))))),λk hk=>by simp;exact .inr (.inr (.inr (.inr (.inr (.inr (.inl ⟨k,hk,Z'⟩))))))⟩
def tP.oh(A:tP){x:Uf}(h:x∈A.lists):x∈A.foot:=by unfold tP.foot;exact dN _ (dN _ (eF.mpr (.inl h)))
variable {M M1:Mp}{A:tP}{V:qH}
def E7{α:Type}{l:List α}{i j:Nat}{x y:α}(h:(l.set i x)[j]?=Fa y):(j=i/\y=x/\i<l.length)\/(j≠i/\l[j]?=Fa y):=by
 by_cases z:j=i
 .subst z;by_cases hl:j<l.length
  .rw[eW hl]at h;exact .inl ⟨Z',(dD h).symm,hl⟩
  .rw[gJ (by rw[iB];lia)]at h;cases h
 .rw[fg (dW z)]at h;exact .inr ⟨z,h⟩
def MQ{α β:Type}{f:α->β}{l:List α}{i j:Nat}{x y:α}(nd:(l.map f).Nodup)(h1:l[i]?=Fa x)(h2:l[j]?=Fa y)(e:f x=f y):i=j:=by
 have e1:(l.map f)[i]?=Fa (f x):=by rw[dM,h1];rfl
 have e2:(l.map f)[j]?=Fa (f y):=by rw[dM,h2];rfl
 obtain⟨l1,q1⟩:=dv.mp e1;obtain⟨l2,q2⟩:=dv.mp e2;exact(lW nd).mp (q1.trans (e.trans q2.symm))
def pX.nw(h:pX a M A V):(A.cs.map (·.wy)).Nodup:=(d6.mp (d6.mp (d6.mp (d6.mp h.nl).2).2).2).2
def pX.oV(h:pX a M A V):(A.cs.map (·.p)).Nodup/\∀k∈A.cs,k.p≠A.b:=⟨(d6.mp h.np).2,λk hk z=>(d6.mp h.np).1 (z ▸ dJ.mpr ⟨k,hk,Z'⟩)⟩
def pX.oH(h:pX a M A V){es:T0 Ev}:pX a (pQ M A.lo (.lst (es.map Ev.d))) A {V with log:=es}/\rf A M A (pQ M A.lo (.lst (es.map Ev.d))):=by have kp:sJ A.lo M (pQ M A.lo (.lst (es.map Ev.d))):=.put;obtain⟨n1,n2,n3,n4,n5,n6,nw⟩:=h.ne;exact⟨⟨kp _ _ (dW (qd h.lo h.at_)) h.at_,kp.lst n3 h.ca,kp.lst n5 h.le,kp.dk (vg h.nx h.lo) h.nx,kp.lst n6 h.on,pT,h.len,λi k c e1 e2=>(h.cs i k c e1 e2).oi kp h.lo h.pj.2.2.1 (nw k (rg e1)).2.2.2,h.nl,h.np,wW h.fo⟩,.keep A.nu.2.2.2.2.1 kp⟩
def pX.oQ(h:pX a M A V){es:List sA}:pX a (pQ M A.le (.lst (es.map sA.d))) A {V with nq:=es}/\rf A M A (pQ M A.le (.lst (es.map sA.d))):=by have kp:sJ A.le M (pQ M A.le (.lst (es.map sA.d))):=.put;obtain⟨n1,n2,n3,n4,n5,n6,nw⟩:=h.ne;exact⟨⟨kp _ _ (dW (qd h.le h.at_)) h.at_,kp.lst n1 h.ca,pT,kp.dk (vg h.nx h.le) h.nx,kp.lst (dW n4) h.on,kp.lst (dW n5) h.lo,h.len,λi k c e1 e2=>(h.cs i k c e1 e2).oi kp h.le h.pj.2.1 (nw k (rg e1)).2.1,h.nl,h.np,wW h.fo⟩,.keep A.nu.2.2.2.1 kp⟩
def pX.oY(h:pX a M A V){bs:T0 Bool}:pX a (pQ M A.on (.lst (bs.map D.bl))) A {V with on:=bs}/\rf A M A (pQ M A.on (.lst (bs.map D.bl))):=by have kp:sJ A.on M (pQ M A.on (.lst (bs.map D.bl))):=.put;obtain⟨n1,n2,n3,n4,n5,n6,nw⟩:=h.ne;exact⟨⟨kp _ _ (dW (qd h.on h.at_)) h.at_,kp.lst n2 h.ca,kp.lst n4 h.le,kp.dk (vg h.nx h.on) h.nx,pT,kp.lst (dW n6) h.lo,h.len,λi k c e1 e2=>(h.cs i k c e1 e2).oi kp h.on h.pj.2.2.2.2 (nw k (rg e1)).2.2.1,h.nl,h.np,wW h.fo⟩,.keep (A.oh h.oF.2.2.2.2) kp⟩
def pX.pk(h:pX a M A V){ps:T0 (Str×Int)}:pX a (pQ M A.nx (.dk (ua ps))) A {V with ps:=ps}/\rf A M A (pQ M A.nx (.dk (ua ps))):=by have kp:sJ A.nx M (pQ M A.nx (.dk (ua ps))):=.put;exact⟨⟨kp _ _ (dW (C5 h.nx h.at_)) h.at_,kp.lst (dW (vg h.nx h.ca)) h.ca,kp.lst (dW (vg h.nx h.le)) h.le,Ew pZ,kp.lst (dW (vg h.nx h.on)) h.on,kp.lst (dW (vg h.nx h.lo)) h.lo,h.len,λi k c e1 e2=>(h.cs i k c e1 e2).o9 kp h.nx,h.nl,h.np,wW h.fo⟩,.keep A.nu.2.1 kp⟩
def pX.putT(h:pX a M A V){t:Int}:pX a (pQ M A.b (.ins a.c (ui (.ref V.p) V.h t A.ca A.le A.nx A.on A.lo))) A {V with t:=t}/\rf A M A (pQ M A.b (.ins a.c (ui (.ref V.p) V.h t A.ca A.le A.nx A.on A.lo))):=by have kp:sJ A.b M (pQ M A.b (.ins a.c (ui (.ref V.p) V.h t A.ca A.le A.nx A.on A.lo))):=.put;exact⟨⟨pZ,kp.lst (qd h.ca h.at_) h.ca,kp.lst (qd h.le h.at_) h.le,kp.dk (C5 h.nx h.at_) h.nx,kp.lst (qd h.on h.at_) h.on,kp.lst (qd h.lo h.at_) h.lo,h.len,λi k c e1 e2=>(h.cs i k c e1 e2).oq kp h.at_ (h.oV.2 k (rg e1)),h.nl,h.np,wW h.fo⟩,.keep A.nu.1 kp⟩
def pX.oB(h:pX a M A V){i:Nat}{k:rT}{c c':pM}{ad md:Uf}(e1:A.cs[i]?=Fa k)(e2:V.calls[i]?=Fa c)(ew:c'.way=c.way)(la:oN M ad=Fa (c'.at_.map D.str))(lm:oN M md=Fa (c'.ms.map D.str))(na:ad∉A.lists++V.fo)(nm:md∉A.lists++V.fo):
  pX a (pQ M k.p (.ins a.e (rG c' k.wy ad md))) A {V with calls:=V.calls.set i c'}/\rf A M A (pQ M k.p (.ins a.e (rG c' k.wy ad md))):=by
 have kp:sJ k.p M (pQ M k.p (.ins a.e (rG c' k.wy ad md))):=.put;obtain⟨_,_,h1,h2,_⟩:=h.cs i k c e1 e2;refine⟨⟨kp _ _ (dW (h.oV.2 k (rg e1))) h.at_,kp.lst (qd h.ca h1) h.ca,kp.lst (qd h.le h1) h.le,kp.dk (C5 h.nx h1) h.nx,kp.lst (qd h.on h1) h.on,kp.lst (qd h.lo h1) h.lo,by rw[h.len,iB],λj k' d f1 f2=>?_,h.nl,h.np,wW h.fo⟩,.keep (A.nu.2.2.2.2.2.1 k (rg e1)) kp⟩;rcases E7 f2 with⟨rfl,rfl,_⟩|⟨hj,f2⟩
 .rw[e1]at f1;cases f1;exact⟨ad,md,pZ,by rw[ew];exact kp.lst (qd h2 h1) h2,kp.lst (qd la h1) la,kp.lst (qd lm h1) lm,na,nm⟩
 .exact(h.cs j k' d f1 f2).oq kp h1 λz=>hj (MQ h.oV.1 f1 e1 z)
def pX.oR(h:pX a M A V){i:Nat}{k:rT}{c:pM}{ws:QQQ}(e1:A.cs[i]?=Fa k)(e2:V.calls[i]?=Fa c):
  pX a (pQ M k.wy (.lst (ws.map D.str))) A {V with calls:=V.calls.set i {c with way:=ws}}/\rf A M A (pQ M k.wy (.lst (ws.map D.str))):=by
 have kp:sJ k.wy M (pQ M k.wy (.lst (ws.map D.str))):=.put;obtain⟨ad,md,h1,h2,h3,h4,h5,h6⟩:=h.cs i k c e1 e2;obtain⟨n1,n2,n3,n4,n5,n6,nw⟩:=h.ne;obtain⟨w1,w2,w3,w4⟩:=nw k (rg e1);have kL:=h.pj.2.2.2.1 k (rg e1);refine⟨⟨kp _ _ (dW (qd h2 h.at_)) h.at_,kp.lst (dW w1) h.ca,kp.lst (dW w2) h.le,kp.dk (vg h.nx h2) h.nx,kp.lst (dW w3) h.on,kp.lst (dW w4) h.lo,by rw[h.len,iB],λj k' d f1 f2=>?_,h.nl,h.np,wW h.fo⟩,.keep (A.nu.2.2.2.2.2.2 k (rg e1)) kp⟩;rcases E7 f2 with⟨rfl,rfl,_⟩|⟨hj,f2⟩
 .rw[e1]at f1;cases f1;exact⟨ad,md,kp _ _ (dW (qd h2 h1)) h1,pT,kp.lst (λz=>h5 (z ▸ kL)) h3,kp.lst (λz=>h6 (z ▸ kL)) h4,h5,h6⟩
 .exact(h.cs j k' d f1 f2).oi kp h2 kL λz=>hj (MQ h.nw f1 e1 z)
noncomputable def tP.add(A:tP)(k:rT):tP:={A with cs:=A.cs++[k]}
def Aj(A:tP)(k:rT):(A.add k).lists=A.lists++[k.wy]:=by unfold tP.add tP.lists;rw[dZ];rfl
def pX.dom(h:pX a M A V):(∀x∈A.lists,∃ds,oN M x=Fa ds)/\∀x∈A.foot,∃c,M x=Fa c:=by
 have hc:∀k∈A.cs,(∃ds,oN M k.wy=Fa ds)/\∃c,M k.p=Fa c:=λk hk=>by
  obtain⟨i,hi,e⟩:=g9 hk;have e1:A.cs[i]?=Fa k:=by rw[dg hi,e]
  have YI:i<V.calls.length:=by rw[<-h.len];exact hi
  have e2:V.calls[i]?=Fa V.calls[i]:=dg YI;obtain⟨ad,md,h1,h2,_⟩:=h.cs i k _ e1 e2;exact⟨⟨_,h2⟩,_,h1⟩
 have hl:∀x∈A.lists,∃ds,oN M x=Fa ds:=λx hx=>by
  unfold tP.lists at hx;simp only[dC,dJ]at hx;rcases hx with rfl|rfl|rfl|rfl|⟨k,hk,rfl⟩
  .exact⟨_,h.ca⟩
  .exact⟨_,h.le⟩
  .exact⟨_,h.on⟩
  .exact⟨_,h.lo⟩
  .exact(hc k hk).1
 refine⟨hl,λx hx=>?_⟩;unfold tP.foot at hx;simp only[dC,eF,dJ]at hx;rcases hx with rfl|rfl|hx|⟨k,hk,rfl⟩
 .exact⟨_,h.at_⟩
 .exact⟨_,zD h.nx⟩
 .obtain⟨ds,e⟩:=hl x hx;exact⟨_,qE e⟩
 .exact(hc k hk).2
def pX.ou(h:pX a M A V){x:Uf}(hx:M x=Db):x∉A.lists:=λz=>by obtain⟨ds,e⟩:=h.dom.1 x z;have:=qE e;rw[hx]at this;cases this
def pX.nJ(h:pX a M A V){x:Uf}(hx:M x=Db):x∉A.lists++V.fo:=λz=>by
 rcases eF.mp z with z|z
 .exact h.ou hx z
 .obtain⟨c,e⟩:=h.fo x z;rw[hx]at e;cases e
def pX.oa(h:pX a M A V){x:Uf}(hx:M x=Db):x∉A.foot:=λz=>by obtain⟨ds,e⟩:=h.dom.2 x z;rw[hx]at e;cases e
def pX.oz(h:pX a M A V)(s:qO M M1){p wy ad md:Uf}{c:pM}(hp:M p=Db)(hw:M wy=Db)(ha:M ad=Db)(hm:M md=Db)(h1:M1 p=Fa (.ins a.e (rG c wy ad md)))(h2:oN M1 wy=Fa (c.way.map D.str))(h3:oN M1 ad=Fa (c.at_.map D.str))(h4:oN M1 md=Fa (c.ms.map D.str))(n1:ad≠wy)(n2:md≠wy):
  pX a (pQ M1 A.ca (.lst ((A.cs.map λk=>D.ref k.p)++[.ref p]))) (A.add ⟨p,wy⟩) {V with calls:=V.calls++[c]}/\rf A M (A.add ⟨p,wy⟩) (pQ M1 A.ca (.lst ((A.cs.map λk=>D.ref k.p)++[.ref p]))):=by
 have h':=h.sub s;have kp:sJ A.ca M1 (pQ M1 A.ca (.lst ((A.cs.map λk=>D.ref k.p)++[.ref p]))):=.put;obtain⟨m1,m2,m3,m4,m5,m6,nw⟩:=h.ne;have wL:wy∉A.lists:=h.ou hw;have cL:=h.pj.1;have nl':∀x,x∉A.lists++V.fo->x≠wy->x∉(A.add ⟨p,wy⟩).lists++V.fo:=λx h1 h2=>by
  rw[Aj,eF,eF,dI]
  rintro ((z|z)|z)
  .exact h1 (fJ _ z)
  .exact h2 z
  .exact h1 (eO _ z)
 have Yp:∀x c,M x=Fa c->x≠wy:=λx c e z=>by rw[z,hw]at e;cases e
 refine⟨⟨kp _ _ (dW (qd h'.ca h'.at_)) h'.at_,?_,kp.lst (dW m1) h'.le,kp.dk (vg h'.nx h'.ca) h'.nx,kp.lst (dW m2) h'.on,kp.lst (dW m3) h'.lo,?_,λi k d e1 e2=>?_,?_,?_,wW h'.fo⟩,λx d n e=>kp x d (λz=>n (z ▸ A.nu.2.2.1)) (s x d e),λx hx=>?_,λi k e=>by show(A.cs++[(⟨p,wy⟩:rT)])[i]?=Fa k;rw[fm (dv.mp e).1];exact e,λx d e=>Fs (s x d e)⟩
 .show oN _ A.ca=Fa ((A.cs++[(⟨p,wy⟩:rT)]).map λk=>D.ref k.p);rw[dZ];exact pT
 .show(A.cs++[(⟨p,wy⟩:rT)]).length=(V.calls++[c]).length;rw[dq,dq,h.len];rfl
 .have e1:(A.cs++[(⟨p,wy⟩:rT)])[i]?=Fa k:=e1;have e2:(V.calls++[c])[i]?=Fa d:=e2;by_cases hi:i<A.cs.length
  .rw[fm hi]at e1;rw[fm (by rw[<-h.len];exact hi)]at e2;obtain⟨ad',md',g1,g2,g3,g4,g5,g6⟩:=(h.cs i k d e1 e2);refine⟨ad',md',kp _ _ (λz=>by have:=s _ _ g1;rw[z,qE h'.ca]at this;cases this) (s _ _ g1),kp.lst (nw k (rg e1)).1 (s.lst g2),kp.lst (λz=>g5 (z ▸ cL)) (s.lst g3),kp.lst (λz=>g6 (z ▸ cL)) (s.lst g4),nl' _ g5 (Yp _ _ (qE g3)),nl' _ g6 (Yp _ _ (qE g4))⟩
  .have Zr:i=A.cs.length:=by have:=(dv.mp e1).1;rw[dq,dX]at this;lia
   subst Zr;rw[fj (dE _)]at e1;rw[h.len,fj (dE _)]at e2;simp only[iq,iQ,jK]at e1 e2;subst e1 e2;have q1:p≠A.ca:=λz=>by rw[z,qE h'.ca]at h1;cases h1
   have q2:wy≠A.ca:=λz=>wL (z ▸ h.oF.1);exact⟨ad,md,kp p _ q1 h1,kp.lst (a:=wy) q2 h2,kp.lst (λz=>h.nJ ha (z ▸ cL)) h3,kp.lst (λz=>h.nJ hm (z ▸ cL)) h4,nl' _ (h.nJ ha) n1,nl' _ (h.nJ hm) n2⟩
 .rw[Aj];refine gx.mpr ⟨h.nl,d6.mpr ⟨dQ,eU⟩,λx hx y hy=>?_⟩;rw[dI]at hy;subst hy;exact λz=>wL (z ▸ hx)
 .show(A.b::(A.cs++[(⟨p,wy⟩:rT)]).map (·.p)).Nodup;rw[dZ,<-List.cons_append];refine gx.mpr ⟨h.np,d6.mpr ⟨dQ,eU⟩,λx hx y hy=>?_⟩;rw[eh,je,dI]at hy;subst hy;refine λz=>h.oa hp (z ▸ ?_);rcases dC.mp hx with y|y
  .rw[y];exact A.nu.1
  .obtain⟨k,hk,rfl⟩:=dJ.mp y;exact A.nu.2.2.2.2.2.1 k hk
 .unfold tP.foot at hx;rw[Aj]at hx;have hx:x∈A.b::A.nx::(A.lists++[wy]++(A.cs++[(⟨p,wy⟩:rT)]).map (·.p)):=hx;simp only[dC,eF,dZ,eh,je,dQ,fv]at hx;unfold tP.foot;simp only[dC,eF];rcases hx with z|z|(z|z)|(z|z)
  .exact .inl (.inl z)
  .exact .inl (.inr (.inl z))
  .exact .inl (.inr (.inr (.inl z)))
  .exact .inr (by rw[z];exact hw)
  .exact .inl (.inr (.inr (.inr z)))
  .exact .inr (by rw[z];exact hp)
def pX.oO{V:qH}{p:Uf}{es:List sA}(h:pX a M A V)(hp:M p=Db):
  pX a (pQ (pQ M p (.lst (es.map sA.d))) A.b (.ins a.c (ui (.ref V.p) V.h V.t A.ca p A.nx A.on A.lo))) {A with le:=p} {V with nq:=es}/\rf A M {A with le:=p} (pQ (pQ M p (.lst (es.map sA.d))) A.b (.ins a.c (ui (.ref V.p) V.h V.t A.ca p A.nx A.on A.lo))):=by
 obtain⟨M1,e0,t,lp⟩:=xl (ds:=es.map sA.d) hp;rw[<-e0];have h1:=h.sub t;have np:p∉A.lists:=h.ou hp;have nf:p∉A.foot:=h.oa hp;have Yp:∀x c,M x=Fa c->x≠p:=λx c e z=>by rw[z,hp]at e;cases e
 have kp:sJ A.b M1 (pQ M1 A.b (.ins a.c (ui (.ref V.p) V.h V.t A.ca p A.nx A.on A.lo))):=.put;have sub:∀x,x∉A.lists++V.fo->x≠p->x∉({A with le:=p}:tP).lists++V.fo:=λx h1 h2 z=>by
  rcases eF.mp z with z|z
  rotate_left
  .exact h1 (eO _ z)
  have h1:x∉A.lists:=λy=>h1 (fJ _ y);unfold tP.lists at h1 z;simp only[dC,fV]at h1 z;rcases z with z|z|z|z|z
  .exact h1.1 z
  .exact h2 z
  .exact h1.2.2.1 z
  .exact h1.2.2.2.1 z
  .exact h1.2.2.2.2 z
 refine⟨⟨pZ,kp.lst (qd h1.ca h1.at_) h1.ca,kp.lst (qd lp h1.at_) lp,kp.dk (C5 h1.nx h1.at_) h1.nx,kp.lst (qd h1.on h1.at_) h1.on,kp.lst (qd h1.lo h1.at_) h1.lo,h.len,λi k c e1 e2=>?_,?_,h.np,wW h1.fo⟩,λx c n e=>kp x c (λz=>n (z ▸ A.nu.1)) (t x c e),λx hx=>?_,λi k e=>e,λx d e=>Fs (t x d e)⟩
 .obtain⟨ad,md,g1,g2,g3,g4,g5,g6⟩:=(h.cs i k c e1 e2);obtain⟨ad',md',f1,f2,f3,f4,f5⟩:=((h.cs i k c e1 e2).sub t).oq kp h1.at_ (h.oV.2 k (rg e1));have q1:=kp _ _ (λz=>h.oV.2 k (rg e1) z) (t _ _ g1);exact⟨ad,md,q1,f2,kp.lst (qd (t.lst g3) h1.at_) (t.lst g3),kp.lst (qd (t.lst g4) h1.at_) (t.lst g4),sub _ g5 (Yp _ _ (qE g3)),sub _ g6 (Yp _ _ (qE g4))⟩
 .have n:=h.nl;unfold tP.lists at n np ⊢;simp only[dC,fV]at np;simp only[d6,dC,fV]at n ⊢;exact⟨⟨λz=>np.1 z.symm,n.1.2⟩,⟨np.2.2.1,np.2.2.2.1,np.2.2.2.2⟩,n.2.2⟩
 .by_cases z:x=p
  .exact .inr (z ▸ hp)
  .refine .inl ?_;unfold tP.foot tP.lists at hx ⊢;simp only[dC,eF]at hx ⊢;rcases hx with y|y|(y|y|y|y|y)|y
   .exact .inl y
   .exact .inr (.inl y)
   .exact .inr (.inr (.inl (.inl y)))
   .exact absurd y z
   .exact .inr (.inr (.inl (.inr (.inr (.inl y)))))
   .exact .inr (.inr (.inl (.inr (.inr (.inr (.inl y))))))
   .exact .inr (.inr (.inl (.inr (.inr (.inr (.inr y))))))
   .exact .inr (.inr (.inr y))
def vX(x:D)(l:T0 D):wO (x::l) 0=Fa x:=by
 unfold wO;have:GT (x::l).length 0=Fa 0:=by unfold GT;rw[eK];simp
 rw[this];rfl
def yi(f:pM->Str->Bool)(a:Ad):rB:=λds M Q=>Au λL k c x=>ds=[.ref k.p,.str x]/\sf a M L k c/\Q (.bl (f c x)) M
abbrev HL:=yi pM.hasB
abbrev zk:=yi pM.nj
abbrev FG:=yi pM.nk
abbrev yR:=yi pM.ng
abbrev vR:=yi pM.mZ
abbrev ES:=yi pM.ni
abbrev xJ:=yi pM.nN
noncomputable def PV(x:Str):D->Bool
 | .str y=>!(y==x)
 | _=>lf
def zE(a:Ad):rB:=λds M Q=>IS λL k c x y r=>ds=[.ref k.p,.str x]/\sf a M L k c/\c.ms.length<=100/\rX c.ms x=y::r/\Q (.str y) M
def Dg(ss:QQQ)(x:Str):[]++(List.filter (PV x) (ss.map D.str)).map id=(rX ss x).map D.str:=by rw[eB,jz,gK];rfl
def CW{k:Uf}{ks:QQQ}{c:Str}{K:DK}(hk:oN M k=Fa (ks.map D.str))(h:K (.bl (hasS ks c)) M):S9 lf (.str c) (.ref k) M K:=by refine i' hk ⟨Z',qm ks,?_⟩;show K (.bl (inD (.str c) (ks.map D.str))) M;rw[rh];exact h
def Vs(w x y:Str):inD (.str w) [.str x,.str y]=(w==x||w==y):=by rw[show[D.str x,D.str y]=[x,y].map D.str from rfl,rh,gf];simp only[fR,List.any_nil,gy,ib,fh];exact⟨λh=>h.imp mz mz,λh=>h.imp mz mz⟩
def SN:Fq P w K mg base 1 a.bP (HL a):=by
 refine fq G.bP.toDG GF (λr u=>⟨_,(pF (pV (pN u (pK v0) pJ)
 (pG (pL (Er (ql u U1 (pK v0)) (rN (ql u U1 (pK v0))))))
 pO)
 (pF (pV (pN u (pK v0) pJ)
 (pG (pL (ql u U1 (pK v0))))
 pO)
 (pG (pL (sv (ql u (pK v0) (pW (rQ pJ pJ))) (rN (ql u U1 (pK v0)))))))),?_⟩)
 rintro ds M Q ⟨L,k,c,x,rfl,⟨ad,md,h1,h2,h3,h4,_⟩,q⟩
 unfold pM.hasB at q;refine pH h1 (i' Z' ?_);refine qv (c:=c.st=="rings") (λg=>?_) (λg=>?_)
 .rw[dw g]at q;refine pH h1 (i' Z' (qv (c:=x==c.cr) (λg2=>?_) (λg2=>?_)))
  .rw[g2]at q;exact⟨M,.refl,q⟩
  .rw[show(x==c.cr)=lf from dB.mpr g2,fK]at q;exact pH h1 (i' Z' (CW h3 ⟨M,.refl,q⟩))
 .rw[dh g]at q;refine pH h1 (i' Z' ?_);refine qv (c:=c.st=="waits") (λg2=>?_) (λg2=>?_)
  .rw[dw g2]at q;exact pH h1 (i' Z' ⟨M,.refl,q⟩)
  .rw[dh g2]at q;refine pH h1 (i' Z' ⟨pD Z',Z',Z',?_⟩);show if inD (.str c.st) [.str "talks",.str "held"]=pc then _ else _
   rw[Vs];refine qv (λg3=>?_) (λg3=>?_)
   .rw[g3,eN]at q;exact pH h1 (i' Z' (CW h4 ⟨M,.refl,q⟩))
   .rw[show(c.st=="talks"||c.st=="held")=lf from dB.mpr g3,eR]at q;exact⟨M,.refl,q⟩
def wB:Fq P w K mg base 1 a.X (zk a):=by
 refine fq G.X.toDG yM (λr u=>⟨_,(pG (pL (sv (ql u (pK v0) pJ) (rN (ql u U1 (pK v0)))))),?_⟩)
 rintro ds M Q ⟨L,k,c,x,rfl,⟨ad,md,h1,h2,h3,h4,_⟩,q⟩
 unfold pM.nj at q;refine pH h1 (i' Z' (qv (c:=c.st=="talks") (λg=>?_) (λg=>?_)))
 .rw[g,eN]at q;exact pH h1 (i' Z' (CW h4 ⟨M,.refl,q⟩))
 .rw[show(c.st=="talks")=lf from dB.mpr g,eR]at q;exact⟨M,.refl,q⟩
def LN:Fq P w K mg base 2 a.bO (FG a):=by
 refine fq G.bO.toDG DV (λr u=>⟨_,(pF (pV (pN u (pK v0) pJ)
 (pG (pL (sv (ql u U1 (pK v0)) (rN (ql u U1 (pK v0))))))
 pO)
 (pG (pL (qh v0 G.e.toCls G.X (wB G) r (qz U1))))),?_⟩)
 rintro ds M Q ⟨L,k,c,x,rfl,hc,q⟩
 obtain⟨ad,md,h1,h2,h3,h4,_⟩:=id hc;unfold pM.nk at q;refine pH h1 (i' Z' ?_);refine qv (c:=c.st=="held") (λg=>?_) (λg=>?_)
 .rw[dw g]at q;refine pH h1 (i' Z' (i' h4 ⟨Z',qm c.ms,?_⟩));show if inD (.str x) (c.ms.map D.str)=pc then _ else _
  rw[rh];refine qv (c:=hasS c.ms x) (λg2=>?_) (λg2=>?_)
  .rw[g2,eN]at q;refine pH h1 (i' Z' ?_);cases e:c.hd with
   | none=>rw[e]at q;exact⟨M,.refl,q⟩
   | some y=>
    rw[e]at q;refine⟨M,.refl,?_⟩;rw[show(!(Fa y==Fa x))=!(x==y)from by
     show(!(y==x))=_;rw[mB]]at q
    exact q
  .rw[show hasS c.ms x=lf from dB.mpr g2,eR]at q;exact⟨M,.refl,q⟩
 .rw[dh g]at q;exact pH h1 ⟨Z',_,⟨Z',Z'⟩,L,k,c,x,Z',hc,M,.refl,q⟩
def C1:Fq P w K mg base 1 a.Y (yR a):=by
 refine fq G.Y.toDG yE (λr u=>⟨_,(pG (pL (sv (ql u (pK v0) (pW (rQ pJ pJ))) (rN (ql u U1 (pK v0)))))),?_⟩)
 rintro ds M Q ⟨L,k,c,x,rfl,⟨ad,md,h1,h2,h3,h4,_⟩,q⟩
 unfold pM.ng at q;refine pH h1 (i' Z' ⟨pD Z',Z',Z',?_⟩);show if inD (.str c.st) [.str "rings",.str "waits"]=pc then _ else _
 rw[Vs];refine qv (λg3=>?_) (λg3=>?_)
 .rw[g3,eN]at q;exact pH h1 (i' Z' ⟨M,.refl,q⟩)
 .rw[show(c.st=="rings"||c.st=="waits")=lf from dB.mpr g3,eR]at q;exact⟨M,.refl,q⟩
def Hr:Fq P w K mg base 1 a.az (vR a):=by
 refine fq G.az.toDG zd (λr u=>⟨_,(pG (pL (sv (ql u (pK v0) pJ) (rN (ql u U1 (pK v0)))))),?_⟩)
 rintro ds M Q ⟨L,k,c,x,rfl,⟨ad,md,h1,h2,h3,h4,_⟩,q⟩
 unfold pM.mZ at q;refine pH h1 (i' Z' (qv (c:=c.st=="waits") (λg=>?_) (λg=>?_)))
 .rw[g,eN]at q;exact pH h1 (i' Z' (CW h3 ⟨M,.refl,q⟩))
 .rw[show(c.st=="waits")=lf from dB.mpr g,eR]at q;exact⟨M,.refl,q⟩
def Od:Fq P w K mg base 2 a.bN (xJ a):=by
 refine fq G.bN.toDG xh (λr u=>⟨_,(pG (pL (Er (qh v0 G.e.toCls G.Y (C1 G) r (qz U1)) (Er (ql u U1 (pK v0)) (rN (ql u U1 (pK v0))))))),?_⟩)
 rintro ds M Q ⟨L,k,c,x,rfl,hc,q⟩
 obtain⟨ad,md,h1,h2,h3,h4,_⟩:=id hc;unfold pM.nN at q;refine pH h1 ⟨Z',_,⟨Z',Z'⟩,L,k,c,x,Z',hc,qv (c:=c.ng x) (λg=>?_) (λg=>?_)⟩
 .rw[g]at q;exact⟨M,.refl,q⟩
 .rw[show c.ng x=lf from dB.mpr g,fK]at q;refine pH h1 (i' Z' (i' h3 ⟨Z',qm c.at_,?_⟩));show if inD (.str x) (c.at_.map D.str)=pc then _ else _
  rw[rh];refine qv (c:=hasS c.at_ x) (λg2=>?_) (λg2=>?_)
  .rw[g2]at q;exact⟨M,.refl,q⟩
  .rw[show hasS c.at_ x=lf from dB.mpr g2,fK]at q;exact pH h1 (i' Z' (CW h4 ⟨M,.refl,q⟩))
def GS:Fq P w K mg base 2 a.aA (ES a):=by
 refine fq G.aA.toDG Dm (λr u=>⟨_,(pG (pL (sv (qh v0 G.e.toCls G.X (wB G) r (qz U1)) (rN (ql u (qa qD Z' G.g qB (qz (pK v0))) pI))))),?_⟩)
 rintro ds M Q ⟨L,k,c,x,rfl,hc,q⟩
 obtain⟨ad,md,h1,h2,h3,h4,_⟩:=id hc;unfold pM.ni at q;refine pH h1 ⟨Z',_,⟨Z',Z'⟩,L,k,c,x,Z',hc,qv (c:=c.nj x) (λg=>?_) (λg=>?_)⟩
 .rw[g,eN]at q;refine pH h1 (i' Z' (i' h4 ⟨M,.refl,?_⟩));rw[de];have:(((c.ms.length:Nat):Int)==2)=(c.ms.length==2):=by rw[gf,fh,fh];lia
  show Q (.bl (((c.ms.length:Nat):Int)==2)) M;rw[this];exact q
 .rw[show c.nj x=lf from dB.mpr g,eR]at q;exact⟨M,.refl,q⟩
def G5:Fq P w K mg base 1 a.aB (zE a):=by
 refine fq G.aB.toDG y8 (λr u=>⟨_,(pG (pL (pS (qP Z' (yh (ix:=[Db,Fa 1]) (N':=["member","phone"])) (qL (pK v0)) (qM 0) (vI (pN u v0 U1)) v0) pI))),?_⟩)
 rintro ds M Q ⟨L,k,c,x,y,r,rfl,hc,hl,e,q⟩
 have hz:=dR;obtain⟨ad,md,h1,h2,h3,h4,_⟩:=id hc;refine pH h1 (i' Z' (i' h4 (tG (f:=id) (t:=PV x) h4 _ [] _ (by rw[de];simp only[dS];lia) (λd hd k0 hk=>?_) (λd hd _ k0 hk=>?_) λp hp=>?_)))
 .obtain⟨y,hy,rfl⟩:=dJ.mp hd;exact hk
 .obtain⟨y,hy,rfl⟩:=dJ.mp hd;exact hk
 rw[Dg,e];exact i' pT (i' (vX _ _) ⟨M,.new hp,q⟩)
theorem CH:∀bs:T0 Bool,Bt (.bl pc) (bs.map D.bl)=bs.findIdx? id
 | []=>rfl
 | b::r=>by rw[eh,List.findIdx?_cons];unfold Bt;rw[CH r];cases b<;>rfl
theorem MD(x:D):∀ds:T0 D,(Bt x ds).isSome=ds.any λd=>Q1 d x
 | []=>rfl
 | d::r=>by
  unfold Bt;rw[fR];by_cases h:Q1 d x=pc
  .rw[dw h,h];rfl
  .rw[dh h,jJ,MD x r,show Q1 d x=lf from dB.mpr h,fK]
theorem Cy:∀bs:T0 Bool,(bs.map D.bl).all vi=pc
 | []=>rfl
 | _::r=>by rw[eh,eL,Cy r];rfl
structure Rd(a:Ad)(M:Mp)(A:tP)(V:qH)(l:pR):Prop where
 bd:pX a M A V
 k:V.calls.length<=1000000
 pl:tW a M V.p l
 ok:sj l
 on:V.on.length=l.mU.length
 ms:∀c∈V.calls,(∀x∈c.ms,x∈l.pn)/\c.ms.length<=100
def Rd.sub{V:qH}(h:Rd a M A V l)(s:qO M M'):Rd a M' A V l:=⟨h.bd.sub s,h.k,h.pl.sub s,h.ok,h.on,h.ms⟩
def LL:rB:=λds M Q=>z9 λr bs=>ds=[.ref r]/\oN M r=Fa (List.map D.bl bs)/\Q (Qw (bs.findIdx? id)) M
def Kq(f:qH->Str->D)(a:Ad):rB:=λds M Q=>Di λA V x=>ds=[.ref A.b,.str x]/\pX a M A V/\V.calls.length<=1000000/\Q (f V x) M
def Uu(V:qH)(x:Str):D:=.int (uT V x:Nat)
def Mn(V:qH)(x:Str):D:=Qw (CB V x)
def AX(V:qH)(x:Str):D:=Qw (vY V x)
def Ut(V:qH)(x:Str):D:=Qw (GV V x)
def Vy(V:qH)(x:Str):D:=.bl (AM V x)
abbrev Fv:=Kq Uu
abbrev DO:=Kq Mn
abbrev Bl:=Kq AX
abbrev Bb:=Kq Ut
abbrev AH:=Kq Vy
def xD(a:Ad):rB:=λds M Q=>Au λA V l x=>ds=[.ref A.b,.str x]/\Rd a M A V l/\x∈l.pn/\Q (.bl (sD l V x)) M
def AF(a:Ad):rB:=λds M Q=>FV λA V l c z=>ds=[.ref A.b,.str c,.str z]/\Rd a M A V l/\z∈l.nm/\∀q M',qO M M'->M q=Db->oN M' q=Fa ((uG l V c z).map D.str)->Q (.ref q) M'
def As(a:Ad):rB:=λds M Q=>z9 λA V=>ds=[.ref A.b]/\pX a M A V/\Q (.int ((V.h+V.t) % 24)) M
def Pi(a:Ad):rB:=λds M Q=>FV λA V l c z=>ds=[.ref A.b,.str c,.str z]/\Rd a M A V l/\z∈l.nm/\Q (.bl (yb l V c z)) M
def ym{V:qH}(h:pX a M A V){pre post:T0 D}{d:D}(e:pre++d::post=A.cs.map λk=>D.ref k.p):∃k c,A.cs[pre.length]?=Fa k/\V.calls[pre.length]?=Fa c/\d=.ref k.p/\sf a M (A.lists++V.fo) k c/\V.calls.take (pre.length+1)=V.calls.take pre.length++[c]:=by
 have h1:(A.cs.map λk=>D.ref k.p)[pre.length]?=Fa d:=by rw[<-e];simp
 rw[dM]at h1;cases z:A.cs[pre.length]? with
 | none=>rw[z]at h1;cases h1
 | some k=>
  rw[z]at h1;have hi:pre.length<V.calls.length:=by rw[<-h.len];exact(dv.mp z).1
  have e2:V.calls[pre.length]?=Fa V.calls[pre.length]:=dg hi;refine⟨k,_,Z',e2,(dD h1).symm,h.cs _ _ _ z e2,?_⟩;rw[ii,e2];rfl
def w9{l:pR}{x:Str}(h:x∈l.pn):∃v,l.nB x=Fa v:=by
 obtain⟨p,hp,rfl⟩:=dJ.mp h;unfold pR.nB;cases e:l.mV.find? λq=>decide (q.1=p.1)with
 | some v=>exact⟨v,Z'⟩
 | none=>exact absurd (ic.mp e p hp) (by simp)
def qN:hasS ss x=pc↔x∈ss:=by unfold hasS;rw[fY];exact⟨λ⟨y,hy,e⟩=>wE e ▸ hy,λh=>⟨x,h,fE _⟩⟩
def KN(h:wZ ss=pc):ss.Nodup:=by
 have h:(ud ss).length=ss.length:=by unfold wZ at h;have:=fh.mp h;lia
 suffices key:∀r:QQQ,(ud r.reverse).length=r.reverse.length->r.reverse.Nodup by have:=key ss.reverse;rw[List.reverse_reverse]at this;exact this h
 intro r;induction r with
 | nil=>intro _;exact eU
 | cons k r ih=>
  intro h;rw[List.reverse_cons]at h ⊢;generalize r.reverse=l at ih h ⊢;rw[yA]at h;split at h
  .have:=JM l;rw[dq,dX]at h;lia
  .rename_i hk;rw[dq,dq,dX]at h;have h1:=ih (by lia);rw[Of]at hk;refine gx.mpr ⟨h1,by simp,λx hx y hy=>?_⟩;rw[dI.mp hy];exact λz=>hk (z ▸ hx)
def Ia{m:Int}(h:sV cs ks m=pc):cs≠[]/\(cs.length:Int)<=m/\cs.Nodup/\∀x∈cs,x∈ks:=by unfold sV at h;simp only[d9,eC,eV]at h;obtain⟨h1,h2,h3,h4⟩:=h;refine⟨λz=>by rw[z]at h1;exact absurd h1 (by decide),h2,KN h3,λx hx=>qN.mp (h4 x hx)⟩
def sj.of(ok:sj l){z:Str}(hz:z∈l.nm):(l.mS z≠[]/\(l.mS z).length<=4/\(l.mS z).Nodup/\∀x∈l.mS z,x∈l.pn)/\(z∈l.pn->l.mS z=[z]/\l.m9 z="one"):=by
 have hd:=gx.mp ok.nd;have h1:z∈l.pn->l.group z=Db:=λh=>ic.mpr λg hg e=>hd.2.2 z h g.1 (dJ.mpr ⟨g,hg,Z'⟩) (by simpa using e:g.1=z).symm;refine⟨?_,λh=>by unfold pR.mS pR.m9;rw[h1 h];exact⟨Z',Z'⟩⟩;unfold pR.mS;cases e:l.group z with
 | none=>
  have hp:z∈l.pn:=by
   rcases eF.mp hz with h|h
   .exact h
   .obtain⟨g,hg,rfl⟩:=dJ.mp h;exact absurd (ic.mp e g hg) (by simp)
  exact⟨fF _ _,by show 1<=4;decide,d6.mpr ⟨dQ,eU⟩,λx hx=>by rw[dI.mp hx];exact hp⟩
 | some g=>obtain⟨c1,c2,c3,c4⟩:=Ia (ok.go g (gv e)).mem;exact⟨c1,by show g.2.2.length<=4;lia,c3,c4⟩
def yu{V:qH}{f:pM->Str->Bool}{m x:Str}{Q:DK}{ok:Mp->Prop}(bd:pX a M A V)(hk:V.calls.length<=1000000)(m8:ok M)(hm:∀c wy ad md,(rG c wy ad md).lookup m=Db)(q:∀p,M p=Db->Q (.ref p) (pQ M p (.lst ((V.calls.map λc=>f c x).map D.bl)))):
  vm (tU 0) B0 (AK m (λC s=>C=a.e/\s=yi f a) (v3 0) (vB (v3 1) xH)) ok Q (A.cs.map λk=>D.ref k.p) [] [Db,Fa (.str x)] M:=by
 have hz:=dR;refine BH (A.cs.map λk=>D.ref k.p) (λpre acc U M'=>M=M'/\acc=((V.calls.take pre.length).map λc=>f c x).map D.bl/\∃y,U=[y,Fa (.str x)]) (λ_ _ _ M' j=>by rw[<-j.1];exact m8) _ [] [] _ _ Z' ?_ ⟨Z',Z',Db,Z'⟩ ?_ ?_
 .rw[de,bd.len];simp only[dS];lia
 .rintro pre d post e acc U M' ⟨rfl,rfl,y,rfl⟩ k hk
  obtain⟨ka,c,e1,e2,rfl,hc,et⟩:=ym bd e;obtain⟨_,_,g1,_⟩:=id hc;refine pH g1 ⟨hm _ _ _ _,_,⟨Z',Z'⟩,_,ka,c,x,Z',hc,hk _ _ _ ⟨Z',?_,_,Z'⟩⟩;rw[dq,dX,et,dZ,dZ];rfl
 .rintro acc U M' ⟨rfl,rfl,y,rfl⟩ p hp
  rw[de,bd.len,fA];exact q p hp
def Cv:Fq P w K mg base 1 a.M LL:=by
 refine fq G.M.toDG Af (λr u=>⟨_,(pF (pV (pN u wb v0)
 (pG (pL (yc v0 (qz wb))))
 pO)
 (pG (pL rb))),?_⟩)
 rintro ds M Q ⟨r,bs,rfl,hr,q⟩
 have ei:inD (.bl pc) (bs.map D.bl)=(bs.findIdx? id).isSome:=by rw[<-CH];exact(MD _ _).symm
 refine i' hr ⟨Z',Cy bs,?_⟩;show if inD (.bl pc) (bs.map D.bl)=pc then _ else _
 rw[ei];cases e:bs.findIdx? id with
 | none=>rw[e]at q;exact⟨M,.refl,q⟩
 | some j=>rw[e]at q;exact Pd ⟨by show(oN M r).isSome=pc;rw[hr];rfl,i' hr ⟨Z',Cy bs,i' ((CH bs).trans e) ⟨M,.refl,q⟩⟩⟩
def OY:Fq P w K mg base 2 a.bL (Fv a):=by
 refine fq G.bL.toDG DP (λr u=>⟨_,(pG (pL (qa qD Z' G.g qB (qz (qP Z' (yh (ix:=[Db,Fa 1]) (N':=["call","phone"])) (qL (pK v0)) (qM 0) (vI (sR (qh v0 G.e.toCls G.bP (SN G) r (qz U1)))) v0))))),?_⟩)
 rintro ds M Q ⟨A,V,x,rfl,bd,Yk,q⟩
 have hz:=dR;refine pH bd.at_ (i' Z' (i' bd.ca ?_));refine yt (A.cs.map λk=>D.ref k.p) (λpre acc U M'=>M=M'/\acc.length=((V.calls.take pre.length).filter (·.hasB x)).length/\∃y,U=[y,Fa (.str x)]) (λ_ _ _ M' j=>by rw[<-j.1];exact bd.ca) _ [] [] _ _ Z' ?_ ⟨Z',Z',Db,Z'⟩ ?_ ?_
 .rw[de,bd.len];simp only[dS];lia
 .rintro pre d post e acc U M' ⟨rfl,ha,y,rfl⟩ k k2 hk ZS
  obtain⟨ka,c,e1,e2,rfl,hc,et⟩:=ym bd e;rw[dq,dX,et,iO]at hk ZS;obtain⟨_,_,g1,_⟩:=id hc;refine pH g1 ⟨Z',_,⟨Z',Z'⟩,_,ka,c,x,Z',hc,?_⟩;refine qv (c:=c.hasB x) (λg=>?_) (λg=>?_)
  .refine hk _ _ _ ⟨Z',?_,_,Z'⟩;rw[dq,dq,ha,hJ (by exact g)];rfl
  .refine ZS _ _ ⟨Z',?_,_,Z'⟩;rw[dq,ha,hU (by exact g)];rfl
 .rintro acc U M' ⟨rfl,ha,y,rfl⟩ p hp
  refine i' pT ⟨M,.new hp,?_⟩;rw[de,bd.len,fA]at ha;rw[ha];exact q
def Oi:Fq P w K mg base 3 a.bJ (DO a):=by
 refine fq G.bJ.toDG BY (λr u=>⟨_,(pG (pL (pP (Cv G) r G.M (qz (qP Z' (yh (ix:=[Db,Fa 1]) (N':=["call","phone"])) (qL (pK v0)) (qM 0) se (qh v0 G.e.toCls G.bO (LN G) r (qz U1))))))),?_⟩)
 rintro ds M Q ⟨A,V,x,rfl,bd,Yk,q⟩
 refine pH bd.at_ (i' Z' (i' bd.ca (yu bd Yk bd.ca (λ_ _ _ _=>rfl) λp hp=>⟨p,_,Z',pT,M,.new hp,?_⟩)));rw[ik];exact q
def IW:Fq P w K mg base 3 a.bK (Bb a):=by
 refine fq G.bK.toDG An (λr u=>⟨_,(pG (pL (pP (Cv G) r G.M (qz (qP Z' (yh (ix:=[Db,Fa 1]) (N':=["call","phone"])) (qL (pK v0)) (qM 0) se (qh v0 G.e.toCls G.Y (C1 G) r (qz U1))))))),?_⟩)
 rintro ds M Q ⟨A,V,x,rfl,bd,Yk,q⟩
 refine pH bd.at_ (i' Z' (i' bd.ca (yu bd Yk bd.ca (λ_ _ _ _=>rfl) λp hp=>⟨p,_,Z',pT,M,.new hp,?_⟩)));rw[ik];exact q
def yZ:Fq P w K mg base 3 a.U (Bl a):=by
 refine fq G.U.toDG Am (λr u=>⟨_,(pG (pL (pP (Cv G) r G.M (qz (qP Z' (yh (ix:=[Db,Fa 1]) (N':=["call","phone"])) (qL (pK v0)) (qM 0) se (qh v0 G.e.toCls G.X (wB G) r (qz U1))))))),?_⟩)
 rintro ds M Q ⟨A,V,x,rfl,bd,Yk,q⟩
 refine pH bd.at_ (i' Z' (i' bd.ca (yu bd Yk bd.ca (λ_ _ _ _=>rfl) λp hp=>⟨p,_,Z',pT,M,.new hp,?_⟩)));rw[ik];exact q
def GG:Fq P w K mg base 3 a.bV (AH a):=by
 refine fq G.bV.toDG zq (λr u=>⟨_,(pG (pL (qa (TB Z') Z' G.c1 S6 (qz (qP Z' (yh (ix:=[Db,Fa 1]) (N':=["call","phone"])) (qL (pK v0)) (qM 0) se (qh v0 G.e.toCls G.az (Hr G) r (qz U1))))))),?_⟩)
 rintro ds M Q ⟨A,V,x,rfl,bd,Yk,q⟩
 refine pH bd.at_ (i' Z' (i' bd.ca (yu bd Yk bd.ca (λ_ _ _ _=>rfl) λp hp=>i' pT ?_)));rw[eG];refine i' (yp _ _) ⟨M,.new hp,?_⟩;rw[j8];exact q
def Gn:Fq P w K mg base 1 a.bU (As a):=by
 refine fq G.bU.toDG Ac (λr u=>⟨_,(pG (pL (qe (qe (pK v0) (pK v0)) pI))),?_⟩)
 rintro ds M Q ⟨A,V,rfl,bd,q⟩
 exact pH bd.at_ (i' Z' (pH bd.at_ (i' Z' ⟨by decide,M,.refl,q⟩)))
def Hf{l:pR}{x:Str}{v:uL}(h:l.nB x=Fa v):wm l x=v.2.1:=by unfold wm;rw[h];rfl
def zg:Fq P w K mg base 3 a.V (xD a):=by
 refine fq G.V.toDG Ay (λr u=>⟨_,(pG (pL (ql u (qh v0 G.c.toCls G.bL (OY G) r (qz U1)) (qh (pK v0) G.h.toCls G.bM (DN G) r (qz U1))))),?_⟩)
 rintro ds M Q ⟨A,V,l,x,rfl,rd,hx,q⟩
 obtain⟨ph,gr,ws,Zg,pr,gd,rs,i1,_⟩:=rd.pl;obtain⟨v,hv⟩:=w9 hx;refine pH rd.bd.at_ ⟨Z',_,⟨Z',Z'⟩,A,V,x,Z',rd.bd,rd.k,?_⟩;refine pH rd.bd.at_ (i' Z' (pH i1 ⟨Z',_,⟨Z',Z'⟩,V.p,x,v,l,Z',rd.pl,hv,?_⟩));unfold sD at q;rw[Hf hv]at q;exact⟨M,.refl,q⟩
def A6:Fq P w K mg base 4 a.aQ (AF a):=by
 refine fq G.aQ.toDG zL (λr u=>⟨_,(pG (pL (qP Z' (yh (ix:=[Db,Fa 1,Fa 0]) (N':=["phone","caller","self"])) (qL (qh (pK v0) G.h.toCls G.Z (uI G) r (qz U2))) (qM 0) (vI (W3.b3 (tq (pN u v0 U1) (sL (sR (qh U2 G.c.toCls G.V (zg G) r (qz v0))))))) v0))),?_⟩)
 rintro ds M Q ⟨A,V,l,c,z,rfl,rd,YS,q⟩
 obtain⟨ph,gr,ws,Zg,pr,gd,rs,i1,_⟩:=rd.pl;obtain⟨⟨_,p4,_,pin⟩,_⟩:=rd.ok.of YS;refine pH rd.bd.at_ (i' Z' (pH i1 ⟨Z',_,⟨Z',Z'⟩,V.p,z,l,Z',rd.pl,λq1 YR=>i' pT ?_⟩));obtain⟨M1,e0,s1,c1⟩:=xl (ds:=List.map D.str (l.mS z)) YR;rw[<-e0];have hz:=dR;have Y9:=rd.sub s1;refine tG (f:=id) (t:=λd=>match d with|.str x=>!(x==c)&&sD l V x|_=>lf) c1 _ [] _ (by rw[de];simp only[dS];lia) (λd hd k hk=>?_) (λd hd _ k hk=>?_) λq2 Z6=>?_
 .obtain⟨x,hx,rfl⟩:=dJ.mp hd;have hk:k (!(x==c)&&sD l V x) M1:=hk;cases e:x==c with
  | true=>rw[e]at hk;refine Nt (c:=!(x==c)) (by rw[e];rfl) hk
  | false=>rw[e]at hk;refine A9 (c:=!(x==c)) (by rw[e];rfl) (pH Y9.bd.at_ ⟨Z',_,⟨Z',Z'⟩,A,V,l,x,Z',Y9,pin x hx,hk⟩)
 .obtain⟨x,hx,rfl⟩:=dJ.mp hd;exact hk
 .have ef:[]++(List.filter (λd=>match d with|.str x=>!(x==c)&&sD l V x|_=>lf) ((l.mS z).map D.str)).map id=(uG l V c z).map D.str:=by rw[eB,jz,gK];rfl
  rw[ef];have t2:=qO.new (c:=.lst ((uG l V c z).map D.str)) Z6;exact⟨_,.refl,q q2 _ (s1.trans t2) (s1.none Z6) pT⟩
def F9:Fq P w K mg base 5 a.O (Pi a):=by
 refine fq G.O.toDG IA (λr u=>⟨_,(pG (pL (ql u (qa qD Z' G.g qB (qz (qh v0 G.c.toCls G.aQ (A6 G) r (rQ U1 U2)))) pI))),?_⟩)
 rintro ds M Q ⟨A,V,l,c,z,rfl,rd,tg,q⟩
 refine pH rd.bd.at_ ⟨Z',_,⟨Z',Z'⟩,A,V,l,c,z,Z',rd,tg,λq1 M1 s1 YR e1=>i' e1 ⟨M,s1,?_⟩⟩;have e:((((uG l V c z).map D.str).length:Int)==0)=yb l V c z:=by unfold yb;rw[de,gf,fh,List.isEmpty_iff,<-gA];lia
 show Q (.bl ((((uG l V c z).map D.str).length:Int)==0)) M;rw[e];exact q
def xk(a:Ad)(v:Wi):rB:=λds M Q=>IS λp A V l c z=>ds=[.ref p,.ref A.b,.str c,.str z]/\M p=Fa (.ins (v.cls a) v.nS)/\Rd a M A V l/\z∈l.nm/\BU l.pn l.nm v/\Q (.bl (Bv l V c z v)) M
def Rw(a:Ad)(v:Wi):rB:=λds M Q=>Au λp L k c=>ds=[.ref p,.ref (rT.p k)]/\M p=Fa (.ins (v.cls a) v.nS)/\sf a M L k c/\Q (.bl (Hn c v)) M
def Ht:rB:=λds M Q=>z9 λx y=>ds=[x,y]/\Q (.bl lf) M
def Lx(a:Ad):Uf->rB->Prop:=λC sp=>∃v:Wi,C=v.cls a/\sp=xk a v
noncomputable def L6(a:Ad):Wi->rB
 | .silent x y n=>Rw a (.silent x y n)
 | _=>Ht
def Gi(a:Ad):Uf->rB->Prop:=λC sp=>∃v:Wi,C=v.cls a/\sp=L6 a v
def AJ(a:Ad):rB:=λds M Q=>IS λp x y f l h=>ds=[.ref p,.int h]/\M p=Fa (.ins a.n (Wi.night x y f l).nS)/\Q (.bl (EO f l h)) M
def Aa(a:Ad):rB:=λds M Q=>IS λp x q l r ms=>ds=[.ref p,.ref q,.ref r]/\M p=Fa (.ins a.o (Wi.breaks x).nS)/\tW a M q l/\oN M r=Fa (List.map D.str ms)/\ms.length<=100/\x∈l.pn/\(∀m∈ms,m∈l.pn)/\Q (.bl (IB l x ms)) M
def JS{l:pR}{x:Str}{v:uL}(h:l.nB x=Fa v):vV l x=v.2.2:=by unfold vV;rw[h];rfl
def qX{ks:List rT}{i:Nat}{k:rT}(h:ks[i]?=Fa k):wO (ks.map λk=>D.ref k.p) (i:Nat)=Fa (.ref k.p):=u9 (by rw[dM,h];rfl)
def L4(ds:T0 D):L3.uu ds (Fa (-1:Int)) Db=ds.drop (ds.length - 1):=by
 unfold L3.uu;have e:HT.tQ ds.length 0 (Fa (-1:Int))=ds.length - 1:=by show(if (-1:Int)<0 then((-1:Int)+(ds.length:Int)).toNat else min (-1:Int).toNat ds.length)=ds.length - 1;rw[dw (by decide)];lia
 rw[e];show(ds.drop (ds.length - 1)).take (ds.length - (ds.length - 1))=_;exact ig (by rw[gm];exact dE _)
theorem D5{α:Type}:∀w:List α,w.drop (w.length - 1)=w.getLast?.toList
 | []=>rfl
 | [_]=>rfl
 | _::z::r=>by rw[List.getLast?_cons_cons,<-D5 (z::r)];rfl
def PN{p q:Uf}{w:QQQ}(h1:oN M p=Fa ((w.map D.str).drop ((w.map D.str).length - 1)))(h2:oN M q=Fa [D.str x]):xA M 9 (.ref p) (.ref q)=Fa (w.getLast?==Fa x):=by
 have e:(w.map D.str).drop ((w.map D.str).length - 1)=(w.getLast?.toList).map D.str:=by rw[de,<-kU];rw[D5]
 rw[e]at h1;show(oN M p).bind (λi=>(oN M q).bind λj=>if i.length=j.length then sQ (xA M 8) i j else Fa lf)=_;rw[h1,h2];cases w.getLast? with
 | none=>rfl
 | some y=>show((Fa (y==x)).bind λp=>(Fa pc).map λq=>p&&q)=Fa (Fa y==Fa x);show Fa ((y==x)&&pc)=_;rw[kW];rfl
def Oa(G:Gl K mg a)(x:Str)(ns:QQQ):Fq P w K mg base 6 a.aH (xk a (.bar x ns)):=by
 refine fq G.aH.toDG Hs (λr u=>⟨_,(pG (pL (sv (ql u U2 (pK v0)) (rN (ql u U3 (pK v0)))))),?_⟩)
 rintro ds M Q ⟨p,A,V,l,c,z,rfl,hp,_,_,_,q⟩
 refine pH hp ?_;refine qv (c:=c==x) (λg=>pH hp ⟨Z',qm ns,M,.refl,?_⟩) (λg=>⟨M,.refl,?_⟩)
 .show Q (.bl (inD (.str z) (ns.map D.str))) M;rw[rh];dsimp only[Bv]at q;rw[g,eN]at q;exact q
 .dsimp only[Bv]at q;rw[show(c==x)=lf from dB.mpr g,eR]at q;exact q
def L1(G:Gl K mg a)(x:Str)(ns:QQQ):Fq P w K mg base 6 a.aI (xk a (.shut x ns)):=by
 refine fq G.aI.toDG Fe (λr u=>⟨_,(pG (pL (sv (ql u U3 (pK v0)) (rN (ql u U2 (pK v0)))))),?_⟩)
 rintro ds M Q ⟨p,A,V,l,c,z,rfl,hp,_,_,_,q⟩
 refine pH hp ?_;refine qv (c:=z==x) (λg=>pH hp ⟨Z',qm ns,M,.refl,?_⟩) (λg=>⟨M,.refl,?_⟩)
 .show Q (.bl (inD (.str c) (ns.map D.str))) M;rw[rh];dsimp only[Bv]at q;rw[g,eN]at q;exact q
 .dsimp only[Bv]at q;rw[show(z==x)=lf from dB.mpr g,eR]at q;exact q
def MH(G:Gl K mg a)(x y:Str):Fq P w K mg base 6 a.aJ (xk a (.always x y)):=by
 refine fq G.aJ.toDG B5 (λr u=>⟨_,(pG (pL (ql u U3 (pK v0)))),?_⟩)
 rintro ds M Q ⟨p,A,V,l,c,z,rfl,hp,_,_,_,q⟩
 exact pH hp ⟨M,.refl,q⟩
def GY:Fq P w K mg base 1 a.bT (AJ a):=by
 refine fq G.bT.toDG zx (λr u=>⟨_,(pF (pV (pN u (pK v0) (pK v0))
 (pG (pL (ur u (pK v0) U1 (pK v0))))
 pO)
 (pG (pL (Er (ql u U1 (pK v0)) (rN (ql u U1 (pK v0))))))),?_⟩)
 rintro ds M Q ⟨p,x,y,f,l,h,rfl,hp,q⟩
 refine pH hp (pH hp ?_);show if (decide (f<l))=pc then _ else _
 unfold EO at q;by_cases z:f<l
 .rw[dw z]at q;refine A9 (eA z) (pH hp ?_);refine qv (c:=decide (f<=h)) (λg=>?_) (λg=>?_)
  .rw[g,eN]at q;exact pH hp ⟨M,.refl,q⟩
  .rw[show decide (f<=h)=lf from dB.mpr g,eR]at q;exact⟨M,.refl,q⟩
 .rw[dh z]at q;refine Nt (e9 z) (pH hp ?_);refine qv (c:=decide (h>=f)) (λg=>?_) (λg=>?_)
  .rw[g,gU]at q;exact⟨M,.refl,q⟩
  .rw[show decide (h>=f)=lf from dB.mpr g,fK]at q;exact pH hp ⟨M,.refl,q⟩
def MI(G:Gl K mg a)(x y:Str)(f m:Int):Fq P w K mg base 6 a.aK (xk a (.night x y f m)):=by
 refine fq G.aK.toDG Do (λr u=>⟨_,(pG (pL (sv (ql u U3 (pK v0)) (rN (qh v0 G.n.toCls G.bT (GY G) r (qz (yz U1 G.c.toCls G.bU (Gn G) r))))))),?_⟩)
 rintro ds M Q ⟨p,A,V,l,c,z,rfl,hp,rd,_,_,q⟩
 dsimp only[Bv]at q;refine pH hp ?_;refine qv (c:=z==x) (λg=>?_) (λg=>?_)
 .rw[g,eN]at q;exact pH hp ⟨Z',_,⟨Z',Z'⟩,pH rd.bd.at_ ⟨Z',_,⟨Z',Z'⟩,A,V,Z',rd.bd,p,x,y,f,m,_,Z',hp,M,.refl,q⟩⟩
 .rw[show(z==x)=lf from dB.mpr g,eR]at q;exact⟨M,.refl,q⟩
def LS(G:Gl K mg a)(x y:Str):Fq P w K mg base 6 a.aL (xk a (.busy x y)):=by
 refine fq G.aL.toDG FQ (λr u=>⟨_,(pG (pL (sv (ql u U3 (pK v0)) (rN (pP (F9 G) r G.O (rc U1 U2 U3)))))),?_⟩)
 rintro ds M Q ⟨p,A,V,l,c,z,rfl,hp,rd,hz,_,q⟩
 dsimp only[Bv]at q;refine pH hp ?_;refine qv (c:=z==x) (λg=>?_) (λg=>?_)
 .rw[g,eN]at q;exact⟨A,V,l,c,z,Z',rd,hz,M,.refl,q⟩
 .rw[show(z==x)=lf from dB.mpr g,eR]at q;exact⟨M,.refl,q⟩
def L5(G:Gl K mg a)(x y:Str)(n:Int):Fq P w K mg base 6 a.aM (xk a (.silent x y n)):=by
 refine fq G.aM.toDG CF (λr u=>⟨_,(pG (pL wb)),?_⟩)
 rintro ds M Q ⟨p,A,V,l,c,z,rfl,hp,rd,hz,_,q⟩
 exact⟨M,.refl,q⟩
def Lz(G:Gl K mg a)(x:Str):Fq P w K mg base 6 a.aN (xk a (.wait x)):=by
 refine fq G.aN.toDG FW (λr u=>⟨_,(pF (pV (W3.b3 (ut (pN u U3 (pK v0)) (tH (pN u U2 (pK v0)))))
 (pG (pL wb))
 pO)
 (pG (pL (sv (pP (F9 G) r G.O (rc U1 U2 U3)) (rN (Ug (qh U1 G.c.toCls G.bV (GG G) r (qz U3)))))))),?_⟩)
 rintro ds M Q ⟨p,A,V,l,c,z,rfl,hp,rd,hz,_,q⟩
 dsimp only[Bv]at q;refine pH hp ?_;refine qv (c:=!(z==x)) (λg=>?_) (λg=>?_)
 .rw[g,gU]at q;exact⟨M,.refl,q⟩
 rw[show(!(z==x))=lf from dB.mpr g,fK]at q;refine pH hp ?_;refine qv (c:=c==x) (λg=>?_) (λg=>?_)
 .rw[g]at q;exact⟨M,.refl,q⟩
 rw[dh g]at q;refine⟨A,V,l,c,z,Z',rd,hz,?_⟩;refine qv (c:=yb l V c z) (λg=>?_) (λg=>?_)
 .rw[g,eN]at q;exact pH rd.bd.at_ ⟨Z',_,⟨Z',Z'⟩,A,V,z,Z',rd.bd,rd.k,M,.refl,q⟩
 .rw[show yb l V c z=lf from dB.mpr g,eR]at q;exact⟨M,.refl,q⟩
def G':Fq P w K mg base 2 a.bW (Aa a):=by
 refine fq G.bW.toDG vE (λr u=>⟨_,(pF (pU 3 vE (qh U1 G.h.toCls G.aR (zS G) r (qz (pK v0))))
 (pG (pL (qa (FJ Z') Z' G.bY Fb (qz (qP Z' (yh (ix:=[Db,Fa 1,Fa 3]) (N':=["member","plan","rank"])) (qL U2) (qM 0) se (ql u (qh U1 G.h.toCls G.aR (zS G) r (qz v0)) U2))))))),?_⟩)
 rintro ds M Q ⟨p,x,q,l,r,ms,rfl,hp,pl,lr,h100,hx,hm,k⟩
 have hz:=dR;obtain⟨v,hv⟩:=w9 hx;obtain⟨ph,gr,ws,Zg,pr,gd,rs,i1,_⟩:=id pl;refine pH i1 ⟨Z',_,⟨Z',Z'⟩,pH hp (i' Z' ⟨q,x,v,l,Z',pl,hv,?_⟩)⟩;refine i' lr (rA (f:=λd=>match d with|.str m=>.bl (decide (vV l m<vV l x))|_=>.mY) lr _ [] _ (by rw[de];show 0+ms.length<=Ch;lia) (λd hd k0 hk=>?_) λp1 Y8=>?_)
 .obtain⟨m,hmm,rfl⟩:=dJ.mp hd;obtain⟨u,hu⟩:=w9 (hm m hmm);have hk:k0 (.bl (decide (vV l m<vV l x))) M:=hk;rw[JS hu,JS hv]at hk;exact pH i1 ⟨Z',_,⟨Z',Z'⟩,q,m,u,l,Z',pl,hu,hk⟩
 .have em:[]++(ms.map D.str).map (λd=>match d with|.str m=>.bl (decide (vV l m<vV l x))|_=>.mY)=ms.map λm=>D.bl (decide (vV l m<vV l x)):=by rw[eB,eG];rfl
  rw[em];refine i' pT (i' (yp (λm=>decide (vV l m<vV l x)) ms) ⟨M,.new Y8,?_⟩);unfold IB at k;rw[zB];exact k
def Lu(G:Gl K mg a)(x:Str):Fq P w K mg base 6 a.aO (xk a (.breaks x)):=by
 refine fq G.aO.toDG vK (λr u=>⟨_,(pF (pV (W3.b3 (ut (pN u U2 (pK v0)) (tH (pN u U3 (pK v0)))))
 (pG (pL wb))
 pO)
 (pF (pV (W3.b3 (ut (pN u U3 (yz (pK U1) G.h.toCls G.T (uk G) r)) (tH (tj (sR (pP (F9 G) r G.O (rc U1 U2 U3)))))))
 (pG (pL wb))
 pO)
 (pF (pU 4 vK (qh U1 G.c.toCls G.U (yZ G) r (qz U3)))
 (pF (pV (pN u v4 rb)
 (pG (pL wb))
 pO)
 (pF (pU 5 vK (pK (pS (pK U1) v4)))
 (pG (pL (sv (ql u (qa qD Z' G.g qB (qz v5)) pI) (rN (qh v0 G.o.toCls G.bW (G' G) r (rQ (pK U1) v5))))))))))),?_⟩)
 rintro ds M Q ⟨p,A,V,l,c,z,rfl,hp,rd,YS,hx,q⟩
 have hx:x∈l.pn:=qN.mp hx;obtain⟨ph,gr,ws,Zg,pr,gd,rs,i1,_⟩:=rd.pl;have p8:=rd.ok.p8;dsimp only[Bv,IU]at q;refine pH hp ?_;refine qv (c:=!(c==x)) (λh1=>?_) (λh1=>?_)
 .rw[h1,gU]at q;exact⟨M,.refl,q⟩
 rw[show(!(c==x))=lf from dB.mpr h1,fK]at q;refine pH hp ?_;refine qv (c:=z==x) (λh2=>?_) (λh2=>?_)
 .rw[h2]at q;exact⟨M,.refl,q⟩
 rw[dh h2]at q;refine pH rd.bd.at_ (i' Z' (pH i1 ⟨Z',_,⟨Z',Z'⟩,V.p,l,Z',rd.pl,by lia,λq1 YR=>i' pT ⟨Z',qm _,?_⟩⟩));have t:=qO.new (c:=.lst (l.pn.map D.str)) YR;have Yo:=rd.sub t;generalize pQ M q1 (.lst (l.pn.map D.str))=M1 at t Yo ⊢;show if (!(inD (.str z) (l.pn.map D.str)))=pc then _ else _
 rw[rh];refine qv (c:=!(hasS l.pn z)) (λh3=>?_) (λh3=>?_)
 .rw[h3,gU]at q;exact⟨M,t,q⟩
 rw[show(!(hasS l.pn z))=lf from dB.mpr h3,fK]at q;refine⟨A,V,l,c,z,Z',Yo,YS,?_⟩;refine qv (c:=!(yb l V c z)) (λh4=>?_) (λh4=>?_)
 .rw[h4]at q;exact⟨M,t,q⟩
 rw[dh h4]at q;refine pH Yo.bd.at_ ⟨Z',_,⟨Z',Z'⟩,A,V,z,Z',Yo.bd,Yo.k,?_⟩;cases e:vY V z with
 | none=>rw[e]at q;rw[show AX V z=.mY from by unfold AX;rw[e];rfl];exact⟨M,t,q⟩
 | some j=>
  rw[show AX V z=.int (j:Nat)from by unfold AX;rw[e];rfl];have hj:j<V.calls.length:=(iU.mp e).1;have e2:V.calls[j]?=Fa V.calls[j]:=dg hj;rw[e]at q;generalize V.calls[j]=k at e2;have q:Q (.bl (((V.calls[j]?).elim lf λk=>(k.ms.length==2)&&IB l x k.ms))) M:=q;rw[e2]at q;have hj:j<A.cs.length:=by rw[rd.bd.len];exact hj
  have ek:A.cs[j]?=Fa A.cs[j]:=dg hj;obtain⟨ad,md,f1,f2,f3,f4,_⟩:=Yo.bd.cs j _ k ek e2;refine pH Yo.bd.at_ (i' Z' (i' Z' (i' Yo.bd.ca (i' (qX ek) (pH f1 (i' Z' ?_))))));refine i' f4 ?_;have el:((((k.ms.map D.str).length:Nat):Int)==2)=(k.ms.length==2):=by rw[de,gf,fh,fh];lia
  show if ((((k.ms.map D.str).length:Nat):Int)==2)=pc then _ else _
  rw[el];have q:Q (.bl ((k.ms.length==2)&&IB l x k.ms)) M:=q;refine qv (c:=k.ms.length==2) (λh5=>?_) (λh5=>?_)
  .rw[h5,eN]at q;have hm:=rd.ms k (rg e2);refine pH (t _ _ hp) ⟨Z',_,⟨Z',Z'⟩,pH Yo.bd.at_ (i' Z' ⟨p,x,V.p,l,md,k.ms,Z',t _ _ hp,Yo.pl,f4,hm.2,hx,hm.1,M,t,q⟩)⟩
  .rw[show(k.ms.length==2)=lf from dB.mpr h5,eR]at q;exact⟨M,t,q⟩
def Oo:Fq P w K mg base 1 a.q Ht:=by
 refine fq G.q.toDG B9 (λr u=>⟨_,(pG (pL wb)),?_⟩)
 rintro ds M Q ⟨x,y,rfl,q⟩
 exact⟨M,.refl,q⟩
def Sx(G:Gl K mg a)(x y:Str)(n:Int):Fq P w K mg base 1 a.aC (Rw a (.silent x y n)):=by
 refine fq G.aC.toDG AC (λr u=>⟨_,(pG (pL (sv (ql u (sy (pK U1) (sT (FD pI)) tL) (qW (qz (pK v0)))) (rN (ql u (pK v0) (pK U1)))))),?_⟩)
 rintro ds M Q ⟨p,L,k,c,rfl,hp,⟨ad,md,h1,h2,h3,h4,_⟩,q⟩
 refine pH h1 (i' Z' (i' h2 λp1 Y8=>?_));have t1:=qO.new (c:=.lst (L3.uu (c.way.map D.str) (Fa (-1:Int)) Db)) Y8;have l1:oN (pQ M p1 (.lst (L3.uu (c.way.map D.str) (Fa (-1:Int)) Db))) p1=Fa ((c.way.map D.str).drop ((c.way.map D.str).length - 1)):=by rw[pT,L4]
 show AA (pQ M p1 (.lst (L3.uu (c.way.map D.str) (Fa (-1:Int)) Db)) p) _;generalize pQ M p1 (.lst (L3.uu (c.way.map D.str) (Fa (-1:Int)) Db))=M1 at t1 l1 ⊢;refine pH (t1 _ _ hp) ⟨pD Z',λp2 X2=>?_⟩;obtain⟨M2,e0,t2,l2⟩:=xl (ds:=[D.str x]) X2;rw[<-e0];show Option.elim (xA M2 9 (.ref p1) (.ref p2)) False _;have s2:=t1.trans t2;refine i' (PN (t2.lst l1) l2) ?_;dsimp only[Hn]at q;refine qv (c:=c.way.getLast?==Fa x) (λg=>?_) (λg=>?_)
 .rw[g,eN]at q;exact pH (s2 _ _ hp) (pH (s2 _ _ h1) ⟨M,s2,q⟩)
 .rw[show(c.way.getLast?==Fa x)=lf from dB.mpr g,eR]at q;exact⟨M,s2,q⟩
def RP:∀C sp,Lx a C sp->xN P w K mg base 6 "fits" C (Ox K sp):=by
 rintro C sp ⟨v,rfl,rfl⟩
 cases v with
 | bar x ns=>exact⟨G.r.toCls,_,_,_,G.aH.nH,Oa G x ns,G.aH.b⟩
 | shut x ns=>exact⟨G.t.toCls,_,_,_,G.aI.nH,L1 G x ns,G.aI.b⟩
 | always x y=>exact⟨G.x.toCls,_,_,_,G.aJ.nH,MH G x y,G.aJ.b⟩
 | night x y f m=>exact⟨G.n.toCls,_,_,_,G.aK.nH,MI G x y f m,G.aK.b⟩
 | busy x y=>exact⟨G.y.toCls,_,_,_,G.aL.nH,LS G x y,G.aL.b⟩
 | silent x y n=>exact⟨G.u.toCls,_,_,_,G.aM.nH,L5 G x y n,G.aM.b⟩
 | wait x=>exact⟨G.v.toCls,_,_,_,G.aN.nH,Lz G x,G.aN.b⟩
 | breaks x=>exact⟨G.o.toCls,_,_,_,G.aO.nH,Lu G x,G.aO.b⟩
def US:∀C sp,Gi a C sp->xN P w K mg base 1 "is_due" C (Ox K sp):=by
 rintro C sp ⟨v,rfl,rfl⟩
 have F:=Oo (P:=P) (w:=w) (base:=base) G;cases v with
 | silent x y n=>exact⟨G.u.toCls,_,_,_,G.aC.nH,Sx G x y n,G.aC.b⟩
 | bar _ _=>exact⟨G.r.toCls,_,_,_,G.cw,F,G.q.b⟩
 | shut _ _=>exact⟨G.t.toCls,_,_,_,G.cx,F,G.q.b⟩
 | always _ _=>exact⟨G.x.toCls,_,_,_,G.cy,F,G.q.b⟩
 | night _ _ _ _=>exact⟨G.n.toCls,_,_,_,G.cz,F,G.q.b⟩
 | busy _ _=>exact⟨G.y.toCls,_,_,_,G.cA,F,G.q.b⟩
 | wait _=>exact⟨G.v.toCls,_,_,_,G.cB,F,G.q.b⟩
 | breaks _=>exact⟨G.o.toCls,_,_,_,G.cC,F,G.q.b⟩
def JR{es pre post:T0 D}{d:D}(e:pre++d::post=uS 0 es):∃x,es[pre.length]?=Fa x/\d=.tup [.int (pre.length:Nat),x]:=by
 have h:(uS 0 es)[pre.length]?=Fa d:=by rw[<-e];simp
 rw[zp]at h;cases q:es[pre.length]? with
 | none=>rw[q]at h;cases h
 | some x=>rw[q]at h;refine⟨x,Z',?_⟩;have:=(dD h).symm;rw[mH]at this;exact this
def vt(n:Nat):∀es:T0 D,(uS n es).length=es.length:=λes=>by
 have h:∀i:Nat,(uS n es)[i]?=Db↔es[i]?=Db:=λi=>by rw[zp];cases es[i]?<;>simp
 have a:=(h es.length).mpr (gJ (dE _));have b:=(h (uS n es).length).mp (gJ (dE _));rw[List.getElem?_eq_none_iff]at a b;lia
def JE{l:pR}{V:qH}{f:Wi->Bool}{tt:AY}{ok:Mp->Prop}{Q:DK}{M:Mp}{rest:T0 (Option D)}(hl:V.on.length=l.mU.length)(h16:l.mU.length<=16)(m8:ok M) (ht:∀(i:Nat) (w:vJ),l.mU[i]?=Fa w->∀(y:Option D) (k:Bool->Mp->Prop),k (f w.2) M->tt (Fa (.int (i:Nat))::y::rest) M k) (q:∀p,M p=Db->Q (.ref p) (pQ M p (.lst ((HK l V f).map λn=>D.int (n:Nat))))):
  vm (Ry 2 (Ax (tU 0) (Ax (tU 1) GW))) (Pp (b3 (v3 1)) tt) (v3 0) ok Q (uS 0 (V.on.map D.bl)) [] (Db::Db::rest) M:=by
 have hz:=dR;refine yt (uS 0 (V.on.map D.bl)) (λpre acc U M'=>M=M'/\acc=((List.range pre.length).filter λi=>V.on.getD i lf&&(l.mU[i]?).elim lf λw=>f w.2).map (λn=>D.int (n:Nat))/\∃y1 y2,U=y1::y2::rest) (λ_ _ _ M' j=>by rw[<-j.1];exact m8) _ [] [] _ _ Z' ?_ ⟨Z',Z',Db,Db,Z'⟩ ?_ ?_
 .rw[vt,de,hl];simp only[dS];lia
 .rintro pre d post e acc U M' ⟨rfl,rfl,y1,y2,rfl⟩ k k2 hk ZS
  obtain⟨x,hx,rfl⟩:=JR e;rw[dq,dX,jj,iO]at hk ZS;rw[dM]at hx;cases eo:V.on[pre.length]? with
  | none=>rw[eo]at hx;cases hx
  | some b=>
   rw[eo]at hx;have hx:D.bl b=x:=dD hx;subst hx;have hi:pre.length<l.mU.length:=by rw[<-hl];exact(dv.mp eo).1
   have ew:l.mU[pre.length]?=Fa l.mU[pre.length]:=dg hi;generalize l.mU[pre.length]=w0 at ew;have eg:V.on.getD pre.length lf=b:=by rw[gj,eo];rfl
   have no:(b&&f w0.2)=lf->k2 (Fa (.int (pre.length:Nat))::Fa (.bl b)::rest) M:=λg=>by refine ZS _ _ ⟨Z',?_,_,_,Z'⟩;rw[hU (by rw[eg,ew];show ¬(b&&f w0.2)=pc;rw[g];exact dH),jl,fk]
   refine⟨Z',?_⟩;show if b=pc then _ else _
   cases b with
   | false=>exact Sn (no Z')
   | true=>
    refine Pd (ht _ _ ew _ _ ?_);cases g:f w0.2 with
    | false=>exact Sn (no (by rw[g];rfl))
    | true=>refine Pd (hk _ _ _ ⟨Z',?_,_,_,Z'⟩);rw[hJ (by rw[eg,ew];show(pc&&f w0.2)=pc;rw[g];rfl),jl,dZ];rfl
 .rintro acc U M' ⟨rfl,rfl,y1,y2,rfl⟩ p hp
  rw[vt,de];exact q p hp
def BK(h:sW a M rs ws){i:Nat}{w:vJ}(e:ws[i]?=Fa w):∃r,wO (rs.map D.ref) (i:Nat)=Fa (.ref r)/\M r=Fa (.ins (w.2.cls a) w.2.nS):=by
 have hi:i<rs.length:=by rw[h.1];exact(dv.mp e).1
 exact⟨rs[i],u9 (by rw[dM,dg hi];rfl),h.2 i _ w (dg hi) e⟩
def L8(ds:T0 D)(m:Nat):L3.uu ds Db (Fa (m:Int))=ds.take m:=by
 unfold L3.uu;rw[HT.Dc,HT.Jd,jx,lB];by_cases h:m<=ds.length
 .rw[mx h]
 .rw[Nat.min_eq_right (by lia),fA,ig (by lia)]
def Iy(ds:T0 D)(m:Nat)(h:m<=ds.length):L3.uu ds (Fa (m:Int)) Db=ds.drop m:=by unfold L3.uu;rw[HT.Dc,HT.Jd,mx h];exact ig (by rw[gm];exact dE _)
def uF(l:pR)(V:qH):Prop:=∀z∈l.nm,(l.m9 z=="turns")=pc->∃v,V.ps.find? (λp=>decide (p.1=z))=Fa v/\0<=v.2/\v.2<=((l.mS z).length:Int)
def MJ{V:qH}(h:uF l V){z:Str}(hz:z∈l.nm)(e:(l.m9 z=="turns")=pc):vQ (ua V.ps) (.inr z)=Fa (.int (zy V z:Nat))/\zy V z<=(l.mS z).length:=by
 obtain⟨v,e1,e2,e3⟩:=h z hz e;have h1:zy V z=v.2.toNat:=by unfold zy;rw[e1];rfl
 have h2:vQ (ua V.ps) (.inr z)=(V.ps.find? λp=>decide (p.1=z)).map λp=>D.int p.2:=yr (λp:Str×Int=>p.1) (λp=>D.int p.2) z V.ps;rw[h2,e1,h1];exact⟨by show Fa (D.int v.2)=Fa (.int (v.2.toNat:Nat));rw[Int.toNat_of_nonneg e2],by lia⟩
def Iu(a:Ad):rB:=λds M Q=>FV λA V l c z=>ds=[.ref A.b,.str c,.str z]/\Rd a M A V l/\z∈l.nm/\Q (wU (Ey l V c z)) M
def OR(a:Ad):rB:=λds M Q=>FV λA V l c z=>ds=[.ref A.b,.str c,.str z]/\Rd a M A V l/\z∈l.nm/\uF l V/\Q (names (yf l V c z)) M
def Oe(a:Ad):rB:=λds M Q=>FV λA V l c z=>ds=[.ref A.b,.str c,.str z]/\Rd a M A V l/\z∈l.nm/\uF l V/\Q (HP l V c z).d M
def KC:rB:=λds M Q=>Di λx r z=>ds=[.tup (.str x::r),.str z]/\Q (if (x=="wait")=pc then(wA.waits z).d else if (x=="break")=pc then(wA.breaks z).d else wA.barred.d) M
def rH(st:tX):T0 D:=st.map λs=>.tup [.str s.1,wU s.2]
def LF(a:Ad):rB:=λds M Q=>Uk λA V l c z r way=>ds=[.ref A.b,.str c,.str z,.ref r]/\Rd a M A V l/\z∈l.nm/\uF l V/\oN M r=Fa (List.map D.str way)/\way.length<=8000000/\∀q M',qO M M'->M q=Db->oN M' q=Fa (rH (vh l V c z way).2)->Q (.tup [(vh l V c z way).1.d,.ref q]) M'
def FN{V:qH}{f:Wi->Bool}{i:Nat}(h:i∈HK l V f):∃w,l.mU[i]?=Fa w/\f w.2=pc:=by
 have h:=(fM.mp h).2;rw[d9]at h;cases e:l.mU[i]? with
 | none=>rw[e]at h;cases h.2
 | some w=>rw[e]at h;exact⟨w,Z',h.2⟩
def JA(l:pR)(way:QQQ):Nat:=(l.nm.filter λx=>!(hasS way x)).length
def BI{l:pR}{z:Str}(hz:z∈l.nm)(h:hasS way z=lf):JA l (way++[z])<JA l way:=by
 unfold JA;have e:(l.nm.filter λx=>!(hasS (way++[z]) x))=(l.nm.filter λx=>!(hasS way x)).filter λx=>!(x==z):=by rw[List.filter_filter];refine List.filter_congr λx _=>?_;unfold hasS;rw[jk];show(!(way.any (·==x)||((z==x)||false)))=_;rw[gy,Bool.not_or,Bool.and_comm,mB]
 rw[e];refine Nat.lt_of_le_of_ne (gL _ _) λg=>?_;have:=lb.mp (List.Sublist.eq_of_length gh g) z (fM.mpr ⟨hz,by rw[h];rfl⟩);simp at this
def Ck(ok:sj l){w:vJ}(hw:w∈l.mU){z y:Str}(h:Jc z w.2=.inr y):y∈l.nm:=by
 have o:=ok.wo w hw;cases e:w.2 with
 | bar _ _=>rw[e]at h;cases h
 | shut _ _=>rw[e]at h;cases h
 | always x u=>rw[e]at h o;cases h;exact qN.mp o.2.1
 | night x u f m=>rw[e]at h o;cases h;exact qN.mp o.2.1
 | busy x u=>rw[e]at h o;cases h;exact qN.mp o.2.1
 | silent x u n=>rw[e]at h o;cases h;exact qN.mp o.2.1
 | wait _=>rw[e]at h;cases h
 | breaks _=>rw[e]at h;cases h
theorem Fd(x:Str):∀ss:QQQ,x∈ss->Bt (.str x) (ss.map D.str)=Fa (ss.findIdx (·==x))
 | [],h=>by cases h
 | y::r,h=>by
  rw[eh,List.findIdx_cons];unfold Bt;show(if (y==x)=pc then Fa 0 else(Bt (.str x) (r.map D.str)).map (·+1))=_;cases e:y==x with
  | true=>rfl
  | false=>
   rw[dh dH];have hr:x∈r:=by
    rcases dC.mp h with g|g
    .rw[g,fE]at e;cases e
    .exact g
   rw[Fd x r hr];rfl
def HQ:Fq P w K mg base 7 a.aW (Iu a):=by
 refine fq G.aW.toDG Cf (λr u=>⟨_,(pF (pU 3 Cf (pK (pK v0)))
 (pG (pL (qp sO Z' G.A sI (qz (qP Z' (yh (ix:=[Db,Db,Fa 3,Fa 0,Fa 1,Fa 2]) (N':=["i","on","wishes","board","caller","target"])) (xx Z' G.b4 (qz (pK v0))) (ve (n:=2) Z' (qF (qM 0) (qF (qM 1) ub))) (vI (W3.b3 (tq (sR U1) (sL (sR (F' (R:=Lx a) (pS U2 v0) (RP G) (r.mono (by first|decide|lia)) (rc U3 v4 v5))))))) v0)))))),?_⟩)
 rintro ds M Q ⟨A,V,l,c,z,rfl,rd,hz,q⟩
 obtain⟨ph,gr,ws,Zg,pr,gd,rs,i1,i2,i3,i4,i5,i6,i7,i8⟩:=rd.pl;refine pH rd.bd.at_ (i' Z' (pH i1 (i' Z' ?_)));refine pH rd.bd.at_ (i' Z' (i' rd.bd.on ?_));refine JE (rest:=[Fa (.ref ws),Fa (.ref A.b),Fa (.str c),Fa (.str z)]) rd.on rd.ok.pq rd.bd.on (λi w0 ew y k hk=>?_) λp hp=>i' pT ⟨M,.new hp,q⟩;obtain⟨r,e1,e2⟩:=BK i8 ew;refine i' i4 (i' e1 (pH e2 ⟨by cases w0.2<;>rfl,_,⟨w0.2,Z',Z'⟩,r,A,V,l,c,z,Z',e2,rd,hz,rd.ok.wo w0 (rg ew),hk⟩))
def Ql:Fq P w K mg base 5 a.aX (OR a):=by
 refine fq G.aX.toDG tS (λr u=>⟨_,(pF (pU 3 tS (qh v0 G.c.toCls G.aQ (A6 G) r (rQ U1 U2)))
 (pF (pV (pN u (qh (pK v0) G.h.toCls G.aP (yg G) r (qz U2)) pJ)
 (pG (pL (qp sO Z' G.A sI (qz U3))))
 pO)
 (pF (pU 4 tS (qh (pK v0) G.h.toCls G.Z (uI G) r (qz U2)))
 (pF (pU 5 tS (zJ u (pK v0) U2))
 (pF (vH (i:=6) tS.nd Z' (Or.inl Z') Z' (yh (ix:=[Db,Fa 3]) (N':=["phone","free"])) (qL (qe (sy v4 (sT v5) tL) (sy v4 tL (sT v5)))) (qM 0) (vI (pN u v0 U1)) v0)
 (pG (pL (qp sO Z' G.A sI (qz (sy v6 tL (sT pI))))))))))),?_⟩)
 rintro ds M Q ⟨A,V,l,c,z,rfl,rd,YS,nx,q⟩
 have hz:=dR;have bd:=rd.bd;have pl:=rd.pl;obtain⟨ph,gr,ws,Zg,pr,gd,rs,i1,_⟩:=rd.pl;obtain⟨⟨_,tf,_⟩,_⟩:=rd.ok.of YS;refine pH bd.at_ ⟨Z',_,⟨Z',Z'⟩,A,V,l,c,z,Z',rd,YS,λq1 M1 s1 YR e1=>?_⟩;refine pH (s1 _ _ bd.at_) (i' Z' (pH (s1 _ _ i1) ⟨Z',_,⟨Z',Z'⟩,V.p,z,l,Z',pl.sub s1,?_⟩));unfold yf at q;cases e:l.m9 z=="turns" with
 | false=>rw[e]at q;exact A9 (c:=!(l.m9 z=="turns")) (by rw[e];rfl) (i' e1 ⟨M,s1,q⟩)
 | true=>
  obtain⟨hn,nl⟩:=MJ nx YS e;generalize zy V z=n at hn nl q;rw[e,dw Z']at q;refine Nt (c:=!(l.m9 z=="turns")) (by rw[e];rfl) ?_;refine pH (s1 _ _ bd.at_) (i' Z' (pH (s1 _ _ i1) ⟨Z',_,⟨Z',Z'⟩,V.p,z,l,Z',pl.sub s1,λq2 Z6=>?_⟩));have s2:=s1.trans (qO.new (c:=.lst ((l.mS z).map D.str)) Z6);have c2:=@pT M1 q2 ((l.mS z).map D.str);have e2:=(qO.new (c:=.lst ((l.mS z).map D.str)) Z6).lst e1;generalize pQ M1 q2 (.lst ((l.mS z).map D.str))=M2 at s2 c2 e2 ⊢;refine pH (s2 _ _ bd.at_) (i' Z' (i' Z' (i' (s2.dk bd.nx) (i' hn ?_))));refine i' c2 λq3 hq3=>?_;rw[Iy _ n (by rw[de];exact nl),<-kU];have t3:=qO.new (c:=.lst (((l.mS z).drop n).map D.str)) hq3;have c3':=@pT M2 q3 (((l.mS z).drop n).map D.str);generalize pQ M2 q3 (.lst (((l.mS z).drop n).map D.str))=M3 at t3 c3' ⊢;refine i' (t3.lst c2) λq4 hq4=>?_;rw[L8,<-mC];obtain⟨M4,e0,t4,c4⟩:=xl (ds:=((l.mS z).take n).map D.str) hq4;rw[<-e0];refine i' (t4.lst c3') (i' c4 ?_);refine⟨by rw[de,de,gm,fQ];lia,λq5 hq5=>i' pT ?_⟩;rw[<-dZ];have t5:=qO.new (c:=.lst ((vk (l.mS z) n).map D.str)) hq5;have c5:=@pT M4 q5 ((vk (l.mS z) n).map D.str);show vm _ _ _ _ _ ((vk (l.mS z) n).map D.str) _ _ (pQ M4 q5 (.lst ((vk (l.mS z) n).map D.str)));generalize pQ M4 q5 (.lst ((vk (l.mS z) n).map D.str))=M5 at t5 c5 ⊢;have s5:=t3.trans (t4.trans t5);have e5:=s5.lst e2;have tl:(vk (l.mS z) n).length<=200:=by unfold vk;rw[dq,gm,fQ];lia
  refine tG (f:=id) (t:=λd=>inD d ((uG l V c z).map D.str)) c5 _ [] _ (by rw[de];simp only[dS];lia) (λd hd k hk=>?_) (λd hd _ k hk=>?_) λq6 hq6=>?_
  .obtain⟨x,hx,rfl⟩:=dJ.mp hd;exact i' e5 ⟨Z',qm _,hk⟩
  .obtain⟨x,hx,rfl⟩:=dJ.mp hd;exact hk
  .have ef:[]++(List.filter (λd=>inD d ((uG l V c z).map D.str)) ((vk (l.mS z) n).map D.str)).map id=((vk (l.mS z) n).filter λx=>hasS (uG l V c z) x).map D.str:=by
    rw[eB,jz,gK];have:((λd=>inD d ((uG l V c z).map D.str))∘D.str)=λx=>hasS (uG l V c z) x:=by funext x;exact rh _ _
    rw[this]
   rw[ef];refine i' pT λq7 hq7=>i' pT ?_;rw[show L3.uu (((vk (l.mS z) n).filter λx=>hasS (uG l V c z) x).map D.str) Db (Fa (1:Int))=(((vk (l.mS z) n).filter λx=>hasS (uG l V c z) x).take 1).map D.str from(L8 _ 1).trans (mC).symm];exact⟨M,s2.trans (s5.trans ((qO.new hq6).trans (.new hq7))),q⟩
def Nm:Fq P w K mg base 6 a.aY (Oe a):=by
 refine fq G.aY.toDG vj (λr u=>⟨_,(pF (pU 3 vj (pP (Ql G) r G.aX (rc v0 U1 U2)))
 (pF (pV (pN u (qa qD Z' G.g qB (qz U3)) pI)
 (pG (pL (pW (rQ pJ U2))))
 pO)
 (pG (pL (pW (rc pJ U2 U3)))))),?_⟩)
 rintro ds M Q ⟨A,V,l,c,z,rfl,rd,hz,nx,q⟩
 refine⟨A,V,l,c,z,Z',rd,hz,nx,?_⟩;unfold HP at q;cases e:yf l V c z with
 | nil=>rw[e]at q;exact⟨pD Z',M,.refl,q⟩
 | cons x r=>rw[e]at q;exact⟨pD Z',M,.refl,q⟩
def La:Fq P w K mg base 1 a.aZ KC:=by
 refine fq G.aZ.toDG AE (λr u=>⟨_,(pF (pV (pN u (pS v0 pI) pJ)
 (pG (pL (pW (rQ pJ U1))))
 pO)
 (pF (pV (pN u (pS v0 pI) pJ)
 (pG (pL (pW (rQ pJ U1))))
 pO)
 (pG (pL (pW (qz pJ)))))),?_⟩)
 rintro ds M Q ⟨x,r,z,rfl,q⟩
 refine i' (vX _ _) (qv (c:=x=="wait") (λg=>?_) (λg=>?_))
 .rw[dw g]at q;exact⟨pD Z',M,.refl,q⟩
 rw[dh g]at q;refine i' (vX _ _) (qv (c:=x=="break") (λg=>?_) (λg=>?_))
 .rw[dw g]at q;exact⟨pD Z',M,.refl,q⟩
 rw[dh g]at q;exact⟨pD Z',M,.refl,q⟩
def NR:Fq P w K mg base 8 a.a0 (LF a):=by
 refine fq G.a0.toDG wQ (λr u=>⟨_,(pF (pU 4 wQ (qp tO Z' G.z tK (qz U3)))
 (pF (pU 5 wQ (qW tI))
 (pF (LI ft (pN u U2 v4)
 (pF (pY (r6 v4 (qz U2)))
 (pF (pU 6 wQ (pP (HQ G) r G.aW (rc v0 U1 U2)))
 (pF (pY (r6 v5 (qz (pW (rQ U2 v6)))))
 (pF (pV (pN u (qa qD Z' G.g qB (qz v6)) pI)
 (pG (pL (pW (rQ (pP (Nm G) r G.aY (rc v0 U1 U2)) v5))))
 pO)
 (pF (pU 7 wQ (Cm (R:=Jn a) (pS (pK (pK v0)) (pS v6 pI)) (OL G) (r.mono (by first|decide|lia))))
 (pF (pV (pN u (pS v7 pI) pJ)
 (pG (pL (pW (rQ (pP (La G) r G.aZ (rQ v7 U2)) v5))))
 pO)
 (pG (pU 2 wQ (pS v7 pI))))))))))
 (pG (pL (pW (rQ (pW (rQ pJ (qp sO Z' G.A sI (qz (sy v4 (sT (yc v4 (qz U2))) tL))))) v5))))))),?_⟩)
 rintro ds M Q ⟨A,V,l,c,z0,r,Za,rfl,rd,hz0,nx,hr0,hw0,q⟩
 have hz:=dR;have p8:=rd.ok.p8;have g3:=rd.ok.g3;have nl:l.nm.length<=11:=by unfold pR.nm pR.pn pR.gn;rw[dq,de,de];lia
 refine i' hr0 λp1 Y8=>⟨pD Z',λp2 X2=>?_⟩;have t1:=qO.new (c:=.lst (Za.map D.str)) Y8;have t2:=qO.new (c:=.lst []) X2;have c1:oN (pQ (pQ M p1 (.lst (Za.map D.str))) p2 (.lst [])) p1=Fa (Za.map D.str):=t2.lst pT;have c2:=@pT (pQ M p1 (.lst (Za.map D.str))) p2 [];have n12:p2≠p1:=λy=>by rw[y,pZ]at X2;cases X2
 have m2:M p2=Db:=t1.none X2;have s2:=t1.trans t2;generalize pQ (pQ M p1 (.lst (Za.map D.str))) p2 (.lst [])=M2 at c1 c2 s2 ⊢;refine⟨λm U M'=>∃z way st,qO M M'/\oN M' p1=Fa (List.map D.str way)/\oN M' p2=Fa (rH st)/\z∈l.nm/\JA l way<m/\way.length+m<=8000012/\st.length+m<=100/\xm l V c m z way st=vh l V c z0 Za/\∃y6 y7,U=[Fa (.ref A.b),Fa (.str c),Fa (.str z),Fa (.ref r),Fa (.ref p1),Fa (.ref p2),y6,y7],⟨l.nm.length+1,z0,Za,[],s2,c1,c2,hz0,Nat.lt_succ_of_le (gL _ _),by lia,by show 0+(l.nm.length+1)<=100;lia,Z',Db,Db,Z'⟩,?_⟩
 rintro m U M' ⟨z,way,st,sM,l1,l2,YS,X3,hwl,ZM,er,y6,y7,rfl⟩
 obtain⟨m,rfl⟩:∃k,m=k+1:=⟨m - 1,by lia⟩;have q2:∀XU,qO M XU->oN XU p2=Fa (rH (xm l V c (m+1) z way st).2)->Q (.tup [(xm l V c (m+1) z way st).1.d,.ref p2]) XU:=λXU s ll=>by rw[er]at ll ⊢;exact q p2 XU s m2 ll
 clear q;unfold xm at er q2;refine i' l1 ⟨Z',qm way,?_⟩;show if (!(inD (.str z) (way.map D.str)))=pc then _ else _
 rw[rh];refine qv (c:=!(hasS way z)) (λh1=>?_) (λh1=>?_)
 rotate_left
 .
  have h1:hasS way z=pc:=by simpa using h1
  rw[dw h1]at q2;refine⟨by show(oN M' p1).isSome=pc;rw[l1];rfl,i' l1 ⟨Z',qm _,i' (Fd z way (qN.mp h1)) (i' l1 λp3 hp3=>?_)⟩⟩;have hle:way.findIdx (·==z)<=(way.map D.str).length:=by rw[de];exact List.findIdx_le_length
  rw[Iy _ _ hle,<-kU];refine i' pT ⟨pD Z',pD Z',_,.refl,q2 _ (sM.trans (.new hp3)) ((qO.new hp3).lst l2)⟩
 have h1:hasS way z=lf:=by simpa using h1
 rw[h1,dh dH]at er q2;refine⟨by show(oN M' p1).isSome=pc;rw[l1];rfl,i' l1 ⟨by rw[de];lia,?_⟩⟩;have k3:sJ p1 M' (pQ M' p1 (.lst (way.map D.str++[D.str z]))):=.put;have s3:qO M (pQ M' p1 (.lst (way.map D.str++[D.str z]))):=λx d hx=>by rw[sU (PH hx Y8)];exact sM x d hx
 have c3:=k3.lst n12 l2;have l3:oN (pQ M' p1 (.lst (way.map D.str++[D.str z]))) p1=Fa ((way++[z]).map D.str):=by rw[pT,dZ];rfl
 generalize pQ M' p1 (.lst (way.map D.str++[D.str z]))=M3 at s3 c3 l3 ⊢;refine⟨A,V,l,c,z,Z',rd.sub s3,YS,?_⟩;generalize hf:Ey l V c z=fs at er q2 ⊢;refine⟨by show(oN M3 p2).isSome=pc;rw[c3];rfl,pD Z',i' c3 ⟨by unfold rH;rw[de];lia,?_⟩⟩;have es:rH st++[.tup [.str z,wU fs]]=rH (st++[(z,fs)]):=by unfold rH;rw[dZ];rfl
 rw[es];have s4:qO M (pQ M3 p2 (.lst (rH (st++[(z,fs)])))):=λx d hx=>by rw[sU (PH hx m2)];exact s3 x d hx
 have c4:=@pT M3 p2 (rH (st++[(z,fs)]));have l4:oN (pQ M3 p2 (.lst (rH (st++[(z,fs)])))) p1=Fa ((way++[z]).map D.str):=sJ.lst .put (dW n12) l3;generalize pQ M3 p2 (.lst (rH (st++[(z,fs)])))=M4 at s4 c4 l4 ⊢;cases fs with
 | nil=>exact⟨A,V,l,c,z,Z',rd.sub s4,YS,nx,pD Z',M4,.refl,q2 M4 s4 c4⟩
 | cons i fr=>
  obtain⟨w0,ew,_⟩:=FN (l:=l) (V:=V) (f:=Bv l V c z) (i:=i) (by show i∈Ey l V c z;rw[hf];exact dY);dsimp only at er q2;rw[ew]at er q2;dsimp only[Option.elim]at er q2;obtain⟨ph,gr,ws,Zg,pr,gd,rs,i1,i2,i3,i4,i5,i6,i7,i8⟩:=(rd.sub s4).pl;obtain⟨rw0,e1,e2⟩:=BK i8 ew;have hwo:=rd.ok.wo w0 (rg ew);have hnm:∀y,Jc z w0.2=.inr y->y∈l.nm:=λy h=>Ck rd.ok (rg ew) h;refine pH (s4 _ _ rd.bd.at_) (i' Z' (pH i1 (i' Z' (i' (vX _ _) (i' i4 (i' e1 ?_))))));cases hv:w0.2 with
  | bar x ns=>rw[hv]at q2 e2;exact pH e2 ⟨Z',_,.inl ⟨.inl Z',Z'⟩,rw0,Z',⟨"end",[],z,Z',pD Z',M4,.refl,q2 M4 s4 c4⟩⟩
  | shut x ns=>rw[hv]at q2 e2;exact pH e2 ⟨Z',_,.inl ⟨.inr Z',Z'⟩,rw0,Z',⟨"end",[],z,Z',pD Z',M4,.refl,q2 M4 s4 c4⟩⟩
  | wait x=>rw[hv]at q2 e2;exact pH e2 ⟨Z',_,.inr (.inr (.inl ⟨Z',Z'⟩)),rw0,_,_,_,Z',e2,Z',⟨"wait",_,z,Z',pD Z',M4,.refl,q2 M4 s4 c4⟩⟩
  | breaks x=>rw[hv]at q2 e2;exact pH e2 ⟨Z',_,.inr (.inr (.inr ⟨Z',Z'⟩)),rw0,Z',⟨"break",_,z,Z',pD Z',M4,.refl,q2 M4 s4 c4⟩⟩
  | always x y=>rw[hv]at er e2 hnm;exact pH e2 ⟨Z',_,.inr (.inl ⟨.inl Z',Z'⟩),rw0,_,_,_,Z',e2,Z',⟨m,fP _,y,way++[z],st++[(z,i::fr)],s4,l4,c4,hnm y Z',by have:=BI YS h1;lia,by rw[dq];show way.length+1+m<=_;lia,by rw[dq];show st.length+1+m<=_;lia,er,_,_,Z'⟩⟩
  | night x y f mm=>rw[hv]at er e2 hnm;exact pH e2 ⟨Z',_,.inr (.inl ⟨.inr (.inl Z'),Z'⟩),rw0,_,_,_,Z',e2,Z',⟨m,fP _,y,way++[z],st++[(z,i::fr)],s4,l4,c4,hnm y Z',by have:=BI YS h1;lia,by rw[dq];show way.length+1+m<=_;lia,by rw[dq];show st.length+1+m<=_;lia,er,_,_,Z'⟩⟩
  | busy x y=>rw[hv]at er e2 hnm;exact pH e2 ⟨Z',_,.inr (.inl ⟨.inr (.inr (.inl Z')),Z'⟩),rw0,_,_,_,Z',e2,Z',⟨m,fP _,y,way++[z],st++[(z,i::fr)],s4,l4,c4,hnm y Z',by have:=BI YS h1;lia,by rw[dq];show way.length+1+m<=_;lia,by rw[dq];show st.length+1+m<=_;lia,er,_,_,Z'⟩⟩
  | silent x y n=>rw[hv]at er e2 hnm;exact pH e2 ⟨Z',_,.inr (.inl ⟨.inr (.inr (.inr Z')),Z'⟩),rw0,_,_,_,Z',e2,Z',⟨m,fP _,y,way++[z],st++[(z,i::fr)],s4,l4,c4,hnm y Z',by have:=BI YS h1;lia,by rw[dq];show way.length+1+m<=_;lia,by rw[dq];show st.length+1+m<=_;lia,er,_,_,Z'⟩⟩
noncomputable def yW(V:qH)(i:Nat)(c:pM):qH:={V with calls:=V.calls.set i c}
def sH(V:qH)(i:Nat)(c d:pM):yW (yW V i c) i d=yW V i d:=by unfold yW;rw[ji]
structure CI(a:Ad)(M:Mp)(A:tP)(V:qH)(i:Nat)(k:rT)(c:pM):Prop where
 bd:pX a M A V
 e1:A.cs[i]?=Fa k
 e2:V.calls[i]?=Fa c
noncomputable def cF(x:Str)(wy ad md:Uf)(k:Nat):T0 (Str×D):=List.take (α:=Str×D) k [("state",.str "rings"),("caller",.str x),("way",.ref wy),("at",.ref ad),("members",.ref md),("holder",.mY),("since",.int 0)]
variable {M':Mp}{i:Nat}{k:rT}
section
variable {c:pM}
def CI.cell(h:CI a M A V i k c):sf a M (A.lists++V.fo) k c:=h.bd.cs i k c h.e1 h.e2
def CI.sub(h:CI a M A V i k c)(s:qO M M'):CI a M' A V i k c:=⟨h.bd.sub s,h.e1,h.e2⟩
def CI.put(h:CI a M A V i k c)(c':pM){ad md:Uf}(ew:c'.way=c.way)(la:oN M ad=Fa (c'.at_.map D.str))(lm:oN M md=Fa (c'.ms.map D.str))(na:ad∉A.lists++V.fo)(nm:md∉A.lists++V.fo):
  CI a (pQ M k.p (.ins a.e (rG c' k.wy ad md))) A (yW V i c') i k c'/\rf A M A (pQ M k.p (.ins a.e (rG c' k.wy ad md))):=by
 obtain⟨b,s⟩:=h.bd.oB h.e1 h.e2 ew la lm na nm;refine⟨⟨b,h.e1,?_⟩,s⟩;show(V.calls.set i c')[i]?=Fa c';rw[eW (dv.mp h.e2).1]
end
inductive Rn(i:Nat)(c:pM):Ev->pM->Prop
 | rings (ps:QQQ):Rn i c (.rings i ps) (c.ring ps)
 | quiet:Rn i c (.quiet i) c.nV
 | waits (x:Str):Rn i c (.waits i x) (c.wait x)
 | talks (ms:QQQ):Rn i c (.talks i ms) (c.nQ ms)
 | held (x:Str):Rn i c (.held i x) (c.hold x)
 | leaves (x:Str):Rn i c (.leaves i x) (c.drop x)
 | over (w:Str):Rn i c (.over i w) (c.over w)
def Hz(a:Ad):rB:=λds M Q=>z9 λp x=>ds=[.ref p,.str x]/\M p=Fa (.ins a.e [])/\∀M' wy ad md,sJ p M M'->M wy=Db->M ad=Db->M md=Db->ad≠wy->md≠wy->M' p=Fa (.ins a.e (rG (zO x) wy ad md))->oN M' wy=Fa []->oN M' ad=Fa []->oN M' md=Fa []->Q .mY M'
def QO(a:Ad):rB:=λds M Q=>IS λA V i k c w=>ds=[.ref k.p,.str w]/\CI a M A V i k c/\∀M',rf A M A M'->pX a M' A (yW V i (c.over w))->Q .mY M'
def LX(a:Ad):rB:=λds M Q=>IS λA V i k c x=>ds=[.ref k.p,.str x]/\CI a M A V i k c/\c.at_.length<=100/\c.ms.length<=100/\∀M',rf A M A M'->pX a M' A (yW V i (c.drop x))->Q .mY M'
def KM(a:Ad):rB:=λds M Q=>Uk λA V i k c e c'=>ds=[.ref k.p,Ev.d e]/\CI a M A V i k c/\c.at_.length<=100/\c.ms.length<=100/\Rn i c e c'/\∀M',rf A M A M'->pX a M' A (yW V i c')->Q .mY M'
def QH:Fq P w K mg base 1 a.ay (Hz a):=by
 refine fq G.ay.toDG FS (λr u=>⟨_,(pF (qr v0 pJ)
 (pF (qr v0 U1)
 (pF (qr v0 (qW tI))
 (pF (qr v0 (qW tI))
 (pF (qr v0 (qW tI))
 (pF (qr v0 rb)
 (pF (qr v0 pI)
 (pG (qr v0 rb))))))))),?_⟩)
 rintro ds M Q ⟨p,x,rfl,hb,q⟩
 refine pH hb ⟨(G.j "state" Z'),by show 0<1000;decide,?_⟩;have k1:sJ p M (pQ M p (.ins a.e [("state",.str "rings")])):=.put;have b1:pQ M p (.ins a.e [("state",.str "rings")]) p=Fa (.ins a.e [("state",.str "rings")]):=pZ;show uR _ _ _ _ (pQ M p (.ins a.e [("state",.str "rings")]));generalize pQ M p (.ins a.e [("state",.str "rings")])=N1 at k1 b1 ⊢;refine pH b1 ⟨(G.j "caller" Z'),by show 1<1000;decide,?_⟩;have k2:=k1.trans (sJ.put (p:=p) (c:=.ins a.e [("state",.str "rings"),("caller",.str x)]));have b2:pQ N1 p (.ins a.e [("state",.str "rings"),("caller",.str x)]) p=Fa (.ins a.e [("state",.str "rings"),("caller",.str x)]):=pZ;show uR _ _ _ _ (pQ N1 p (.ins a.e [("state",.str "rings"),("caller",.str x)]));generalize pQ N1 p (.ins a.e [("state",.str "rings"),("caller",.str x)])=N2 at k2 b2 ⊢;refine⟨pD Z',λwy hwy=>?_⟩;obtain⟨n3,e3,k3,c3,b3⟩:=tJ (fs':=(cF x wy 0 0 3)) (c:=.lst []) b2 hwy;refine pH e3 ⟨(G.j "way" Z'),by show 2<1000;decide,?_⟩;show uR _ _ _ _ (pQ (pQ N2 wy (.lst [])) p (.ins a.e (cF x wy 0 0 3)));generalize pQ (pQ N2 wy (.lst [])) p (.ins a.e (cF x wy 0 0 3))=N3 at k3 c3 b3 ⊢;have z1:M wy=Db:=rR k2 b2 hwy;have kk3:=k2.trans k3;have l3:oN N3 wy=Fa []:=tD c3;refine⟨pD Z',λad Z5=>?_⟩;obtain⟨n4,e4,k4,c4,b4⟩:=tJ (fs':=(cF x wy ad 0 4)) (c:=.lst []) b3 Z5;refine pH e4 ⟨(G.j "at" Z'),by show 3<1000;decide,?_⟩;show uR _ _ _ _ (pQ (pQ N3 ad (.lst [])) p (.ins a.e (cF x wy ad 0 4)));generalize pQ (pQ N3 ad (.lst [])) p (.ins a.e (cF x wy ad 0 4))=N4 at k4 c4 b4 ⊢;have z2:M ad=Db:=rR kk3 b3 Z5;have ZQ:=kk3.trans k4;have naw:ad≠wy:=λz=>by rw[z,c3]at Z5;cases Z5
 have l4:=k4.lst (qd l3 b3) l3;have m4:oN N4 ad=Fa []:=tD c4;refine⟨pD Z',λmd hmd=>?_⟩;obtain⟨n5,e5,k5,c5,b5⟩:=tJ (fs':=(cF x wy ad md 5)) (c:=.lst []) b4 hmd;refine pH e5 ⟨(G.j "members" Z'),by show 4<1000;decide,?_⟩;show uR _ _ _ _ (pQ (pQ N4 md (.lst [])) p (.ins a.e (cF x wy ad md 5)));generalize pQ (pQ N4 md (.lst [])) p (.ins a.e (cF x wy ad md 5))=N5 at k5 c5 b5 ⊢;have z3:M md=Db:=rR ZQ b4 hmd;have ZR:=ZQ.trans k5;have nmw:md≠wy:=λz=>by rw[z,qE l4]at hmd;cases hmd
 have l5:=k5.lst (qd l4 b4) l4;have m5:=k5.lst (qd m4 b4) m4;have o5:oN N5 md=Fa []:=tD c5;refine pH b5 ⟨(G.j "holder" Z'),by show 5<1000;decide,?_⟩;have k6:sJ p N5 (pQ N5 p (.ins a.e (cF x wy ad md 6))):=.put;have b6:pQ N5 p (.ins a.e (cF x wy ad md 6)) p=Fa (.ins a.e (cF x wy ad md 6)):=pZ;show uR _ _ _ _ (pQ N5 p (.ins a.e (cF x wy ad md 6)));generalize pQ N5 p (.ins a.e (cF x wy ad md 6))=N6 at k6 b6 ⊢;refine pH b6 ⟨(G.j "since" Z'),by show 6<1000;decide,?_⟩;have k7:=k6.trans (sJ.put (p:=p) (c:=.ins a.e (cF x wy ad md 7)));have b7:pQ N6 p (.ins a.e (cF x wy ad md 7)) p=Fa (.ins a.e (cF x wy ad md 7)):=pZ;rw[show wj "since" (.int 0) (cF x wy ad md 6)=(cF x wy ad md 7)from Z'];generalize pQ N6 p (.ins a.e (cF x wy ad md 7))=N7 at k7 b7 ⊢;refine pH b7 ⟨(G.j "word" Z'),by show 7<1000;decide,_,.refl,?_⟩;have k8:=k7.trans (sJ.put (p:=p) (c:=.ins a.e (rG (zO x) wy ad md)));exact q _ wy ad md (ZR.trans k8) z1 z2 z3 naw nmw pZ (k8.lst (qd l5 b5) l5) (k8.lst (qd m5 b5) m5) (k8.lst (qd o5 b5) o5)
def JT:Fq P w K mg base 1 a.af (QO a):=by
 refine fq G.af.toDG Hi (λr u=>⟨_,(pF (qr v0 pJ)
 (pF (qr v0 U1)
 (pF (qr v0 (qW tI))
 (pF (qr v0 (qW tI))
 (pG (qr v0 rb)))))),?_⟩)
 rintro ds M Q ⟨A,V,i,k,c,w0,rfl,h,q⟩
 obtain⟨ad,md,h1,h2,h3,h4,n1,n2⟩:=h.cell;refine pH h1 ⟨(G.j "state" Z'),by show 8<1000;decide,?_⟩;obtain⟨g1,s1⟩:=h.put {c with st:="over"} Z' h3 h4 n1 n2;show uR _ _ _ _ (pQ M k.p (.ins a.e (rG {c with st:="over"} k.wy ad md)));generalize pQ M k.p (.ins a.e (rG {c with st:="over"} k.wy ad md))=M1 at g1 s1 ⊢;clear h1 h2 h3 h4 n1 n2;obtain⟨ad,md,h1,h2,h3,h4,n1,n2⟩:=g1.cell;refine pH h1 ⟨(G.j "word" Z'),by show 8<1000;decide,?_⟩;obtain⟨g2,s2⟩:=g1.put {c with st:="over",wd:=some w0} Z' h3 h4 n1 n2;show uR _ _ _ _ (pQ M1 k.p (.ins a.e (rG {c with st:="over",wd:=some w0} k.wy ad md)));generalize pQ M1 k.p (.ins a.e (rG {c with st:="over",wd:=some w0} k.wy ad md))=M2 at g2 s2 ⊢;clear h1 h2 h3 h4 n1 n2;refine⟨pD Z',λp hp=>?_⟩;have t3:=qO.new (c:=.lst []) hp;have lp:=@pT M2 p [];have np:=g2.bd.nJ hp;have Z7:=g2.sub t3;have s2':=s2.trans (.sub t3);generalize pQ M2 p (.lst [])=M2' at t3 lp Z7 s2' ⊢;obtain⟨ad,md,h1,h2,h3,h4,n1,n2⟩:=Z7.cell;refine pH h1 ⟨(G.j "at" Z'),by show 8<1000;decide,?_⟩;obtain⟨g3,s3⟩:=Z7.put {c with st:="over",wd:=some w0,at_:=[]} Z' lp h4 np n2;show uR _ _ _ _ (pQ M2' k.p (.ins a.e (rG {c with st:="over",wd:=some w0,at_:=[]} k.wy p md)));generalize pQ M2' k.p (.ins a.e (rG {c with st:="over",wd:=some w0,at_:=[]} k.wy p md))=M3 at g3 s3 ⊢;clear h1 h2 h3 h4 n1 n2 lp t3 np g2 Z7;refine⟨pD Z',λp2 X2=>?_⟩;have t4:=qO.new (c:=.lst []) X2;have lp:=@pT M3 p2 [];have np:=g3.bd.nJ X2;have g3':=g3.sub t4;have s3':=s3.trans (.sub t4);generalize pQ M3 p2 (.lst [])=M3' at t4 lp g3' s3' ⊢;obtain⟨ad,md,h1,h2,h3,h4,n1,n2⟩:=g3'.cell;refine pH h1 ⟨(G.j "members" Z'),by show 8<1000;decide,?_⟩;obtain⟨g4,s4⟩:=g3'.put {c with st:="over",wd:=some w0,at_:=[],ms:=[]} Z' h3 lp n1 np;rw[show wj "members" (.ref p2) (rG {c with st:="over",wd:=some w0,at_:=[]} k.wy ad md)=rG {c with st:="over",wd:=some w0,at_:=[],ms:=[]} k.wy ad p2 from rfl];generalize pQ M3' k.p (.ins a.e (rG {c with st:="over",wd:=some w0,at_:=[],ms:=[]} k.wy ad p2))=M4 at g4 s4 ⊢;clear h1 h2 h3 h4 n1 n2 lp t4 np g3 g3';obtain⟨ad,md,h1,h2,h3,h4,n1,n2⟩:=g4.cell;refine pH h1 ⟨(G.j "holder" Z'),by show 8<1000;decide,_,.refl,?_⟩;obtain⟨g5,s5⟩:=g4.put (c.over w0) Z' h3 h4 n1 n2;refine q _ ((s1.trans s2').trans (s3'.trans (s4.trans s5))) ?_;have:=g5.bd;rw[sH,sH,sH,sH]at this;exact this
def NL:Fq P w K mg base 1 a.bg (LX a):=by
 refine fq G.bg.toDG Dx (λr u=>⟨_,(pF (qr v0 (qP Z' (yh (ix:=[Db,Fa 1]) (N':=["other","phone"])) (qL (pK v0)) (qM 0) (vI (pN u v0 U1)) v0))
 (pG (qr v0 (qP Z' (yh (ix:=[Db,Fa 1]) (N':=["other","phone"])) (qL (pK v0)) (qM 0) (vI (pN u v0 U1)) v0)))),?_⟩)
 rintro ds M Q ⟨A,V,i,k,c,x,rfl,h,la,lm,q⟩
 have hz:=dR;obtain⟨ad,md,h1,h2,h3,h4,n1,n2⟩:=h.cell;refine pH h1 (i' Z' (i' h3 (tG (f:=id) (t:=PV x) h3 _ [] _ (by rw[de];simp only[dS];lia) (λd hd k0 hk=>?_) (λd hd _ k0 hk=>?_) λp hp=>?_)))
 .obtain⟨y,hy,rfl⟩:=dJ.mp hd;exact hk
 .obtain⟨y,hy,rfl⟩:=dJ.mp hd;exact hk
 rw[Dg];have t1:=qO.new (c:=.lst ((rX c.at_ x).map D.str)) hp;have lp:=@pT M p ((rX c.at_ x).map D.str);have np:=h.bd.nJ hp;have h':=h.sub t1;have s1:rf A M A (pQ M p (.lst ((rX c.at_ x).map D.str))):=.sub t1;generalize pQ M p (.lst ((rX c.at_ x).map D.str))=M1 at t1 lp h' s1 ⊢;clear h1 h2 h3 h4 n1 n2;obtain⟨ad,md,h1,h2,h3,h4,n1,n2⟩:=h'.cell;refine pH h1 ⟨(G.j "at" Z'),by show 8<1000;decide,?_⟩;obtain⟨g2,s2⟩:=h'.put {c with at_:=rX c.at_ x} Z' lp h4 np n2;rw[show wj "at" (.ref p) (rG c k.wy ad md)=rG {c with at_:=rX c.at_ x} k.wy p md from rfl];generalize pQ M1 k.p (.ins a.e (rG {c with at_:=rX c.at_ x} k.wy p md))=M2 at g2 s2 ⊢;clear h1 h2 h3 h4 n1 n2 lp np;obtain⟨ad,md,h1,h2,h3,h4,n1,n2⟩:=g2.cell;refine pH h1 (i' Z' (i' h4 (tG (f:=id) (t:=PV x) h4 _ [] _ (by rw[de];simp only[dS];show 0+c.ms.length<=Ch;lia) (λd hd k0 hk=>?_) (λd hd _ k0 hk=>?_) λp2 X2=>?_)))
 .obtain⟨y,hy,rfl⟩:=dJ.mp hd;exact hk
 .obtain⟨y,hy,rfl⟩:=dJ.mp hd;exact hk
 rw[Dg];have t3:=qO.new (c:=.lst ((rX c.ms x).map D.str)) X2;have lp:=@pT M2 p2 ((rX c.ms x).map D.str);have np:=g2.bd.nJ X2;have Z7:=g2.sub t3;have s3:rf A M2 A (pQ M2 p2 (.lst ((rX c.ms x).map D.str))):=.sub t3;generalize pQ M2 p2 (.lst ((rX c.ms x).map D.str))=M3 at t3 lp Z7 s3 ⊢;clear h1 h2 h3 h4 n1 n2;obtain⟨ad,md,h1,h2,h3,h4,n1,n2⟩:=Z7.cell;refine pH h1 ⟨(G.j "members" Z'),by show 8<1000;decide,_,.refl,?_⟩;obtain⟨g4,s4⟩:=Z7.put (c.drop x) Z' h3 lp n1 np;refine q _ ((s1.trans s2).trans (s3.trans s4)) ?_;have:=g4.bd;rw[sH]at this;exact this
def KR:Fq P w K mg base 2 a.bh (KM a):=by
 refine fq G.bh.toDG xP (λr u=>⟨_,(pF (pU 2 xP (pS U1 pI))
 (pG (pV (pN u U2 pJ)
 (pF (qr v0 pJ)
 (pF (qr v0 (qp tO Z' G.z tK (qz (pS U1 pI))))
 (pG (qr v0 pI))))
 (pG (pV (pN u U2 pJ)
 (pG (qr v0 (qW tI)))
 (pG (pV (pN u U2 pJ)
 (pF (qr v0 pJ)
 (pG (qr v0 (qW (qz (pS U1 pI))))))
 (pG (pV (pN u U2 pJ)
 (pF (qr v0 pJ)
 (pF (qr v0 (qp tO Z' G.z tK (qz (pS U1 pI))))
 (pF (qr v0 (qW tI))
 (pG (qr v0 rb)))))
 (pG (pV (pN u U2 pJ)
 (pF (qr v0 pJ)
 (pG (qr v0 (pS U1 pI))))
 (pG (pV (pN u U2 pJ)
 (pG (pY (pP (NL G) r G.bg (rQ v0 (pS U1 pI)))))
 (pG (pV (pN u U2 pJ)
 (pG (pY (pP (JT G) r G.af (rQ v0 (pS U1 pI)))))
 pO))))))))))))))),?_⟩)
 rintro ds M Q ⟨A,V,i,k,c,e,c',rfl,h,la,lm,hc,q⟩
 cases hc with
 | over w0=>exact⟨A,V,i,k,c,w0,Z',h,λM' s b=>⟨M',.refl,q M' s b⟩⟩
 | leaves x=>exact⟨A,V,i,k,c,x,Z',h,la,lm,λM' s b=>⟨M',.refl,q M' s b⟩⟩
 | quiet=>refine⟨pD Z',λp hp=>?_⟩;obtain⟨M1,e0,t3,lp⟩:=xl (ds:=[]) hp;rw[<-e0];have np:=h.bd.nJ hp;have g1:=h.sub t3;obtain⟨ad,md,h1,h2,h3,h4,n1,n2⟩:=g1.cell;refine pH h1 ⟨(G.j "at" Z'),by show 8<1000;decide,_,.refl,?_⟩;obtain⟨g5,s5⟩:=g1.put c.nV Z' lp h4 np n2;exact q _ ((rf.sub t3).trans s5) g5.bd
 | waits x=>obtain⟨ad,md,h1,h2,h3,h4,n1,n2⟩:=h.cell;refine pH h1 ⟨(G.j "state" Z'),by show 8<1000;decide,?_⟩;obtain⟨g1,s1⟩:=h.put {c with st:="waits"} Z' h3 h4 n1 n2;show uR _ _ _ _ (pQ M k.p (.ins a.e (rG {c with st:="waits"} k.wy ad md)));generalize pQ M k.p (.ins a.e (rG {c with st:="waits"} k.wy ad md))=M1 at g1 s1 ⊢;clear h1 h2 h3 h4 n1 n2;refine⟨pD Z',λp hp=>?_⟩;have t3:=qO.new (c:=.lst [D.str x]) hp;have lp:=@pT M1 p [D.str x];have np:=g1.bd.nJ hp;have ZI:=g1.sub t3;generalize pQ M1 p (.lst [D.str x])=M1' at t3 lp ZI ⊢;obtain⟨ad,md,h1,h2,h3,h4,n1,n2⟩:=ZI.cell;refine pH h1 ⟨(G.j "at" Z'),by show 8<1000;decide,_,.refl,?_⟩;obtain⟨g5,s5⟩:=ZI.put (c.wait x) Z' lp h4 np n2;refine q _ (s1.trans ((rf.sub t3).trans s5)) ?_;have:=g5.bd;rw[sH]at this;exact this
 | held x=>obtain⟨ad,md,h1,h2,h3,h4,n1,n2⟩:=h.cell;refine pH h1 ⟨(G.j "state" Z'),by show 8<1000;decide,?_⟩;obtain⟨g1,s1⟩:=h.put {c with st:="held"} Z' h3 h4 n1 n2;show uR _ _ _ _ (pQ M k.p (.ins a.e (rG {c with st:="held"} k.wy ad md)));generalize pQ M k.p (.ins a.e (rG {c with st:="held"} k.wy ad md))=M1 at g1 s1 ⊢;clear h1 h2 h3 h4 n1 n2;obtain⟨ad,md,h1,h2,h3,h4,n1,n2⟩:=g1.cell;refine pH h1 ⟨(G.j "holder" Z'),by show 8<1000;decide,_,.refl,?_⟩;obtain⟨g5,s5⟩:=g1.put (c.hold x) Z' h3 h4 n1 n2;refine q _ (s1.trans s5) ?_;have:=g5.bd;rw[sH]at this;exact this
 | rings ps=>obtain⟨ad,md,h1,h2,h3,h4,n1,n2⟩:=h.cell;refine pH h1 ⟨(G.j "state" Z'),by show 8<1000;decide,?_⟩;obtain⟨g1,s1⟩:=h.put {c with st:="rings"} Z' h3 h4 n1 n2;show uR _ _ _ _ (pQ M k.p (.ins a.e (rG {c with st:="rings"} k.wy ad md)));generalize pQ M k.p (.ins a.e (rG {c with st:="rings"} k.wy ad md))=M1 at g1 s1 ⊢;clear h1 h2 h3 h4 n1 n2;refine λp hp=>?_;have t3:=qO.new (c:=.lst (ps.map D.str)) hp;have lp:=@pT M1 p (ps.map D.str);have np:=g1.bd.nJ hp;have ZI:=g1.sub t3;have s1':=s1.trans (.sub t3);generalize pQ M1 p (.lst (ps.map D.str))=M1' at t3 lp ZI s1' ⊢;obtain⟨ad,md,h1,h2,h3,h4,n1,n2⟩:=ZI.cell;refine pH h1 ⟨(G.j "at" Z'),by show 8<1000;decide,?_⟩;obtain⟨g3,s3⟩:=ZI.put {c with st:="rings",at_:=ps} Z' lp h4 np n2;rw[show wj "at" (.ref p) (rG {c with st:="rings"} k.wy ad md)=rG {c with st:="rings",at_:=ps} k.wy p md from rfl];generalize pQ M1' k.p (.ins a.e (rG {c with st:="rings",at_:=ps} k.wy p md))=M3 at g3 s3 ⊢;clear h1 h2 h3 h4 n1 n2 lp t3 np;obtain⟨ad,md,h1,h2,h3,h4,n1,n2⟩:=g3.cell;refine pH h1 ⟨(G.j "since" Z'),by show 8<1000;decide,_,.refl,?_⟩;obtain⟨g5,s5⟩:=g3.put (c.ring ps) Z' h3 h4 n1 n2;refine q _ (s1'.trans (s3.trans s5)) ?_;have:=g5.bd;rw[sH,sH]at this;exact this
 | talks ms=>obtain⟨ad,md,h1,h2,h3,h4,n1,n2⟩:=h.cell;refine pH h1 ⟨(G.j "state" Z'),by show 8<1000;decide,?_⟩;obtain⟨g1,s1⟩:=h.put {c with st:="talks"} Z' h3 h4 n1 n2;show uR _ _ _ _ (pQ M k.p (.ins a.e (rG {c with st:="talks"} k.wy ad md)));generalize pQ M k.p (.ins a.e (rG {c with st:="talks"} k.wy ad md))=M1 at g1 s1 ⊢;clear h1 h2 h3 h4 n1 n2;refine λp hp=>?_;have t3:=qO.new (c:=.lst (ms.map D.str)) hp;have lp:=@pT M1 p (ms.map D.str);have np:=g1.bd.nJ hp;have ZI:=g1.sub t3;have s1':=s1.trans (.sub t3);generalize pQ M1 p (.lst (ms.map D.str))=M1' at t3 lp ZI s1' ⊢;obtain⟨ad,md,h1,h2,h3,h4,n1,n2⟩:=ZI.cell;refine pH h1 ⟨(G.j "members" Z'),by show 8<1000;decide,?_⟩;obtain⟨g3,s3⟩:=ZI.put {c with st:="talks",ms:=ms} Z' h3 lp n1 np;show uR _ _ _ _ (pQ M1' k.p (.ins a.e (rG {c with st:="talks",ms:=ms} k.wy ad p)));generalize pQ M1' k.p (.ins a.e (rG {c with st:="talks",ms:=ms} k.wy ad p))=M3 at g3 s3 ⊢;clear h1 h2 h3 h4 n1 n2 lp t3 np;refine⟨pD Z',λp2 X2=>?_⟩;have t4:=qO.new (c:=.lst []) X2;have lp:=@pT M3 p2 [];have np:=g3.bd.nJ X2;have g3':=g3.sub t4;have s3':=s3.trans (.sub t4);generalize pQ M3 p2 (.lst [])=M3' at t4 lp g3' s3' ⊢;obtain⟨ad,md,h1,h2,h3,h4,n1,n2⟩:=g3'.cell;refine pH h1 ⟨(G.j "at" Z'),by show 8<1000;decide,?_⟩;obtain⟨g4,s4⟩:=g3'.put {c with st:="talks",ms:=ms,at_:=[]} Z' lp h4 np n2;rw[show wj "at" (.ref p2) (rG {c with st:="talks",ms:=ms} k.wy ad md)=rG {c with st:="talks",ms:=ms,at_:=[]} k.wy p2 md from rfl];generalize pQ M3' k.p (.ins a.e (rG {c with st:="talks",ms:=ms,at_:=[]} k.wy p2 md))=M4 at g4 s4 ⊢;clear h1 h2 h3 h4 n1 n2 lp t4 np;obtain⟨ad,md,h1,h2,h3,h4,n1,n2⟩:=g4.cell;refine pH h1 ⟨(G.j "holder" Z'),by show 8<1000;decide,_,.refl,?_⟩;obtain⟨g5,s5⟩:=g4.put (c.nQ ms) Z' h3 h4 n1 n2;refine q _ (s1'.trans (s3'.trans (s4.trans s5))) ?_;have:=g5.bd;rw[sH,sH,sH]at this;exact this
theorem ue{α:Type}{f:α->α}:∀{l:List α} {i:Nat} {c:α},l[i]?=Fa c->l.modify i f=l.set i (f c)
 | [],_,_,h=>by simp at h
 | _::_,0,_,h=>by cases h;rfl
 | x::r,i+1,c,h=>by rw[List.modify_succ_cons,lE,ue (l:=r) (by simpa using h)]
def HV(ps:T0 (Str×Int))(z:Str)(n:Int):CP (ua ps) (.inr z) (.int n)=ua (CN ps z n):=by
 have ea:((ua ps).any λkv=>decide (kv.1=(Sum.inr z:rm)))=ps.any λp=>decide (p.1=z):=by unfold ua;rw[j8];congr 1;funext p;have:((Sum.inr p.1:rm)=Sum.inr z)=(p.1=z):=propext ⟨λh=>kr h,λh=>by rw[h]⟩;simp only[Function.comp,this]
 unfold CP CN;rw[ea];by_cases h:(ps.any λp=>decide (p.1=z))=pc
 .rw[dw h,dw h];unfold ua;rw[eG,eG];refine gC λp _=>?_;by_cases hp:p.1=z
  .simp[hp]
  .have:¬(Sum.inr p.1:rm)=Sum.inr z:=λy=>hp (kr y);simp[hp]
 .rw[dh h,dh h];unfold ua;rw[dZ];rfl
def GH{α:Type}{l:List α}{i:Nat}{x:α}(h:l[i]?=Fa x):l.set i x=l:=by obtain⟨hi,e⟩:=dv.mp h;rw[<-e,List.set_getElem_self]
structure Xn(V:qH):Prop where
 lo:V.log.length<10000000
 le:V.nq.length<10000000
 ca:V.calls.length<=1000000
 ps:V.ps.length<10000000
 cs:∀c∈V.calls,c.way.length<10000000/\c.at_.length<=100/\c.ms.length<=100
def Bs(a:Ad):rB:=λds M Q=>FV λA V k c v=>ds=[.ref A.b,sA.d v]/\CI a M A V v.i k c/\V.nq.length<10000000/\c.way.length<10000000/\∀M',rf A M A M'->pX a M' A {yW V v.i (c.go v.g)with nq:=V.nq++[v]}->Q .mY M'
def Dy(a:Ad):rB:=λds M Q=>Uh λA V i j ki ci cj ms=>ds=[.ref A.b,.int (i:Nat),.int (j:Nat),names ms]/\CI a M A V i ki ci/\V.calls[j]?=Fa cj/\i≠j/\V.nq.length<10000000/\∀M' A',A'.b=A.b->rf A M A' M'->pX a M' A' {yW (yW V i (ci.over "merged")) j (cj.mem ms)with nq:=V.nq.map (sA.to i j)}->Q .mY M'
def zQ(a:Ad):rB:=λds M Q=>z9 λA V=>ds=[.ref A.b]/\pX a M A V/\∀M',rf A M A M'->pX a M' A {V with t:=V.t+1,calls:=V.calls.map pM.tick}->Q .mY M'
def wx(a:Ad):rB:=λds M Q=>Au λb A V e=>ds=[.ref b,Ev.d e]/\A.b=b/\pX a M A V/\Xn V/\e.ok V/\∀M' A',A'.b=A.b->rf A M A' M'->pX a M' A' (qy V e)->Q .mY M'
noncomputable def RU(m k:Nat):D->D
 | .tup (.int i::r)=>if i=(m:Int)then .tup (.int (k:Nat)::r)else .tup (.int i::r)
 | d=>d
def TH(m k:Nat)(v:sA):RU m k v.d=(v.to m k).d:=by
 show(if ((v.i:Nat):Int)=(m:Int)then _ else _)=_;unfold sA.to;by_cases h:v.i=m
 .rw[dw h,dw (by rw[h])];rfl
 .rw[dh h,dh (by lia)];rfl
def HN:Fq P w K mg base 1 a.bQ (Bs a):=by
 refine fq G.bQ.toDG Ag (λr u=>⟨_,(pF (pY (r6 (pK v0) (qz U1)))
 (pG (pY (r6 (pK (pS (pK v0) (pS U1 pI))) (qz (pS U1 pI)))))),?_⟩)
 rintro ds M Q ⟨A,V,k,c,v,rfl,ci,l1,l2,q⟩
 have hz:=dR;have bd:=ci.bd;refine pH bd.at_ (i' Z' ⟨by show(oN M A.le).isSome=pc;rw[bd.le];rfl,i' bd.le ⟨by rw[de];lia,?_⟩⟩);obtain⟨b1,s1⟩:=bd.oQ (es:=V.nq++[v]);rw[dZ]at b1 s1;have b1:pX a (pQ M A.le (.lst (V.nq.map sA.d++[v.d]))) A {V with nq:=V.nq++[v]}:=b1;have s1:rf A M A (pQ M A.le (.lst (V.nq.map sA.d++[v.d]))):=s1;generalize pQ M A.le (.lst (V.nq.map sA.d++[v.d]))=M1 at b1 s1 ⊢;obtain⟨ad,md,h1,h2,h3,h4,n1,n2⟩:=b1.cs v.i k c ci.e1 ci.e2;refine pH b1.at_ (i' Z' (i' b1.ca (i' (qX ci.e1) (pH h1 (i' Z' ⟨by show(oN M1 k.wy).isSome=pc;rw[h2];rfl,i' h2 ⟨by rw[de];lia,?_⟩⟩)))));obtain⟨b2,s2⟩:=b1.oR (ws:=c.way++[v.g]) ci.e1 ci.e2;rw[dZ]at b2 s2;exact⟨_,.refl,q _ (s1.trans s2) b2⟩
def Nz:Fq P w K mg base 2 a.bR (Dy a):=by
 refine fq G.bR.toDG yj (λr u=>⟨_,(pF (pY (pP (JT G) r G.af (rQ (pS (pK v0) U1) pJ)))
 (pF (qr v0 (qP Z' (yh (ix:=[Db,Fa 1,Fa 2]) (N':=["leg","merged","kept"])) (qL (pK v0)) (qM 0) se (Ro (pN u (pS v0 pI) U1) (qe (pW (qz U2)) (sy v0 (sT pI) tL)) v0)))
 (pF (pU 4 yj (pS (pK v0) U2))
 (pG (qr v4 (qp tO Z' G.z tK (qz U3))))))),?_⟩)
 rintro ds M Q ⟨A,V,i,j,ki,ci,cj,ms,rfl,hi,hj,YM,l1,q⟩
 have hz:=dR;refine pH hi.bd.at_ (i' Z' (i' Z' (i' hi.bd.ca (i' (qX hi.e1) ⟨A,V,i,ki,ci,"merged",Z',hi,λM1 s1 b1=>?_⟩))));have hj1:(yW V i (ci.over "merged")).calls[j]?=Fa cj:=by show(V.calls.set i _)[j]?=_;rw[fg YM];exact hj
 have le1:oN M1 A.le=Fa (V.nq.map sA.d):=b1.le;refine pH b1.at_ (i' Z' (i' le1 (rA (f:=RU i j) le1 _ [] _ (by rw[de];simp only[dS];lia) (λd hd k hk=>?_) λp hp=>?_)))
 .obtain⟨v,_,rfl⟩:=dJ.mp hd;refine i' Z' ?_;have hk:k (if ((v.i:Nat):Int)=(i:Int)then .tup [.int (j:Nat),.str v.f,.str v.g,.str v.y]else .tup [.int (v.i:Nat),.str v.f,.str v.g,.str v.y]) M1:=hk;refine qv (c:=((v.i:Nat):Int)==(i:Nat)) (λz=>?_) (λz=>?_)
  .rw[dw (wE z)]at hk;exact⟨pD Z',fF _ _,by show 1+3<=Ch;lia,hk⟩
  .rw[dh (λy=>z (by rw[y];exact fE _))]at hk;exact hk
 have em:[]++(V.nq.map sA.d).map (RU i j)=(V.nq.map (sA.to i j)).map sA.d:=by rw[eB,eG,eG];exact gC λv _=>TH i j v
 rw[em];obtain⟨b2,s2⟩:=b1.oO (es:=V.nq.map (sA.to i j)) hp;have t:=qO.new (c:=.lst ((V.nq.map (sA.to i j)).map sA.d)) hp;refine pH (t _ _ b1.at_) ⟨(G.F "legs" Z'),by show 8<1000;decide,?_⟩;show uR _ _ _ _ (pQ (pQ M1 p (.lst ((V.nq.map (sA.to i j)).map sA.d))) A.b (.ins a.c (ui (.ref V.p) V.h V.t A.ca p A.nx A.on A.lo)));have b2:pX a (pQ (pQ M1 p (.lst ((V.nq.map (sA.to i j)).map sA.d))) A.b (.ins a.c (ui (.ref V.p) V.h V.t A.ca p A.nx A.on A.lo))) {A with le:=p} {yW V i (ci.over "merged")with nq:=V.nq.map (sA.to i j)}:=b2;have s2:rf A M1 {A with le:=p} (pQ (pQ M1 p (.lst ((V.nq.map (sA.to i j)).map sA.d))) A.b (.ins a.c (ui (.ref V.p) V.h V.t A.ca p A.nx A.on A.lo))):=s2;generalize pQ (pQ M1 p (.lst ((V.nq.map (sA.to i j)).map sA.d))) A.b (.ins a.c (ui (.ref V.p) V.h V.t A.ca p A.nx A.on A.lo))=M2 at b2 s2 ⊢;have hjk:j<A.cs.length:=by rw[hi.bd.len];exact(dv.mp hj).1
 have ej:A.cs[j]?=Fa A.cs[j]:=dg hjk;generalize A.cs[j]=kj at ej;have cj2:CI a M2 {A with le:=p} _ j kj cj:=⟨b2,ej,hj1⟩;refine pH b2.at_ (i' Z' (i' Z' (i' b2.ca (i' (qX ej) ?_))));refine λr hr0=>?_;obtain⟨M3,e0,t3,lr⟩:=xl (ds:=ms.map D.str) hr0;rw[<-e0];have nr:=b2.nJ hr0;have cj3:=cj2.sub t3;obtain⟨ad,md,h1,h2,h3,h4,n1,n2⟩:=cj3.cell;refine pH h1 ⟨(G.j "members" Z'),by show 8<1000;decide,_,.refl,?_⟩;obtain⟨g5,s5⟩:=cj3.put (cj.mem ms) Z' h3 lr n1 nr;exact q _ {A with le:=p} Z' (s1.trans (s2.trans ((rf.sub t3).trans s5))) g5.bd
def E9:Fq P w K mg base 1 a.bS (zQ a):=by
 refine fq G.bS.toDG vA (λr u=>⟨_,(pF (Ee v0 pI)
 (pG (uP ft Z' (qL (pK v0)) (rC 1 vA)
 (pG (pV (pN u (pK U1) pJ)
 (pG (Ee U1 pI))
 pO))))),?_⟩)
 rintro ds M Q ⟨A,V,rfl,bd,q⟩
 refine pH bd.at_ ⟨(G.F "turn" Z'),i' Z' (i' Z' (pH bd.at_ ⟨Z',by show 8<1000;decide,?_⟩))⟩;obtain⟨b1,s1⟩:=bd.putT (t:=V.t+1);rw[show wj "turn" (.int (V.t+1)) (ui (.ref V.p) V.h V.t A.ca A.le A.nx A.on A.lo)=ui (.ref V.p) V.h (V.t+1) A.ca A.le A.nx A.on A.lo from rfl];generalize pQ M A.b (.ins a.c (ui (.ref V.p) V.h (V.t+1) A.ca A.le A.nx A.on A.lo))=M1 at b1 s1 ⊢;refine pH b1.at_ (i' Z' (i' b1.ca ?_));refine vN (A.cs.map λk=>D.ref k.p) (λpre U M'=>pX a M' A {V with t:=V.t+1,calls:=(V.calls.take pre.length).map pM.tick++V.calls.drop pre.length}/\rf A M A M'/\∃y,U=[Fa (.ref A.b),y]) (λ_ _ M' j=>j.1.ca) _ [] _ _ Z' ⟨b1,s1,Db,Z'⟩ ?_ ?_
 .rintro pre d post e U M' ⟨b2,s2,y,rfl⟩ nx X0
  have hd:(A.cs.map λk=>D.ref k.p)[pre.length]?=Fa d:=by rw[<-e];simp
  rw[dM]at hd;cases ek:A.cs[pre.length]? with
  | none=>rw[ek]at hd;cases hd
  | some k=>
   rw[ek]at hd;have hd:D.ref k.p=d:=dD hd;subst hd;have hi:pre.length<V.calls.length:=by rw[<-bd.len];exact(dv.mp ek).1
   have ec:V.calls[pre.length]?=Fa V.calls[pre.length]:=dg hi;have ed:V.calls.drop pre.length=V.calls[pre.length]::V.calls.drop (pre.length+1):=gR hi;have et:V.calls.take (pre.length+1)=V.calls.take pre.length++[V.calls[pre.length]]:=by rw[ii,ec];rfl
   generalize V.calls[pre.length]=c at ec ed et;have hl:((V.calls.take pre.length).map pM.tick).length=pre.length:=by rw[de,fQ];lia
   have ec2:((V.calls.take pre.length).map pM.tick++V.calls.drop pre.length)[pre.length]?=Fa c:=by rw[fj (by rw[hl];exact dE _),hl,iq,ed];rfl
   rw[dq,dX,et]at X0;have en:((V.calls.take pre.length).map pM.tick++V.calls.drop pre.length).set pre.length c.tick=(V.calls.take pre.length++[c]).map pM.tick++V.calls.drop (pre.length+1):=by rw[kG _ _ (by rw[hl];exact dE _),hl,iq,ed,dZ,fC];rfl
   have ci:CI a M' A _ pre.length k c:=⟨b2,ek,ec2⟩;obtain⟨ad,md,h1,h2,h3,h4,n1,n2⟩:=ci.cell;refine pH h1 (i' Z' ?_);have ht:c.tick=if (c.st=="rings")=pc then{c with si:=c.si+1}else c:=rfl;refine qv (c:=c.st=="rings") (λg=>?_) (λg=>?_)
   .rw[dw g]at ht;refine pH h1 ⟨(G.j "since" Z'),i' Z' (i' Z' (pH h1 ⟨Z',by show 8<1000;decide,?_⟩))⟩;obtain⟨g5,s5⟩:=ci.put c.tick (by rw[ht]) (by rw[ht];exact h3) (by rw[ht];exact h4) n1 n2;have b5:=g5.bd;unfold yW at b5;rw[en]at b5;rw[ht]at b5 s5;exact X0 _ _ ⟨b5,s2.trans s5,_,Z'⟩
   .rw[dh g]at ht;rw[ht,GH ec2]at en;rw[en]at b2;exact X0 _ _ ⟨b2,s2,_,Z'⟩
 .rintro U M' ⟨b2,s2,y,rfl⟩
  rw[de,bd.len,fA,j4,fk]at b2;exact⟨M',.refl,q M' s2 b2⟩
def rq:Fq P w K mg base 3 a.k (wx a):=by
 refine fq G.k.toDG xQ (λr u=>⟨_,(pF (pY (r6 (pK v0) (qz U1)))
 (pF (pU 2 xQ (pS U1 pI))
 (pG (pV (pN u U2 pJ)
 (pG (pY (r6 (pK v0) (qz (vD (QH G) r G.e G.cv G.ay.toDG (qz (pS U1 pI)))))))
 (pG (pV (pN u U2 pJ)
 (pG (pY (qh v0 G.c.toCls G.bQ (HN G) r (qz (sy U1 (sT pI) tL)))))
 (pG (pV (pN u U2 pJ)
 (pG (Qo u (pK v0) (pS U1 pI) (pS U1 pI)))
 (pG (pV (pN u U2 pJ)
 (pG (pY (qh v0 G.c.toCls G.bR (Nz G) r (rc (pS U1 pI) (pS U1 pI) (pS U1 pI)))))
 (pG (pV (pN u U2 pJ)
 (pG (pY (yz v0 G.c.toCls G.bS (E9 G) r)))
 (pG (pV (pN u U2 (pW (rQ pJ pJ)))
 (pG (EU (ql u U2 pJ) (T8 (pK v0) (pS U1 pI))))
 (pG (pV (pN u U2 pJ)
 (pG (pY (pP (KR G) r G.bh (rQ (pS (pK v0) (pS U1 pI)) U1))))
 pO)))))))))))))))),?_⟩)
 rintro ds M Q ⟨_,A,V,e,rfl,rfl,bd,lim,ev,q⟩
 have hz:=dR;have ll:=lim.lo;have lc:=lim.ca;have lp:=lim.ps;refine pH bd.at_ (i' Z' ⟨by show(oN M A.lo).isSome=pc;rw[bd.lo];rfl,i' bd.lo ⟨by rw[de];lia,?_⟩⟩);have hb:=bd.oH (es:=V.log++[e]);rw[dZ]at hb;obtain⟨b1,s1⟩:pX a (pQ M A.lo (.lst (V.log.map Ev.d++[e.d]))) A (qV V e)/\rf A M A (pQ M A.lo (.lst (V.log.map Ev.d++[e.d]))):=hb;show uR _ _ _ _ (pQ M A.lo (.lst (V.log.map Ev.d++[e.d])));generalize pQ M A.lo (.lst (V.log.map Ev.d++[e.d]))=M1 at b1 s1 ⊢;have ZT:∀i,i<V.calls.length->∃k c,A.cs[i]?=Fa k/\V.calls[i]?=Fa c/\c∈V.calls:=λi hi=>by
  have YI:i<A.cs.length:=by rw[bd.len];exact hi
  exact⟨_,_,dg YI,dg hi,iw hi⟩
 have chg:∀(i:Nat) (k:rT) (c:pM) (c':pM) (f:pM->pM),A.cs[i]?=Fa k->V.calls[i]?=Fa c->f c=c'->qy V e=xR (qV V e) i f->∀(M2:Mp),rf A M1 A M2->pX a M2 A (yW (qV V e) i c')->∃XU,qO XU M2/\Q .mY XU:=λi k c c' f e1 e2 e3 e4 M2 s2 b2=>⟨M2,.refl,q M2 A Z' (s1.trans s2) (by
  rw[e4];unfold xR;rw[show(qV V e).calls=V.calls from rfl,ue e2,e3];exact b2)⟩
 cases e with
 | new n x=>refine pH b1.at_ (i' Z' ⟨by show(oN M1 A.ca).isSome=pc;rw[b1.ca];rfl,λp hp=>⟨p,x,Z',pZ,λM2 wy ad md kp z1 z2 z3 n1 n2 h1 h2 h3 h4=>⟨Z',?_⟩⟩⟩);have sp:=qO.new (c:=.ins a.e []) hp;have s2:qO M1 M2:=λy d hy=>kp y d (PH hy hp) (sp y d hy);refine i' (s2.lst b1.ca) ⟨by rw[de,b1.len];show V.calls.length<Ch;lia,?_⟩;obtain⟨b3,s3⟩:=b1.oz s2 (c:=zO x) hp (sp.none z1) (sp.none z2) (sp.none z3) h1 h2 h3 h4 n1 n2;exact⟨_,.refl,q _ (A.add ⟨p,wy⟩) Z' (s1.trans s3) b3⟩
 | leg v=>obtain⟨k,c,ek,ec,hc⟩:=ZT v.i ev;refine pH b1.at_ ⟨Z',_,⟨Z',Z'⟩,A,qV V (.leg v),k,c,v,Z',⟨b1,ek,ec⟩,lim.le,(lim.cs c hc).1,λM2 s2 b2=>⟨M2,.refl,q M2 A Z' (s1.trans s2) ?_⟩⟩;show pX a M2 A {qV V (.leg v)with nq:=V.nq++[v],calls:=V.calls.modify v.i (·.go v.g)};rw[ue ec];exact b2
 | next z n=>refine pH b1.at_ (i' Z' (i' b1.nx ⟨by show(ua V.ps).length<Ch;unfold ua;rw[de];lia,?_⟩));rw[HV];obtain⟨b2,s2⟩:=b1.pk (ps:=CN V.ps z n);exact⟨_,.refl,q _ A Z' (s1.trans s2) b2⟩
 | merge i j ms=>obtain⟨hi,hj,hij,_⟩:=ev;obtain⟨ki,ci,eki,eci,hci⟩:=ZT i hi;obtain⟨kj,cj,ekj,ecj,hcj⟩:=ZT j hj;refine pH b1.at_ ⟨Z',_,⟨Z',Z'⟩,A,qV V (.merge i j ms),i,j,ki,ci,cj,ms,Z',⟨b1,eki,eci⟩,ecj,hij,lim.le,λM2 A2 eb s2 b2=>⟨M2,.refl,q M2 A2 eb (s1.trans s2) ?_⟩⟩;show pX a M2 A2 {qV V (.merge i j ms)with calls:=(V.calls.modify i (·.over "merged")).modify j (·.mem ms),nq:=V.nq.map (sA.to i j)};rw[ue eci,ue (show(V.calls.set i _)[j]?=Fa cj by rw[fg hij];exact ecj)];exact b2
 | asks i z ns=>exact⟨pD Z',Z',Z',M1,.refl,q M1 A Z' s1 b1⟩
 | turn=>exact pH b1.at_ ⟨Z',_,⟨Z',Z'⟩,A,qV V .turn,Z',b1,λM2 s2 b2=>⟨M2,.refl,q M2 A Z' (s1.trans s2) b2⟩⟩
 | sw b i=>
  have hi:i<V.on.length:=ev;obtain⟨b2,s2⟩:=b1.oY (bs:=V.on.set i b);have es:(V.on.map D.bl).set i (.bl b)=(V.on.set i b).map D.bl:=(mI).symm;have ix:GT (V.on.map D.bl).length (i:Nat)=Fa i:=by rw[de];unfold GT;simp[hi]
  have XX:∃XU,qO XU (pQ M1 A.on (.lst ((V.on.map D.bl).set i (.bl b))))/\Q .mY XU:=by rw[es];exact⟨_,.refl,q _ A Z' (s1.trans s2) b2⟩
  cases b with
  | true=>exact⟨pD Z',Z',Z',pH b1.at_ (i' Z' (i' b1.on (i' ix XX)))⟩
  | false=>exact⟨pD Z',Z',Z',pH b1.at_ (i' Z' (i' b1.on (i' ix XX)))⟩
 | rings i ps=>obtain⟨k,c,ek,ec,hc⟩:=ZT i ev.1;exact⟨pD Z',Z',Z',pH b1.at_ (i' Z' (i' b1.ca (i' (qX ek) ⟨A,qV V _,i,k,c,_,_,Z',⟨b1,ek,ec⟩,(lim.cs c hc).2.1,(lim.cs c hc).2.2,.rings ps,chg i k c _ _ ek ec Z' Z'⟩)))⟩
 | quiet i=>obtain⟨k,c,ek,ec,hc⟩:=ZT i ev;exact⟨pD Z',Z',Z',pH b1.at_ (i' Z' (i' b1.ca (i' (qX ek) ⟨A,qV V _,i,k,c,_,_,Z',⟨b1,ek,ec⟩,(lim.cs c hc).2.1,(lim.cs c hc).2.2,.quiet,chg i k c _ _ ek ec Z' Z'⟩)))⟩
 | waits i x=>obtain⟨k,c,ek,ec,hc⟩:=ZT i ev;exact⟨pD Z',Z',Z',pH b1.at_ (i' Z' (i' b1.ca (i' (qX ek) ⟨A,qV V _,i,k,c,_,_,Z',⟨b1,ek,ec⟩,(lim.cs c hc).2.1,(lim.cs c hc).2.2,.waits x,chg i k c _ _ ek ec Z' Z'⟩)))⟩
 | talks i ms=>obtain⟨k,c,ek,ec,hc⟩:=ZT i ev.1;exact⟨pD Z',Z',Z',pH b1.at_ (i' Z' (i' b1.ca (i' (qX ek) ⟨A,qV V _,i,k,c,_,_,Z',⟨b1,ek,ec⟩,(lim.cs c hc).2.1,(lim.cs c hc).2.2,.talks ms,chg i k c _ _ ek ec Z' Z'⟩)))⟩
 | held i x=>obtain⟨k,c,ek,ec,hc⟩:=ZT i ev;exact⟨pD Z',Z',Z',pH b1.at_ (i' Z' (i' b1.ca (i' (qX ek) ⟨A,qV V _,i,k,c,_,_,Z',⟨b1,ek,ec⟩,(lim.cs c hc).2.1,(lim.cs c hc).2.2,.held x,chg i k c _ _ ek ec Z' Z'⟩)))⟩
 | leaves i x=>obtain⟨k,c,ek,ec,hc⟩:=ZT i ev;exact⟨pD Z',Z',Z',pH b1.at_ (i' Z' (i' b1.ca (i' (qX ek) ⟨A,qV V _,i,k,c,_,_,Z',⟨b1,ek,ec⟩,(lim.cs c hc).2.1,(lim.cs c hc).2.2,.leaves x,chg i k c _ _ ek ec Z' Z'⟩)))⟩
 | over i w0=>obtain⟨k,c,ek,ec,hc⟩:=ZT i ev;exact⟨pD Z',Z',Z',pH b1.at_ (i' Z' (i' b1.ca (i' (qX ek) ⟨A,qV V _,i,k,c,_,_,Z',⟨b1,ek,ec⟩,(lim.cs c hc).2.1,(lim.cs c hc).2.2,.over w0,chg i k c _ _ ek ec Z' Z'⟩)))⟩
noncomputable def MN:QQQ:=["barred","ring","engaged","left","refused","done","merged"]
def AO(o:Bool)(c:pM):Prop:=(c.st="rings"/\c.ms=[]/\c.hd=Db/\c.wd=Db/\(o=pc->c.at_=[])/\(o=lf->c.at_≠[]))\/(o=lf/\((c.st="waits"/\c.ms=[]/\c.hd=Db/\c.wd=Db/\c.at_.length=1)\/(c.st="talks"/\(c.ms.length=2\/c.ms.length=3)/\c.hd=Db/\c.wd=Db/\c.at_=[])\/
 (∃x,c.st="held"/\c.ms.length=2/\c.hd=Fa x/\x∈c.ms/\c.wd=Db/\c.at_=[])\/(c.st="over"/\c.ms=[]/\c.hd=Db/\c.at_=[]/\∃w∈MN,c.wd=Fa w)))
structure wn(l:pR)(o:Bool)(c:pM):Prop where
 sh:AO o c
 cr:c.cr∈l.pn
 at_:∀x∈c.at_,x∈l.pn
 ms:∀x∈c.ms,x∈l.pn
 an:c.at_.Nodup
 mn:c.ms.Nodup
 ca:c.cr∉c.at_
 wy:c.way≠[]/\∀z∈c.way,z∈l.nm
def BA(c:pM)(x:Str):Prop:=c.nk x=pc\/c.ng x=pc
structure Ae(l:pR)(V:qH)(o:Option Nat):Prop where
 ok:∀(i:Nat) c,V.calls[i]?=Fa c->wn l (o==Fa i) c
 un:∀(i j:Nat) ci cj x,V.calls[i]?=Fa ci->V.calls[j]?=Fa cj->BA ci x->BA cj x->i=j
 ln:∀x∈l.pn,(uT V x:Int)<=wm l x
 wt:∀(i j:Nat) ci cj x,V.calls[i]?=Fa ci->V.calls[j]?=Fa cj->ci.mZ x=pc->cj.mZ x=pc->i=j
 nx:uF l V
abbrev WF(l:pR)(V:qH):Prop:=Ae l V Db
structure Sz(V:qH)(c n:Nat):Prop where
 lo:V.log.length<=n
 le:V.nq.length<=n
 ca:V.calls.length<=c
 ps:V.ps.length<=n
 cs:∀k∈V.calls,k.way.length<=n/\k.at_.length<=100/\k.ms.length<=100
def Sz.mono{V:qH}{c n c' n':Nat}(h:Sz V c n)(hc:c<=c')(hn:n<=n'):Sz V c' n':=⟨eE h.lo hn,eE h.le hn,eE h.ca hc,eE h.ps hn,λk hk=>⟨eE (h.cs k hk).1 hn,(h.cs k hk).2⟩⟩
noncomputable def Ev.nw:Ev->Nat
 | .new _ _=>1
 | _=>0
def ND(ps:T0 (Str×Int))(z:Str)(n:Int):(CN ps z n).length<=ps.length+1:=by
 unfold CN;split
 .rw[de];lia
 .rw[dq];exact dE _
def Jv(ss:QQQ)(x:Str):(rX ss x).length<=ss.length:=gL _ _
def F8{α:Type}{f:α->α}{l:List α}{i:Nat}{x:α}(h:x∈l.modify i f):x∈l\/∃y∈l,x=f y:=by
 cases e:l[i]? with
 | none=>rw[lh (by simpa using e)]at h;exact .inl h
 | some c=>
  rw[ue e]at h;rcases List.mem_or_eq_of_mem_set h with g|g
  .exact .inl g
  .exact .inr ⟨c,fD e,g⟩
def Sz.step{V:qH}{c n:Nat}{e:Ev}(h:Sz V c n)(ok:e.ok V):Sz (qy V e) (c+e.nw) (n+1):=by
 have h1:Sz (qV V e) c (n+1):=⟨by show(V.log++[e]).length<=n+1;rw[dq];exact iy h.lo,jL h.le,h.ca,jL h.ps,λk hk=>⟨jL (h.cs k hk).1,(h.cs k hk).2⟩⟩;have md:∀(i:Nat) (f:pM->pM),(∀k∈V.calls,(f k).way=k.way/\(f k).at_.length<=100/\(f k).ms.length<=100)->Sz (xR (qV V e) i f) c (n+1):=λi f hf=>⟨h1.lo,h1.le,by show(V.calls.modify i f).length<=c;rw[gu];exact h.ca,h1.ps,λk hk=>by
  rcases F8 hk with g|⟨y,hy,rfl⟩
  .exact h1.cs k g
  .obtain⟨a1,a2,a3⟩:=hf y hy;exact⟨by rw[a1];exact(h1.cs y hy).1,a2,a3⟩⟩
 cases e with
 | new m x=>
  refine⟨h1.lo,h1.le,by show(V.calls++[zO x]).length<=c+1;rw[dq];exact iy h.ca,h1.ps,λk hk=>?_⟩;rcases eF.mp hk with g|g
  .exact h1.cs k g
  .rw[dI.mp g];exact⟨eX _,eX _,eX _⟩
 | leg v=>
  refine⟨h1.lo,by show(V.nq++[v]).length<=n+1;rw[dq];exact iy h.le,by show(V.calls.modify v.i _).length<=c;rw[gu];exact h.ca,h1.ps,λk hk=>?_⟩;rcases F8 (l:=V.calls) hk with g|⟨y,hy,rfl⟩
  .exact h1.cs k g
  .exact⟨by show(y.way++[v.g]).length<=n+1;rw[dq];exact iy (h.cs y hy).1,(h.cs y hy).2⟩
 | asks i z ns=>exact h1
 | next z m=>exact⟨h1.lo,h1.le,h1.ca,eE (ND _ _ _) (iy h.ps),h1.cs⟩
 | merge i j ms=>
  have m1:=md i (·.over "merged") λk hk=>⟨Z',eX _,eX _⟩;refine⟨h1.lo,by show(V.nq.map _).length<=n+1;rw[de];exact h1.le,by show((V.calls.modify i _).modify j _).length<=c;rw[gu,gu];exact h.ca,h1.ps,λk hk=>?_⟩;rcases F8 (l:=V.calls.modify i (·.over "merged")) hk with g|⟨y,hy,rfl⟩
  .exact m1.cs k g
  .exact⟨(m1.cs y hy).1,(m1.cs y hy).2.1,ok.2.2.2⟩
 | turn=>
  refine⟨h1.lo,h1.le,by show(V.calls.map pM.tick).length<=c;rw[de];exact h.ca,h1.ps,λk hk=>?_⟩;obtain⟨y,hy,rfl⟩:=dJ.mp hk;have e:y.tick.way=y.way/\y.tick.at_=y.at_/\y.tick.ms=y.ms:=by unfold pM.tick;split<;>exact⟨Z',Z',Z'⟩
  rw[e.1,e.2.1,e.2.2];exact h1.cs y hy
 | sw b i=>exact⟨h1.lo,h1.le,h1.ca,h1.ps,h1.cs⟩
 | rings i ps=>exact md i _ λk hk=>⟨Z',ok.2,(h.cs k hk).2.2⟩
 | quiet i=>exact md i _ λk hk=>⟨Z',eX _,(h.cs k hk).2.2⟩
 | waits i x=>exact md i _ λk hk=>⟨Z',by show 1<=100;decide,(h.cs k hk).2.2⟩
 | talks i ms=>exact md i _ λk hk=>⟨Z',eX _,ok.2⟩
 | held i x=>exact md i _ λk hk=>⟨Z',(h.cs k hk).2.1,(h.cs k hk).2.2⟩
 | leaves i x=>exact md i _ λk hk=>⟨Z',eE (Jv _ _) (h.cs k hk).2.1,eE (Jv _ _) (h.cs k hk).2.2⟩
 | over i w=>exact md i _ λk hk=>⟨Z',eX _,eX _⟩
def Sb(V:qH)(e:Ev):(qy V e).p=V.p/\(qy V e).h=V.h/\(qy V e).on.length=V.on.length:=by cases e<;>first|exact⟨Z',Z',Z'⟩|exact⟨Z',Z',iB⟩
structure uQ(a:Ad)(M0 M:Mp)(b:Uf)(A:tP)(V:qH)(l:pR)(c n:Nat):Prop where
 bd:pX a M A V
 pl0:tW a M0 V.p l
 s0:qO M0 M
 fr:∀x∈A.foot,M0 x=Db
 b:A.b=b
 sz:Sz V c n
 ok:sj l
 on:V.on.length=l.mU.length
variable {M0:Mp}{b:Uf}{A':tP}{V':qH}{l:pR}{n:Nat}
section
variable {c:Nat}
def uQ.at_(h:uQ a M0 M b A V l c n):M b=Fa (.ins a.c (ui (.ref V.p) V.h V.t A.ca A.le A.nx A.on A.lo)):=h.b ▸ h.bd.at_
def uQ.sub(h:uQ a M0 M b A V l c n)(s:qO M M'):uQ a M0 M' b A V l c n:=⟨h.bd.sub s,h.pl0,h.s0.trans s,h.fr,h.b,h.sz,h.ok,h.on⟩
def uQ.pl(h:uQ a M0 M b A V l c n):tW a M V.p l:=h.pl0.sub h.s0
def uQ.mono(h:uQ a M0 M b A V l c n){c' n':Nat}(hc:c<=c')(hn:n<=n'):uQ a M0 M b A V l c' n':=⟨h.bd,h.pl0,h.s0,h.fr,h.b,h.sz.mono hc hn,h.ok,h.on⟩
def uQ.lim(h:uQ a M0 M b A V l c n)(hc:c<=1000000)(hn:n<9000000):Xn V:=⟨iP h.sz.lo (by lia),iP h.sz.le (by lia),eE h.sz.ca hc,iP h.sz.ps (by lia),λk hk=>⟨iP (h.sz.cs k hk).1 (by lia),(h.sz.cs k hk).2⟩⟩
def uQ.rd(h:uQ a M0 M b A V l c n)(hc:c<=1000000){o:Option Nat}(wf:Ae l V o):Rd a M A V l:=⟨h.bd,eE h.sz.ca hc,h.pl,h.ok,h.on,λk hk=>by
 obtain⟨i,hi,e⟩:=g9 hk;exact⟨(wf.ok i k (by rw[dg hi,e])).ms,(h.sz.cs k hk).2.2⟩⟩
def uQ.call(h:uQ a M0 M b A V l c n){i:Nat}{v:pM}(e:V.calls[i]?=Fa v):∃k,CI a M A V i k v:=by
 have hi:i<A.cs.length:=by rw[h.bd.len];exact(dv.mp e).1
 exact⟨A.cs[i],h.bd,dg hi,e⟩
def uQ.after(h:uQ a M0 M b A V l c n){e:Ev}(ok:e.ok V)(eb:A'.b=A.b)(st:rf A M A' M')(bd:pX a M' A' (qy V e)):uQ a M0 M' b A' (qy V e) l (c+e.nw) (n+1):=by
 obtain⟨p1,p2,p3⟩:=Sb V e;refine⟨bd,p1 ▸ h.pl0,λx d hx=>st.1 x d (λz=>?_) (h.s0 x d hx),λx hx=>?_,eb.trans h.b,h.sz.step ok,h.ok,p3.trans h.on⟩
 .rw[h.fr x z]at hx;cases hx
 .rcases st.2.1 x hx with z|z
  .exact h.fr x z
  .exact h.s0.none z
end
def Ho(l:pR)(V:qH)(c:Str):wA->Prop
 | .rings z ps=>z∈l.nm/\ps≠[]/\ps=yf l V c z
 | .breaks z=>∃x,x=c/\IU l V x c z=pc
 | .waits z=>z∈l.pn/\z≠c/\AM V z=lf
 | .ring ns=>ns≠[]
 | _=>True
def GM{V:qH}{c z:Str}:(∀x∈yf l V c z,x∈uG l V c z/\x∈l.mS z)/\(yf l V c z).length<=(l.mS z).length:=by
 have hr:∀x∈uG l V c z,x∈l.mS z:=λx hx=>(fM.mp hx).1;unfold yf;split
 .refine⟨λx hx=>?_,?_⟩
  .have hx:=(fM.mp (jm hx)).2;have hx:=qN.mp hx;exact⟨hx,hr x hx⟩
  .cases e:(vk (l.mS z) (zy V z)).filter λx=>hasS (uG l V c z) x with
   | nil=>exact eX _
   | cons y r=>
    have hy:y∈vk (l.mS z) (zy V z):=(fM.mp (by rw[e];exact dY)).1;have hy:y∈l.mS z:=by
     unfold vk at hy;rcases eF.mp hy with q|q
     .exact jn q
     .exact jm q
    rw[fQ];have:=List.length_pos_of_mem hy;lia
 .exact⟨λx hx=>⟨hx,hr x hx⟩,gL _ _⟩
def PZ{l:pR}{V:qH}{c z:Str}(hz:z∈l.nm):Ho l V c (HP l V c z):=by
 unfold HP;split
 .trivial
 .rename_i x r e;exact⟨hz,fF _ _,e.symm⟩
structure yk(l:pR)(V:qH)(c:Str)(n:Nat)(st:tX)(r:wA×tX):Prop where
 e:Ho l V c r.1
 len:r.2.length<=st.length+n
 nm:∀s∈r.2,s∈st\/s.1∈l.nm
 wy:∀ns,r.1=.ring ns->∀z∈ns,z∈l.nm
theorem zC{V:qH}{c:Str}(ok:sj l):∀(n:Nat) (z:Str) (way:QQQ) (st:tX),z∈l.nm->(∀x∈way,x∈l.nm)->yk l V c n st (xm l V c n z way st)
 | 0,z,way,st,_,_=>⟨trivial,dE _,λs hs=>.inl hs,λns h=>by cases h⟩
 | n+1,z,way,st,hz,hw=>by
  unfold xm;by_cases h:hasS way z=pc
  .rw[dw h];refine⟨?_,by show st.length<=_;lia,λs hs=>.inl hs,λns e y hy=>?_⟩
   .have h1:way.findIdx (·==z)<way.length:=List.findIdx_lt_length_of_exists ⟨z,qN.mp h,fE z⟩;show way.drop _≠[];intro g;have:=eZ List.length g;rw[gm]at this;simp only[dS]at this;lia
   .cases e;exact hw y (jn hy)
  rw[dh h];have sn:∀(fs:T0 Nat),∀s∈st++[(z,fs)],s∈st\/s.1∈l.nm:=λfs s hs=>by
   rcases eF.mp hs with g|g
   .exact .inl g
   .rw[dI.mp g];exact .inr hz
  have sl:∀fs:T0 Nat,(st++[(z,fs)]).length=st.length+1:=λfs=>by rw[dq];rfl
  cases hf:Ey l V c z with
  | nil=>refine⟨PZ hz,by show(st++[(z,[])]).length<=_;rw[sl];lia,sn [],λns e=>?_⟩;have e:HP l V c z=.ring ns:=e;unfold HP at e;split at e<;>cases e
  | cons i r=>
   obtain⟨w,ew,Yr⟩:=FN (l:=l) (V:=V) (f:=Bv l V c z) (i:=i) (by show i∈Ey l V c z;rw[hf];exact dY);dsimp only;rw[ew];dsimp only[Option.elim];have stop:∀e:wA,Ho l V c e->(∀ns,e≠.ring ns)->yk l V c (n+1) st (e,st++[(z,i::r)]):=λe he Yc=>⟨he,by show(st++[(z,i::r)]).length<=_;rw[sl];lia,sn _,λns g=>absurd g (Yc ns)⟩
   have Z8:∀y,Jc z w.2=.inr y->yk l V c (n+1) st (xm l V c n y (way++[z]) (st++[(z,i::r)])):=λy hy=>by
    have hr:=zC (V:=V) (c:=c) ok n y (way++[z]) (st++[(z,i::r)]) (Ck ok (rg ew) hy) λx hx=>by
     rcases eF.mp hx with g|g
     .exact hw x g
     .rw[dI.mp g];exact hz
    refine⟨hr.e,by have:=hr.len;rw[sl]at this;lia,λs hs=>?_,hr.wy⟩;rcases hr.nm s hs with g|g
    .exact sn _ s g
    .exact .inr g
   cases hv:w.2 with
   | bar x ns=>exact stop _ trivial λns g=>by cases g
   | shut x ns=>exact stop _ trivial λns g=>by cases g
   | wait x=>
    rw[hv]at Yr;have hf2:(if (!(z==x)||(c==x))=pc then lf else yb l V c z&&!(AM V z))=pc:=Yr;have hx:xZ l.pn x:=by have:=ok.wo w (rg ew);rw[hv]at this;exact this
    by_cases g:(!(z==x)||(c==x))=pc
    .rw[dw g]at hf2;cases hf2
    rw[dh g]at hf2;simp only[ib,gP,fV,jM,d9]at g hf2;have ezx:=wE g.1;subst ezx;exact stop _ ⟨qN.mp hx,λy=>g.2 (by rw[y];exact fE _),hf2.2⟩ λns g=>by cases g
   | breaks x=>
    rw[hv]at Yr;refine stop _ ⟨x,?_,?_⟩ λns g=>by cases g
    .have Yr:IU l V x c z=pc:=Yr;unfold IU at Yr;by_cases g:(!(c==x)||(z==x))=pc
     .rw[dw g]at Yr;cases Yr
     .simp only[ib,gP,fV,jM]at g;exact(wE g.1).symm
    .exact Yr
   | always x y=>exact Z8 y (by rw[hv];rfl)
   | night x y f m=>exact Z8 y (by rw[hv];rfl)
   | busy x y=>exact Z8 y (by rw[hv];rfl)
   | silent x y m=>exact Z8 y (by rw[hv];rfl)
def Hl{V:qH}{x c z:Str}(h:IU l V x c z=pc):∃j k,vY V z=Fa j/\V.calls[j]?=Fa k/\k.st="talks"/\z∈k.ms/\k.ms.length=2/\z≠c:=by
 unfold IU at h;by_cases g:(!(c==x)||(z==x))=pc
 .rw[dw g]at h;cases h
 rw[dh g]at h;simp only[ib,gP,fV,jM]at g;by_cases g2:(!(hasS l.pn z)||!(yb l V c z))=pc
 .rw[dw g2]at h;cases h
 rw[dh g2]at h;cases e:vY V z with
 | none=>rw[e]at h;cases h
 | some j=>obtain⟨hj,ht,_⟩:=iU.mp e;rw[e]at h;have h:((V.calls[j]?).elim lf λk=>(k.ms.length==2)&&IB l x k.ms)=pc:=h;rw[dg hj]at h;have h:((V.calls[j].ms.length==2)&&IB l x V.calls[j].ms)=pc:=h;unfold pM.nj at ht;rw[d9]at h ht;refine⟨j,V.calls[j],Z',dg hj,wE ht.1,qN.mp ht.2,wE h.1,λy=>?_⟩;rw[y]at g;have:=wE g.1;rw[this,fE]at g;exact absurd Z' g.2
noncomputable def pM.bare(c:pM):pM:={c with way:=[]}
def ug(V V':qH):Prop:=V'.calls.map pM.bare=V.calls.map pM.bare
def ug.at_{V V':qH}(h:ug V V'){i:Nat}{c:pM}(e:V.calls[i]?=Fa c):∃c',V'.calls[i]?=Fa c'/\c'.bare=c.bare:=by
 have:=eZ (·[i]?) h;simp only[dM,e]at this;cases e':V'.calls[i]? with
 | none=>rw[e']at this;cases this
 | some c'=>rw[e']at this;exact⟨c',Z',dD this⟩
def zI(f:pM->Bool)(hf:∀c,f c.bare=f c)(cs:List pM):(cs.map pM.bare).findIdx? f=cs.findIdx? f:=by rw[ik];congr 1;funext c;exact hf c
def ug.nQ{V V':qH}(h:ug V V')(z:Str):vY V' z=vY V z:=by unfold vY;rw[<-zI _ (λ_=>rfl) V'.calls,h,zI _ (λ_=>rfl)]
def ug.ends{V V':qH}(h:ug V V')(i:Nat)(e:wA):tY l V' i e=tY l V i e:=by
 cases e with
 | breaks z=>
  unfold tY;dsimp only;rw[h.nQ];have key:∀j:Nat,(V'.calls[j]?).map pM.bare=(V.calls[j]?).map pM.bare:=λj=>by
   have:=eZ (·[j]?) h
   simpa only [dM]using this
  have ki:=key i;cases vY V z with
  | none=>rfl
  | some j=>
   have kj:=key j;cases e1:V.calls[i]? with
   | none=>rw[e1]at ki;rw[show V'.calls[i]?=Db by cases q:V'.calls[i]? with|none=>rfl|some _=>rw[q]at ki;cases ki]
   | some c=>
    rw[e1]at ki;cases e2:V'.calls[i]? with
    | none=>rw[e2]at ki;cases ki
    | some c'=>
     rw[e2]at ki;have k1:c'.cr=c.cr:=by have kb:c'.bare=c.bare:=dD ki;exact show c'.bare.cr=c.bare.cr by rw[kb]
     have k2:(V'.calls[j]?).elim [] pM.ms=(V.calls[j]?).elim [] pM.ms:=by
      cases e3:V.calls[j]? with
      | none=>rw[e3]at kj;rw[show V'.calls[j]?=Db by cases q:V'.calls[j]? with|none=>rfl|some _=>rw[q]at kj;cases kj]
      | some d=>
       rw[e3]at kj;cases e4:V'.calls[j]? with
       | none=>rw[e4]at kj;cases kj
       | some d'=>rw[e4]at kj;exact show d'.bare.ms=d.bare.ms by rw[show d'.bare=d.bare from dD kj]
     dsimp only;rw[k1,k2]
 | _=>rfl
def ug.trans{V V1 V2:qH}(h:ug V V1)(g:ug V1 V2):ug V V2:=Eq.trans g h
def zu(V:qH)(v:sA):ug V (qy V (.leg v)):=by
 show(V.calls.modify v.i (·.go v.g)).map pM.bare=V.calls.map pM.bare;cases e:V.calls[v.i]? with
 | none=>rw[lh (by simpa using e)]
 | some c=>rw[ue e,mI,show(c.go v.g).bare=c.bare from rfl,GH (by rw[dM,e];rfl)]
def DX(V:qH)(i:Nat)(z:Str)(ns:T0 Nat):ug V (qy V (.asks i z ns)):=rfl
def ug.len{V V':qH}(h:ug V V'):V'.calls.length=V.calls.length:=by
 have:=eZ List.length h
 rwa [de,de]at this
noncomputable def Hj:Option Str->tX->Option Str
 | o,[]=>o
 | _,(z,_)::r=>Hj (Fa z) r
noncomputable def VA(i:Nat)(z:Str)(fs:T0 Nat):Option Str->T0 Ev
 | none=>[.asks i z fs]
 | some y=>[.leg ⟨i,y,z,y⟩,.asks i z fs]
theorem yN(i:Nat)(z:Str)(fs:T0 Nat):∀(st:tX) (o:Option Str),rS i o (st++[(z,fs)])=rS i o st++VA i z fs (Hj o st)
 | [],none=>rfl
 | [],Fa _=>rfl
 | (y,gs)::r,none=>by show .asks i y gs::rS i (Fa y) (r++[(z,fs)])=_;rw[yN i z fs r];rfl
 | (y,gs)::r,Fa u=>by show .leg ⟨i,u,y,u⟩::.asks i y gs::rS i (Fa y) (r++[(z,fs)])=_;rw[yN i z fs r];rfl
theorem C6(z:Str)(fs:T0 Nat):∀(st:tX) (o:Option Str),Hj o (st++[(z,fs)])=Fa z
 | [],_=>rfl
 | _::r,_=>C6 z fs r _
theorem vM(i:Nat):∀(st:tX) (o:Option Str) (V:qH),ug V (qS V (rS i o st))
 | [],_,V=>rfl
 | (y,gs)::r,Db,V=>(DX V i y gs).trans (vM i r (Fa y) _)
 | (y,gs)::r,Fa u,V=>((zu V ⟨i,u,y,u⟩).trans (DX _ i y gs)).trans (vM i r (Fa y) _)
def Rb(a:Ad):rB:=λds M Q=>K' λM0 b A V l c n i st r=>ds=[.ref b,.int ((i:Nat):Int),.ref r]/\uQ a M0 M b A V l c n/\c<=1000000/\n<=8000000/\st.length<=100/\i<V.calls.length/\oN M r=Fa (rH st)/\r∉A.foot/\∀M' A',uQ a M0 M' b A' (qS V (rS i Db st)) l c (n+2*st.length)->rf A M A' M'->Q .mY M'
def Nq(a:Ad):rB:=λds M Q=>K' λM0 b A V l c n i z ps=>ds=[.ref b,.int ((i:Nat):Int),.str z,names ps]/\uQ a M0 M b A V l c n/\c<=1000000/\n<=8000000/\i<V.calls.length/\z∈l.nm/\ps≠[]/\(∀x∈ps,x∈l.mS z)/\ps.length<=100/\∀M' A',uQ a M0 M' b A' (qS V (tY l V i (.rings z ps))) l c (n+2)->rf A M A' M'->Q .mY M'
def GO(l:pR)(V:qH)(i:Nat):wA->Prop
 | .rings z ps=>z∈l.nm/\ps≠[]/\(∀x∈ps,x∈l.mS z)/\ps.length<=100
 | .breaks z=>∃j k,vY V z=Fa j/\V.calls[j]?=Fa k/\i≠j/\k.ms.length=2
 | _=>True
def Mt(a:Ad):rB:=λds M Q=>VN λM0 b A V l c n i z=>ds=[.ref b,.int ((i:Nat):Int),.str z]/\uQ a M0 M b A V l c n/\c<=1000000/\n<=8000000/\i<V.calls.length/\GO l V i (.breaks z)/\∀M' A',uQ a M0 M' b A' (qS V (tY l V i (.breaks z))) l c (n+2)->rf A M A' M'->Q .mY M'
def J8(a:Ad):rB:=λds M Q=>VN λM0 b A V l c n i e=>ds=[.ref b,.int ((i:Nat):Int),wA.d e]/\uQ a M0 M b A V l c n/\c<=1000000/\n<=8000000/\i<V.calls.length/\GO l V i e/\∀M' A',uQ a M0 M' b A' (qS V (tY l V i e)) l c (n+2)->rf A M A' M'->Q .mY M'
def Po(a:Ad):rB:=λds M Q=>VN λM0 b A V l c n i k=>ds=[.ref b,.int ((i:Nat):Int)]/\uQ a M0 M b A V l c n/\c<=1000000/\n<=7000000/\Ae l V (Fa i)/\V.calls[i]?=Fa k/\∀M' A',uQ a M0 M' b A' (qS V (xG l V i)) l c (n+30)->rf A M A' M'->Q .mY M'
def Oj(a:Ad):rB:=λds M Q=>VN λM0 b A V l c n y z=>ds=[.ref b,.str y,.str z]/\uQ a M0 M b A V l c n/\c<1000000/\n<=6000000/\Ae l (qS V [.new V.calls.length y,.leg ⟨V.calls.length,y,z,y⟩]) (Fa V.calls.length)/\∀M' A',uQ a M0 M' b A' (qS V (FF l V y z)) l (c+1) (n+32)->rf A M A' M'->Q .mY M'
def Ol{st:tX}{pre post:T0 D}{d:D}(e:pre++d::post=rH st):∃z fs,st[pre.length]?=Fa (z,fs)/\d=.tup [.str z,wU fs]/\st.take (pre.length+1)=st.take pre.length++[(z,fs)]:=by
 have h:(rH st)[pre.length]?=Fa d:=by rw[<-e];simp
 unfold rH at h;rw[dM]at h;cases q:st[pre.length]? with
 | none=>rw[q]at h;cases h
 | some s=>rw[q]at h;refine⟨s.1,s.2,Z',(dD h).symm,?_⟩;rw[ii,q];rfl
noncomputable def WM:Option Str->D
 | none=>.mY
 | some x=>.str x
def O2{ss:QQQ}{x:Str}(h:ss.getLast?=Fa x):wO (ss.map D.str) (-1)=Fa (.str x):=by
 have hp:0<ss.length:=by cases ss with|nil=>cases h|cons _ _=>exact mJ _
 unfold wO;have e:GT (ss.map D.str).length (-1)=Fa (ss.length - 1):=by
  rw[de];unfold GT;have:¬((-1:Int)>=0):=by decide
  simp;lia
 rw[e];show(ss.map D.str)[ss.length - 1]?=_;rw[dM,<-jR,h];rfl
def Mf(ds:T0 D):L3.uu ds Db (Fa (-1:Int))=ds.dropLast:=by
 unfold L3.uu;have e:HT.tQ ds.length ds.length (Fa (-1:Int))=ds.length - 1:=by show(if (-1:Int)<0 then((-1:Int)+(ds.length:Int)).toNat else min (-1:Int).toNat ds.length)=ds.length - 1;rw[dw (by decide)];lia
 rw[e,HT.Dc,jx,lB,List.dropLast_eq_take]
def OD:Fq P w K mg base 4 a.a5 (Rb a):=by
 refine fq G.a5.toDG uq (λr u=>⟨_,(pF (pU 3 uq rb)
 (pG (uP ft Z' (qL U2) (ve (n:=2) Z' (qF (rC 4 uq) (qF (rC 5 uq) ub)))
 (pF (pV (pN u U3 rb)
 (pG (pY (qh v0 G.c.toCls G.k (rq G) r (qz (pW (qg pJ (qg U1 (rc U3 v4 U3))))))))
 pO)
 (pF (pY (qh v0 G.c.toCls G.k (rq G) r (qz (pW (qg pJ (rc U1 v4 v5))))))
 (pG (pU 3 uq v4))))))),?_⟩)
 rintro ds M Q ⟨M0,b,A,V,l,c,n,i,st,r,rfl,cu,hc,hn,Ye,hi,lr,nf,q⟩
 refine i' lr (vN (rH st) (λpre U M'=>(∃A',uQ a M0 M' b A' (qS V (rS i Db (st.take pre.length))) l c (n+2*pre.length)/\rf A M A' M')/\∃y4 y5,U=[Fa (.ref b),Fa (.int ((i:Nat):Int)),Fa (.ref r),Fa (WM (Hj Db (st.take pre.length))),y4,y5]) (λpre U M' j=>?_) _ [] _ _ Z' ⟨⟨A,cu,.refl⟩,Db,Db,Z'⟩ ?_ ?_)
 .obtain⟨⟨A',c1,Yv⟩,_⟩:=j;exact tD (Yv.1 r _ nf (qE lr))
 .rintro pre d post e U M' ⟨⟨A',c1,Yv⟩,y4,y5,rfl⟩ nx X0
  obtain⟨z,fs,es,rfl,et⟩:=Ol e;have hp:pre.length<100:=dU (dv.mp es).1 Ye;rw[dq,dX,et,yN,C6]at X0;have len:∀es,ug V (qS V es)->i<(qS V es).calls.length:=λes h=>by rw[h.len];exact hi
  have Zs:=len _ (vM i (st.take pre.length) Db V);generalize hV:qS V (rS i Db (st.take pre.length))=V1 at c1 Zs;rw[rW,hV]at X0;refine⟨Z',?_⟩;dsimp only[tU,Ax,GW];have asks:∀(M2:Mp) (A2:tP) (V2:qH) (m:Nat) (y3:Option D),m<9000000->uQ a M0 M2 b A2 V2 l c m->rf A M A2 M2->(∀M3 A3,uQ a M0 M3 b A3 (qy V2 (.asks i z fs)) l c (m+1)->rf A M A3 M3->nx [Fa (.ref b),Fa (.int ((i:Nat):Int)),Fa (.ref r),Fa (.str z),Fa (.str z),Fa (wU fs)] M3)->AA (M2 b) λC fs'=>fs'.lookup ("apply":Str)=Db/\∃sp,(C=a.c/\sp=wx a)/\4<=Ch/\sp [.ref b,.tup [.str "asks",.int ((i:Nat):Int),.str z,wU fs]] M2 λ_ M3=>nx [Fa (.ref b),Fa (.int ((i:Nat):Int)),Fa (.ref r),Fa (.str z),Fa (.str z),Fa (wU fs)] M3:=λM2 A2 V2 m y3 hm c2 s2 k=>pH c2.at_ ⟨Z',_,⟨Z',Z'⟩,by rw[dR];decide,b,A2,V2,.asks i z fs,Z',c2.b,c2.bd,c2.lim hc hm,trivial,λM3 A3 eb s3 bd=>k M3 A3 (c2.after trivial eb s3 bd) (s2.trans s3)⟩;cases hl:Hj Db (st.take pre.length)with
  | none=>rw[hl]at X0;refine asks M' A' V1 _ Db (by lia) c1 Yv λM3 A3 c3 s3=>X0 _ _ ⟨⟨A3,c3.mono (dE _) (by lia),s3⟩,_,_,Z'⟩
  | some y=>rw[hl]at X0;refine pH c1.at_ ⟨Z',_,⟨Z',Z'⟩,pD Z',b,A',V1,.leg ⟨i,y,z,y⟩,Z',c1.b,c1.bd,c1.lim hc (by lia),Zs,λM2 A2 eb s2 bd=>?_⟩;have c2:=c1.after (e:=.leg ⟨i,y,z,y⟩) Zs eb s2 bd;refine asks M2 A2 _ _ Db (by lia) c2 (Yv.trans s2) λM3 A3 c3 s3=>X0 _ _ ⟨⟨A3,c3.mono (dE _) (by lia),s3⟩,_,_,Z'⟩
 .rintro U M' ⟨⟨A',c1,Yv⟩,_⟩
  have hl:(rH st).length=st.length:=by unfold rH;rw[de]
  rw[hl,fA]at c1;exact⟨M',.refl,q M' A' c1 Yv⟩
def NE:Fq P w K mg base 4 a.a6 (Nq a):=by
 refine fq G.a6.toDG uW (λr u=>⟨_,(pF (pV (pN u (qh (pK v0) G.h.toCls G.aP (yg G) r (qz U2)) pJ)
 (pF (pU 4 uW (qh (pK v0) G.h.toCls G.Z (uI G) r (qz U2)))
 (pF (pU 5 uW (qe (qe (yc v4 (qz (pS U3 pI))) pI) (qa qD Z' G.g qB (qz v4))))
 (pG (pY (qh v0 G.c.toCls G.k (rq G) r (qz (pW (rc pJ U2 v5))))))))
 pO)
 (pG (pY (qh v0 G.c.toCls G.k (rq G) r (qz (pW (rc pJ U1 U3))))))),?_⟩)
 rintro ds M Q ⟨M0,b,A,V,l,c,n,i,z,ps,rfl,cu,hc,hn,hi,hz,Yc,hm,hps,q⟩
 obtain⟨ph,gr,ws,Zg,pr,gd,rs,i1,_⟩:=cu.pl;have pl:=cu.pl;obtain⟨x,ps',rfl⟩:=gk Yc;obtain⟨⟨pne,_⟩,_⟩:=cu.ok.of hz;refine P7 (t:=TC _ _ _) (λU M'=>(∃A',uQ a M0 M' b A' (qS V (if (l.m9 z=="turns")=pc then[.next z (Rz (l.mS z) x)]else[])) l c (n+1)/\rf A M A' M')/\∃y1 y2,U=[Fa (.ref b),Fa (.int ((i:Nat):Int)),Fa (.str z),Fa (names (x::ps')),y1,y2]) (λnx h=>?_) ?_
 .refine pH cu.at_ (i' Z' (pH i1 ⟨Z',_,⟨Z',Z'⟩,V.p,z,l,Z',pl,?_⟩));refine qv (c:=l.m9 z=="turns") (λg=>?_) (λg=>?_)
  .rw[dw g]at h;refine pH cu.at_ (i' Z' (pH i1 ⟨Z',_,⟨Z',Z'⟩,V.p,z,l,Z',pl,λp hp=>?_⟩));have t:=qO.new (c:=.lst ((l.mS z).map D.str)) hp;have lp:=@pT M p ((l.mS z).map D.str);have cu':=cu.sub t;have st0:rf A M A (pQ M p (.lst ((l.mS z).map D.str))):=.sub t;generalize pQ M p (.lst ((l.mS z).map D.str))=M1 at t lp cu' st0 ⊢;have ej:=Fd x (l.mS z) (hm x dY);have lpos:0<(l.mS z).length:=fG.mpr pne;have el:(((l.mS z).map D.str).length:Int)=(l.mS z).length:=by rw[de]
   refine⟨by show(oN M1 p).isSome=pc;rw[lp];rfl,i' (vX _ _) (i' lp ⟨Z',qm _,i' ej (i' lp ⟨by rw[el];lia,?_⟩)⟩)⟩;rw[el];refine pH cu'.at_ ⟨Z',_,⟨Z',Z'⟩,pD Z',b,A,V,.next z (Rz (l.mS z) x),Z',cu'.b,cu'.bd,cu'.lim hc (by lia),trivial,λM2 A2 eb st Zm=>?_⟩;exact h _ _ ⟨⟨A2,cu'.after (e:=.next z (Rz (l.mS z) x)) trivial eb st Zm,st0.trans st⟩,_,_,Z'⟩
  .rw[dh g]at h;exact h _ _ ⟨⟨A,cu.mono (dE _) (by lia),.refl⟩,_,_,Z'⟩
 rintro U M1 ⟨⟨A1,c1,Yv⟩,y1,y2,rfl⟩
 have q:∀M' A',uQ a M0 M' b A' (qS V ((if (l.m9 z=="turns")=pc then[.next z (Rz (l.mS z) x)]else[])++[.rings i (x::ps')])) l c (n+2)->rf A M A' M'->Q .mY M':=q;rw[rW]at q;have Zs:i<(qS V (if (l.m9 z=="turns")=pc then[.next z (Rz (l.mS z) x)]else[])).calls.length:=by
  split
  .exact hi
  .exact hi
 generalize qS V (if (l.m9 z=="turns")=pc then[.next z (Rz (l.mS z) x)]else[])=V1 at c1 q Zs;refine pH c1.at_ ⟨Z',_,⟨Z',Z'⟩,pD Z',b,A1,V1,.rings i (x::ps'),Z',c1.b,c1.bd,c1.lim hc (by lia),⟨Zs,hps⟩,λM2 A2 eb Yh Zm=>?_⟩;exact⟨M2,.refl,q M2 A2 (c1.after (e:=.rings i (x::ps')) ⟨Zs,hps⟩ eb Yh Zm) (Yv.trans Yh)⟩
def Om:Fq P w K mg base 4 a.a7 (Mt a):=by
 refine fq G.a7.toDG xW (λr u=>⟨_,(pF (pU 3 xW (qh v0 G.c.toCls G.U (yZ G) r (qz U2)))
 (pF (pU 4 xW (qe (qp sO Z' G.A sI (qz (pK (pS (pK v0) U3)))) (pW (qz (pK (pS (pK v0) U1))))))
 (pG (pY (qh v0 G.c.toCls G.k (rq G) r (qz (pW (qg pJ (rc U1 U3 v4))))))))),?_⟩)
 rintro ds M Q ⟨M0,b,A,V,l,c,n,i,z,rfl,cu,hc,hn,hi,⟨j,k,ej,ek,YM,ZS⟩,q⟩
 have hz:=dR;have ei:V.calls[i]?=Fa V.calls[i]:=dg hi;generalize V.calls[i]=ci at ei;obtain⟨ka,qi⟩:=cu.call ei;obtain⟨kb,qj⟩:=cu.call ek;obtain⟨ad,md,h1,h2,h3,h4,_⟩:=qi.cell;obtain⟨ad',md',g1,g2,g3,g4,_⟩:=qj.cell;have hee:tY l V i (.breaks z)=[.merge i j (k.ms++[ci.cr])]:=by unfold tY;dsimp only;rw[ej,ei];dsimp only;rw[ek];rfl
 rw[hee]at q;have ok:(Ev.merge i j (k.ms++[ci.cr])).ok V:=⟨hi,(dv.mp ek).1,YM,by rw[dq,ZS];show 3<=100;decide⟩;refine pH cu.at_ ⟨Z',_,⟨Z',Z'⟩,A,V,z,by rw[cu.b],cu.bd,eE cu.sz.ca hc,?_⟩;rw[show AX V z=.int (j:Nat)from by unfold AX;rw[ej];rfl];refine pH cu.at_ (i' Z' (i' Z' (i' cu.bd.ca (i' (qX qj.e1) (pH g1 (i' Z' (i' g4 ?_)))))));refine pH cu.at_ (i' Z' (i' Z' (i' cu.bd.ca (i' (qX qi.e1) (pH h1 (i' Z' ⟨pD Z',?_⟩))))));refine⟨(by intro y;rw[List.map_eq_nil_iff]at y;rw[y]at ZS;cases ZS),(by rw[de,ZS];show 2+1<=Ch;lia),?_⟩;rw[show k.ms.map D.str++[D.str ci.cr]=(k.ms++[ci.cr]).map D.str by rw[dZ];rfl];refine pH cu.at_ ⟨Z',_,⟨Z',Z'⟩,pD Z',b,A,V,.merge i j (k.ms++[ci.cr]),Z',cu.b,cu.bd,cu.lim hc (by lia),ok,λM2 A2 eb Yh Zm=>?_⟩;exact⟨M2,.refl,q M2 A2 ((cu.after ok eb Yh Zm).mono (dE _) (by lia)) Yh⟩
def QG:Fq P w K mg base 5 a.a8 (J8 a):=by
 refine fq G.a8.toDG xV (λr u=>⟨_,(pF (pU 3 xV (pS U2 pI))
 (pG (pV (pN u U3 pJ)
 (pG (pY (pP (NE G) r G.a6 (qg v0 (rc U1 (pS U2 pI) (pS U2 pI))))))
 (pG (pV (pN u U3 pJ)
 (pG (pY (qh v0 G.c.toCls G.k (rq G) r (qz (pW (rc pJ U1 (pS U2 pI)))))))
 (pG (pV (pN u U3 pJ)
 (pG (pY (pP (Om G) r G.a7 (rc v0 U1 (pS U2 pI)))))
 (pG (pY (qh v0 G.c.toCls G.k (rq G) r (qz (pW (rc pJ U1 U3))))))))))))),?_⟩)
 rintro ds M Q ⟨M0,b,A,V,l,c,n,i,e,rfl,cu,hc,hn,hi,he,q⟩
 have one:∀(ev:Ev) (ok:ev.ok V),ev.nw=0->tY l V i e=[ev]->∀M2 A2,A2.b=A.b->rf A M A2 M2->pX a M2 A2 (qy V ev)->∃XU,qO XU M2/\Q .mY XU:=λev ok h0 h1 M2 A2 eb Yh Zm=>by rw[h1]at q;have c2:=cu.after ok eb Yh Zm;rw[h0]at c2;exact⟨M2,.refl,q M2 A2 (c2.mono (dE _) (by lia)) Yh⟩
 cases e with
 | rings z ps=>exact⟨M0,b,A,V,l,c,n,i,z,ps,Z',cu,hc,hn,hi,he.1,he.2.1,he.2.2.1,he.2.2.2,λM' A' c1 st=>⟨M',.refl,q M' A' c1 st⟩⟩
 | waits z=>exact pH cu.at_ ⟨Z',_,⟨Z',Z'⟩,pD Z',b,A,V,.waits i z,Z',cu.b,cu.bd,cu.lim hc (by lia),hi,one (.waits i z) hi Z' Z'⟩
 | breaks z=>exact⟨M0,b,A,V,l,c,n,i,z,Z',cu,hc,hn,hi,he,λM' A' c1 st=>⟨M',.refl,q M' A' c1 st⟩⟩
 | engaged z=>exact pH cu.at_ ⟨Z',_,⟨Z',Z'⟩,pD Z',b,A,V,.over i "engaged",Z',cu.b,cu.bd,cu.lim hc (by lia),hi,one (.over i "engaged") hi Z' Z'⟩
 | barred=>exact pH cu.at_ ⟨Z',_,⟨Z',Z'⟩,pD Z',b,A,V,.over i "barred",Z',cu.b,cu.bd,cu.lim hc (by lia),hi,one (.over i "barred") hi Z' Z'⟩
 | ring ns=>exact pH cu.at_ ⟨Z',_,⟨Z',Z'⟩,pD Z',b,A,V,.over i "ring",Z',cu.b,cu.bd,cu.lim hc (by lia),hi,one (.over i "ring") hi Z' Z'⟩
def Nn{V:qH}{i:Nat}{k:pM}{e:wA}(ok:sj l)(wf:Ae l V (Fa i))(hk:V.calls[i]?=Fa k)(h:Ho l V k.cr e):GO l V i e:=by
 cases e with
 | rings z ps=>obtain⟨hz,Yc,rfl⟩:=h;have h1:=(GM (l:=l) (V:=V) (c:=k.cr) (z:=z));have h2:=(ok.of hz).1.2.1;exact⟨hz,Yc,λx hx=>(h1.1 x hx).2,by have:=h1.2;lia⟩
 | breaks z=>
  obtain⟨x,rfl,hb⟩:=h;obtain⟨j,d,e1,e2,e3,e4,e5,_⟩:=Hl hb;refine⟨j,d,e1,e2,λy=>?_,e5⟩;subst y;rw[hk]at e2;cases e2;have sh:=(wf.ok i k hk).sh;rw[show(Fa i==Fa i)=pc from fE _]at sh;rcases sh with g|g
  .rw[g.1]at e3;exact absurd e3 (by decide)
  .cases g.1
 | _=>trivial
def J2:Fq P w K mg base 9 a.ae (Po a):=by
 refine fq G.ae.toDG wH (λr u=>⟨_,(pF (pU 2 wH (pS (pK v0) U1))
 (pF (pU 3 wH (pP (NR G) r G.a0 (qg v0 (rc (pK U2) (pS (pK U2) (FD pI)) (sy (pK U2) tL (sT (FD pI)))))))
 (pF (pU 4 wH (pS U3 pI))
 (pF (pU 5 wH (pS U3 pI))
 (pF (pY (pP (OD G) r G.a5 (rc v0 U1 v5)))
 (pF (pV (W3.b3 (tq (pN u (pS v4 pI) pJ) (sL (pN u (qa qD Z' G.g qB (qz v5)) pI))))
 (pF (pU 6 wH (pS (pS v5 (FD pI)) pI))
 (pG (pY (qh v0 G.c.toCls G.k (rq G) r (qz (pW (qg pJ (qg U1 (rc v6 (pS (pS v4 pI) pI) v6)))))))))
 pO)
 (pG (pY (pP (QG G) r G.a8 (rc v0 U1 v4)))))))))),?_⟩)
 rintro ds M Q ⟨M0,b,A,V,l,c,n,i,k,rfl,cu,hc,hn,wf,hk,q⟩
 obtain⟨ka,ci⟩:=cu.call hk;obtain⟨ad,md,h1,h2,h3,h4,n1,n2⟩:=ci.cell;have YT:=wf.ok i k hk;have hi:=(dv.mp hk).1;obtain⟨z,hz⟩:∃z,k.way.getLast?=Fa z:=by
  cases e:k.way.getLast? with
  | none=>exact absurd (gS.mp e) YT.wy.1
  | some z=>exact⟨z,Z'⟩
 have YS:z∈l.nm:=YT.wy.2 z (jo hz);have hdn:∀x∈k.way.dropLast,x∈l.nm:=λx hx=>YT.wy.2 x (jp _ hx);have hwl:=(cu.sz.cs k (rg hk)).1;have hev:xG l V i=rS i Db (vh l V k.cr z k.way.dropLast).2++(ux i (vh l V k.cr z k.way.dropLast).2 (vh l V k.cr z k.way.dropLast).1++tY l V i (vh l V k.cr z k.way.dropLast).1):=by
  unfold xG;rw[hk];have:k.way.getLastD Str.empty=z:=by rw[iE,hz];rfl
  dsimp only[Option.elim];rw[this]
 rw[hev]at q;have ro:yk l V k.cr (l.nm.length+1) [] (vh l V k.cr z k.way.dropLast):=zC cu.ok _ _ _ _ YS hdn;have rl:=ro.len;have eo:=Nn cu.ok wf hk ro.e;have nl:l.nm.length<=11:=by have p8:=cu.ok.p8;have g3:=cu.ok.g3;unfold pR.nm pR.pn pR.gn;rw[dq,de,de];lia
 have re:=ro.e;refine P7 (t:=CU _ _) (λU M'=>M=M'/\U=[Fa (.ref b),Fa (.int ((i:Nat):Int)),Fa (.ref ka.p),Db,Db,Db,Db]) (λnx0 h=>pH cu.at_ (i' Z' (i' Z' (i' ci.bd.ca (i' (qX ci.e1) (h _ _ ⟨Z',Z'⟩)))))) ?_
 rintro U _ ⟨rfl,rfl⟩
 refine P7 (t:=CU _ _) (λU M'=>qO M M'/\∃r,M r=Db/\oN M' r=Fa (rH (vh l V k.cr z k.way.dropLast).2)/\U=[Fa (.ref b),Fa (.int ((i:Nat):Int)),Fa (.ref ka.p),Fa (.tup [(vh l V k.cr z k.way.dropLast).1.d,.ref r]),Db,Db,Db]) (λnx0 h=>?_) ?_
 .refine pH h1 (i' Z' (pH h1 (i' Z' (i' h2 (i' (O2 hz) (pH h1 (i' Z' (i' h2 λp hp=>?_))))))));rw[show L3.uu (k.way.map D.str) Db (Fa (-1:Int))=k.way.dropLast.map D.str from(Mf _).trans (List.map_dropLast).symm];have t:=qO.new (c:=.lst (k.way.dropLast.map D.str)) hp;have lp:=@pT M p (k.way.dropLast.map D.str);refine⟨A,V,l,k.cr,z,p,k.way.dropLast,by rw[cu.b],(cu.rd hc wf).sub t,YS,wf.nx,lp,by rw[List.length_dropLast];lia,λr M' s hr lr=>?_⟩;exact h _ _ ⟨t.trans s,r,t.none hr,lr,Z'⟩
 rintro U M1 ⟨s1,r,hr,lr,rfl⟩
 generalize vh l V k.cr z k.way.dropLast=R at lr ro rl eo re q;obtain⟨e,st⟩:=R;have cu1:=cu.sub s1;have rl:st.length<=0+(l.nm.length+1):=rl;refine⟨M0,b,A,V,l,c,n,i,st,r,Z',cu1,hc,by lia,by lia,hi,lr,cu.bd.oa hr,λM2 A2 c2 Yh=>?_⟩;have same:=vM i st Db V;have YI:i<(qS V (rS i Db st)).calls.length:=by rw[same.len];exact hi
 have lr2:oN M2 r=Fa (rH st):=tD (Yh.1 r _ (cu.bd.oa hr) (qE lr));rw[rW,rW]at q;have hee:=λV' (h:ug V V')=>h.ends (l:=l) i e;have hat:∀V',ug V V'->GO l V' i e:=λV' h=>by
  cases e with
  | breaks z'=>obtain⟨j,d,a1,a2,a3,a4⟩:=eo;obtain⟨d',b1,b2⟩:=h.at_ a2;exact⟨j,d',by rw[h.nQ];exact a1,b1,a3,by rw[show d'.ms=d.ms from show d'.bare.ms=d.bare.ms by rw[b2]];exact a4⟩
  | rings _ _=>exact eo
  | _=>trivial
 generalize qS V (rS i Db st)=V2 at c2 YI same q;have YU:∀(M3:Mp) (A3:tP) (V3:qH),uQ a M0 M3 b A3 V3 l c (n+2*st.length+1)->rf A M A3 M3->ug V V3->i<V3.calls.length->V3=qS V2 (ux i st e)->J8 a [.ref b,.int ((i:Nat):Int),e.d] M3 λ_ M'=>∃XU,qO XU M'/\Q .mY XU:=λM3 A3 V3 c3 s3 YV hi3 e3=>⟨M0,b,A3,V3,l,c,_,i,e,Z',c3,hc,by lia,hi3,hat V3 YV,λM4 A4 c4 s4=>⟨M4,.refl,q M4 A4 (by
  rw[<-e3];rw[hee V3 YV]at c4;exact c4.mono (dE _) (by lia)) (s3.trans s4)⟩⟩
 have c2':=c2.mono (dE c) (show n+2*st.length<=n+2*st.length+1 by lia);have Zb:=(rf.sub s1 (A:=A)).trans Yh;cases e with
 | ring ns=>
  obtain⟨x,ns',rfl⟩:=gk (show ns≠[]from re);refine i' lr2 ?_;cases hl:st.getLast? with
  | none=>have:st=[]:=gS.mp hl;subst this;exact YU M2 A2 V2 c2' Zb same YI Z'
  | some s0=>
   have Y7:0<st.length:=by cases st with|nil=>cases hl|cons _ _=>exact mJ _
   have hd:decide ((0:Int)<((rH st).length:Int))=pc:=eA (by unfold rH;rw[de];lia);refine A9 (c:=decide ((0:Int)<((rH st).length:Int))) hd ?_;have hat1:wO (rH st) (-1)=Fa (.tup [.str s0.1,wU s0.2]):=by
    unfold wO;have e1:GT (rH st).length (-1)=Fa (st.length - 1):=by unfold rH;rw[de];unfold GT;simp;lia
    rw[e1];show(rH st)[st.length - 1]?=_;unfold rH;rw[dM,<-jR,hl];rfl
   have hrv:ux i st (.ring (x::ns'))=[.leg ⟨i,s0.1,x,s0.1⟩]:=by unfold ux;dsimp only;rw[hl];rfl
   rw[hrv]at YU;refine i' lr2 (i' hat1 ?_);refine pH c2.at_ ⟨Z',_,⟨Z',Z'⟩,i' (vX _ _) ⟨pD Z',b,A2,V2,.leg ⟨i,s0.1,x,s0.1⟩,Z',c2.b,c2.bd,c2.lim hc (by lia),YI,λM3 A3 eb YJ bd3=>?_⟩⟩;have YV:=same.trans (zu V2 ⟨i,s0.1,x,s0.1⟩);exact YU M3 A3 _ (c2.after (e:=.leg ⟨i,s0.1,x,s0.1⟩) YI eb YJ bd3) (Zb.trans YJ) YV (by rw[YV.len];exact hi) Z'
 | rings z' ps=>exact YU M2 A2 V2 c2' Zb same YI Z'
 | waits z'=>exact YU M2 A2 V2 c2' Zb same YI Z'
 | breaks z'=>exact YU M2 A2 V2 c2' Zb same YI Z'
 | engaged z'=>exact YU M2 A2 V2 c2' Zb same YI Z'
 | barred=>exact YU M2 A2 V2 c2' Zb same YI Z'
def Mj:Fq P w K mg base 10 a.a9 (Oj a):=by
 refine fq G.a9.toDG Ab (λr u=>⟨_,(pF (pU 3 Ab (qa qD Z' G.g qB (qz (pK v0))))
 (pF (pY (qh v0 G.c.toCls G.k (rq G) r (qz (pW (rc pJ U3 U1)))))
 (pF (pY (qh v0 G.c.toCls G.k (rq G) r (qz (pW (qg pJ (qg U3 (rc U1 U2 U1)))))))
 (pG (pY (pP (J2 G) r G.ae (rQ v0 U3))))))),?_⟩)
 rintro ds M Q ⟨M0,b,A,V,l,c,n,y,z,rfl,cu,hc,hn,wf,q⟩
 have lc:((A.cs.map λk=>D.ref k.p).length:Int)=(V.calls.length:Nat):=by rw[de,cu.bd.len]
 refine pH cu.at_ (i' Z' (i' cu.bd.ca ?_));rw[lc];refine pH cu.at_ ⟨Z',_,⟨Z',Z'⟩,pD Z',b,A,V,.new V.calls.length y,Z',cu.b,cu.bd,cu.lim (by lia) (by lia),trivial,λM1 A1 eb1 Yv bd1=>?_⟩;have c1:=cu.after (e:=.new V.calls.length y) trivial eb1 Yv bd1;have ok2:(Ev.leg ⟨V.calls.length,y,z,y⟩).ok (qy V (.new V.calls.length y)):=by show V.calls.length<(V.calls++[zO y]).length;rw[dq];exact fP _
 refine pH c1.at_ ⟨Z',_,⟨Z',Z'⟩,pD Z',b,A1,_,.leg ⟨V.calls.length,y,z,y⟩,Z',c1.b,c1.bd,c1.lim (by show c+1<=_;lia) (by lia),ok2,λM2 A2 eb2 Yh Zm=>?_⟩;have c2:=c1.after ok2 eb2 Yh Zm;obtain⟨k,hk⟩:∃k,(qS V [.new V.calls.length y,.leg ⟨V.calls.length,y,z,y⟩]).calls[V.calls.length]?=Fa k:=by
  have:V.calls.length<(qS V [.new V.calls.length y,.leg ⟨V.calls.length,y,z,y⟩]).calls.length:=by show V.calls.length<((V.calls++[zO y]).modify _ _).length;rw[gu];exact ok2
  exact⟨_,dg this⟩
 refine⟨M0,b,A2,_,l,c+1,n+2,V.calls.length,k,Z',c2,by lia,by lia,wf,hk,λM3 A3 c3 YJ=>⟨M3,.refl,q M3 A3 ?_ (Yv.trans (Yh.trans YJ))⟩⟩;unfold FF;rw[rW];exact c3.mono (dE _) (by lia)
def FE(V:qH)(x:Str):D:=wC (rM V x)
abbrev Ep:=Kq FE
def Ow(a:Ad):rB:=λds M Q=>FV λA V l x z=>ds=[.ref A.b,.str x,.str z]/\Rd a M A V l/\x∈l.pn/\Q (wC (Cw l V x z)) M
inductive vS(a:Ad)(M:Mp)(L:QXQ):List rT->List pM->Prop
 | nil:vS a M L [] []
 | cons (k:rT) (c:pM) (ks:List rT) (cs:List pM) (h:sf a M L k c) (r:vS a M L ks cs):vS a M L (k::ks) (c::cs)
def tE.nf(w:Str)(m:Nat):Prop:=((w="answer"\/w="hang"\/w="hold"\/w="back")/\m=1)\/((w="hand"\/w="join")/\m=2)
def Me(a:Ad):rB:=λds M Q=>IS λwd x r L ks cs=>ds=[.str wd,.str x,.ref r]/\oN M r=Fa (List.map (λk:rT=>D.ref k.p) ks)/\vS a M L ks cs/\tE.nf wd cs.length/\Q (.bl (D3 wd x cs)) M
def Jo(a:Ad):rB:=λds M Q=>IS λA V l wd x ns=>ds=[.ref A.b,.str wd,.str x,.tup (List.map D.int ns)]/\Rd a M A V l/\x∈l.pn/\tE.nf wd ns.length/\Q (wC (Br l V wd x ns)) M
def RJ(a:Ad):rB:=λds M Q=>Au λA V b i=>ds=[.ref A.b,.str (Vk b),.int i]/\pX a M A V/\Q (wC (Q0 V b i)) M
def IH(a:Ad):rB:=λds M Q=>Au λA V l e=>ds=[.ref A.b,tE.d e]/\Rd a M A V l/\e.nC/\Q (wC (wu l V e)) M
def Xv(m:Nat):D->D
 | .int i=>.bl (wV m i)
 | _=>.bl lf
noncomputable def Xs(A:tP):D->D
 | .int i=>(A.cs[i.toNat]?).elim .mY λk=>.ref k.p
 | _=>.mY
theorem Rh{V:qH}(bd:pX a M A V):∀{ns:T0 Int},ns.all (wV V.calls.length)=pc->∃ks,vS a M (A.lists++V.fo) ks (tw V ns)/\(ns.map D.int).map (Xs A)=ks.map (λk:rT=>D.ref k.p)/\(tw V ns).length=ns.length/\∀i∈ns,∃k,0<=i/\A.cs[i.toNat]?=Fa k
 | [],_=>⟨[],.nil,Z',Z',λi hi=>by cases hi⟩
 | i::r,h=>by
  rw[eL,d9]at h;obtain⟨ks,h1,h2,h3,h4⟩:=Rh bd h.2;have hh:(decide (0<=i)&&decide (i<V.calls.length))=pc:=h.1;rw[d9,eC,eC]at hh;have hi:i.toNat<V.calls.length:=by lia
  have hk:i.toNat<A.cs.length:=by rw[bd.len];exact hi
  have e1:A.cs[i.toNat]?=Fa A.cs[i.toNat]:=dg hk;have e2:V.calls[i.toNat]?=Fa V.calls[i.toNat]:=dg hi;have ec:tw V (i::r)=V.calls[i.toNat]::tw V r:=by unfold tw;rw[gX (f:=λi:Int=>V.calls[i.toNat]?) e2]
  rw[ec];refine⟨A.cs[i.toNat]::ks,.cons _ _ _ _ (bd.cs _ _ _ e1 e2) h1,?_,eZ Nat.succ h3,λj hj=>?_⟩
  .rw[eh,eh,h2];show(A.cs[i.toNat]?).elim _ _::_=_;rw[e1];rfl
  .rcases dC.mp hj with rfl|hj
   .exact⟨_,hh.1,e1⟩
   .exact h4 j hj
def vS.sub(h:vS a M L ks cs)(s:qO M M'):vS a M' L ks cs:=by
 induction h with
 | nil=>exact .nil
 | cons k c ks cs h r ih=>exact .cons k c ks cs (h.sub s) ih
def Md{bs:T0 Bool}{i:Int}(h:wV bs.length i=pc):wO (bs.map D.bl) i=Fa (.bl (bs.getD i.toNat lf)):=by
 have hh:(decide (0<=i)&&decide (i<bs.length))=pc:=h;rw[d9,eC,eC]at hh;obtain⟨n,rfl⟩:=eI hh.1;have hn:n<bs.length:=by lia
 refine u9 ?_;rw[dM,dg hn];show Fa (D.bl bs[n])=Fa (.bl (bs.getD n lf));rw[gj,dg hn];rfl
def D4:Fq P w K mg base 4 a.ac (Ep a):=by
 refine fq G.ac.toDG yY (λr u=>⟨_,(pF (pV (pN u (qh v0 G.c.toCls G.bJ (Oi G) r (qz U1)) rb)
 (pG (pL pJ))
 pO)
 (pF (pV (pN u (qh v0 G.c.toCls G.bK (IW G) r (qz U1)) rb)
 (pG (pL pJ))
 pO)
 (pG (pL rb)))),?_⟩)
 rintro ds M Q ⟨A,V,x,rfl,bd,hk,q⟩
 unfold FE rM at q;refine pH bd.at_ ⟨Z',_,⟨Z',Z'⟩,A,V,x,Z',bd,hk,?_⟩;unfold Mn;cases e:CB V x with
 | some j=>rw[e]at q;exact⟨M,.refl,q⟩
 | none=>
  rw[e]at q;refine pH bd.at_ ⟨Z',_,⟨Z',Z'⟩,A,V,x,Z',bd,hk,?_⟩;unfold Ut;cases e:GV V x with
  | some j=>rw[e]at q;exact⟨M,.refl,q⟩
  | none=>rw[e]at q;exact⟨M,.refl,q⟩
def M7:Fq P w K mg base 5 a.a1 (Ow a):=by
 refine fq G.a1.toDG wM (λr u=>⟨_,(pF (pV (pN u U2 (yz (pK v0) G.h.toCls G.bI (Dn G) r))
 (pG (pL pJ))
 pO)
 (pF (pU 3 wM (pP (D4 G) r G.ac (rQ v0 U1)))
 (pF (pV (W3.b3 (tq (pN u U3 rb) (sL (tj (sR (qh v0 G.c.toCls G.V (zg G) r (qz U1)))))))
 (pG (pL pJ))
 pO)
 (pG (pL U3))))),?_⟩)
 rintro ds M Q ⟨A,V,l,x,z,rfl,rd,hx,q⟩
 obtain⟨ph,gr,ws,Zg,pr,gd,rs,i1,_⟩:=rd.pl;have p8:=rd.ok.p8;have g3:=rd.ok.g3;unfold Cw at q;refine pH rd.bd.at_ (i' Z' (pH i1 ⟨Z',_,⟨Z',Z'⟩,V.p,l,Z',rd.pl,by lia,by lia,λp hp=>i' pT ⟨Z',qm _,?_⟩⟩));have t:=qO.new (c:=.lst (l.nm.map D.str)) hp;have Yo:=rd.sub t;generalize pQ M p (.lst (l.nm.map D.str))=M1 at t Yo ⊢;show if (!(inD (.str z) (l.nm.map D.str)))=pc then _ else _
 rw[rh];refine qv (c:=!(hasS l.nm z)) (λg=>?_) (λg=>?_)
 .rw[dw (by simpa using g)]at q;exact⟨M,t,q⟩
 rw[dh (by simpa using g)]at q;refine⟨A,V,x,Z',Yo.bd,Yo.k,?_⟩;unfold FE;cases e:rM V x with
 | some w0=>rw[e]at q;exact⟨M,t,q⟩
 | none=>
  rw[e]at q;refine pH Yo.bd.at_ ⟨Z',_,⟨Z',Z'⟩,A,V,l,x,Z',Yo,hx,?_⟩;refine qv (c:=!(sD l V x)) (λg=>?_) (λg=>?_)
  .rw[g]at q;exact⟨M,t,q⟩
  .rw[show(!(sD l V x))=lf from dB.mpr g]at q;exact⟨M,t,q⟩
def LR:Fq P w K mg base 3 a.a2 (Me a):=by
 refine fq G.a2.toDG NS (λr u=>⟨_,(pF (pV (pN u v0 pJ)
 (pG (pL (ql u U1 (pK (pS U2 pI)))))
 pO)
 (pF (pV (pN u v0 pJ)
 (pG (pL (qh (pS U2 pI) G.e.toCls G.bN (Od G) r (qz U1))))
 pO)
 (pF (pV (pN u v0 pJ)
 (pG (pL (qh (pS U2 pI) G.e.toCls G.aA (GS G) r (qz U1))))
 pO)
 (pF (pV (pN u v0 pJ)
 (pG (pL (ql u (pK (pS U2 pI)) U1)))
 pO)
 (pG (pL (sv (ql u (pK (pS U2 pI)) U1) (rN (qh (pS U2 pI) G.e.toCls G.aA (GS G) r (qz U1)))))))))),?_⟩)
 rintro ds M Q ⟨wd,x,r,L,ks,cs,rfl,lr,hcs,hw,q⟩
 cases hcs with
 | nil=>rcases hw with⟨_,h⟩|⟨_,h⟩<;>cases h
 | cons k c ks cs hc YA=>
 obtain⟨ad,md,h1,h2,h3,h4,_⟩:=id hc;have a0:=vX (.ref k.p) (ks.map λk:rT=>D.ref k.p);have hold:∀K:DK,K (.bl (c.hd==Fa x)) M->Option.elim (xA M 9 (wC c.hd) (.str x)) False λb=>K (.bl b) M:=λK hK=>by
  cases e:c.hd with
  | none=>rw[e]at hK;exact hK
  | some y=>rw[e]at hK;exact hK
 rcases hw with⟨rfl|rfl|rfl|rfl,h⟩|⟨hw,h⟩
 .exact i' lr (i' a0 (pH h1 (i' Z' (CW h3 ⟨M,.refl,q⟩))))
 .exact i' lr (i' a0 (pH h1 ⟨Z',_,⟨Z',Z'⟩,L,k,c,x,Z',hc,M,.refl,q⟩))
 .exact i' lr (i' a0 (pH h1 ⟨Z',_,⟨Z',Z'⟩,L,k,c,x,Z',hc,M,.refl,q⟩))
 .exact i' lr (i' a0 (pH h1 (i' Z' (hold _ ⟨M,.refl,q⟩))))
 .cases YA with
  | nil=>cases h
  | cons k' d ks cs hd _=>
   obtain⟨ad',md',f1,_⟩:=id hd;have a1:wO (.ref k.p::.ref k'.p::ks.map λk:rT=>D.ref k.p) 1=Fa (.ref k'.p):=u9 (j:=1) Z';have qq:Q (.bl ((c.hd==Fa x)&&d.ni x)) M:=by
    rcases hw with rfl|rfl
    .exact q
    .exact q
   rcases hw with rfl|rfl
   all_goals
    refine i' lr (i' a0 (pH h1 (i' Z' ?_)));cases e:c.hd with
    | none=>rw[e]at qq;exact⟨M,.refl,qq⟩
    | some y=>
     rw[e]at qq;have qq:Q (.bl ((y==x)&&d.ni x)) M:=qq;refine qv (c:=y==x) (λg=>?_) (λg=>?_)
     .rw[g,eN]at qq;exact i' lr (i' a1 (pH f1 ⟨Z',_,⟨Z',Z'⟩,L,k',d,x,Z',hd,M,.refl,qq⟩))
     .rw[show(y==x)=lf from dB.mpr g,eR]at qq;exact⟨M,.refl,qq⟩
def O0:Fq P w K mg base 5 a.a3 (Jo a):=by
 refine fq G.a3.toDG uj (λr u=>⟨_,(pF (pV (tj (sR (qa (FJ Z') Z' G.bY Fb (qz (qP Z' (yh (ix:=[Db,Fa 0]) (N':=["number","board"])) (qL U3) (qM 0) se (ur u pI v0 (qa qD Z' G.g qB (qz (pK U1)))))))))
 (pG (pL pJ))
 pO)
 (pF (vH (i:=4) uj.nd Z' (Or.inl Z') Z' (yh (ix:=[Db,Fa 0]) (N':=["number","board"])) (qL U3) (qM 0) se (pS (pK U1) v0))
 (pF (pV (tj (sR (pP (LR G) r G.a2 (rc U1 U2 v4))))
 (pG (pL pJ))
 pO)
 (pF (pV (pN u U1 (pW (rQ pJ pJ)))
 (pG (pL rb))
 pO)
 (pF (pU 5 uj (pP (D4 G) r G.ac (rQ v0 U2)))
 (pF (pV (W3.b3 (tq (pN u v5 rb) (tq (sR (qh (pS v4 pI) G.e.toCls G.az (Hr G) r (qz U2))) (sL (tj (sR (qh v0 G.c.toCls G.V (zg G) r (qz U2))))))))
 (pG (pL pJ))
 pO)
 (pG (pL v5)))))))),?_⟩)
 rintro ds M Q ⟨A,V,l,wd,x,ns,rfl,rd,hx,hw,q⟩
 have hz:=dR;have hn2:ns.length<=2:=by rcases hw with⟨_,h⟩|⟨_,h⟩<;>lia
 have lca:((A.cs.map λk=>D.ref k.p).length:Int)=V.calls.length:=by rw[de,rd.bd.len]
 unfold Br at q;refine rA (f:=Xv V.calls.length) trivial _ [] _ (by rw[de];simp only[dS];lia) (λd hd k hk=>?_) λp hp=>?_
 .obtain⟨i,_,rfl⟩:=dJ.mp hd;have hk:k (.bl (decide (0<=i)&&decide (i<V.calls.length))) M:=hk;refine qv (c:=decide (0<=i)) (λg=>?_) (λg=>?_)
  .rw[g,eN]at hk;refine pH rd.bd.at_ (i' Z' (i' rd.bd.ca ?_));rw[lca];exact hk
  .rw[show decide (0<=i)=lf from dB.mpr g,eR]at hk;exact hk
 have em:[]++(ns.map D.int).map (Xv V.calls.length)=ns.map λi=>D.bl (wV V.calls.length i):=by rw[eB,eG];rfl
 rw[em];have t:=qO.new (c:=.lst (ns.map λi=>D.bl (wV V.calls.length i))) hp;refine i' pT (i' (yp (wV V.calls.length) ns) ?_);have Yo:=rd.sub t;generalize pQ M p (.lst (ns.map λi=>D.bl (wV V.calls.length i)))=M1 at t Yo ⊢;rw[zB];refine qv (c:=!(ns.all (wV V.calls.length))) (λg=>?_) (λYx=>?_)
 .rw[dw (by simpa using g)]at q;exact⟨M,t,q⟩
 have Yx:ns.all (wV V.calls.length)=pc:=by simpa using Yx
 rw[dh (by rw[Yx];exact Bool.noConfusion)]at q;obtain⟨ks,hks,eks,lcs,Zk⟩:=Rh Yo.bd Yx;refine rA (f:=Xs A) trivial _ [] _ (by rw[de];simp only[dS];lia) (λd hd k0 hk=>?_) λp2 X2=>?_
 .obtain⟨i,hi,rfl⟩:=dJ.mp hd;obtain⟨k,i0,e1⟩:=Zk i hi;obtain⟨n,rfl⟩:=eI i0;have e1:A.cs[n]?=Fa k:=e1;have hk:k0 ((A.cs[n]?).elim .mY λk=>.ref k.p) M1:=hk;rw[e1]at hk;exact pH Yo.bd.at_ (i' Z' (i' Z' (i' Yo.bd.ca (i' (qX e1) hk))))
 rw[eB,eks];obtain⟨M2,e0,t2,l2⟩:=xl (ds:=ks.map λk:rT=>D.ref k.p) X2;rw[<-e0];have Z9:=Yo.sub t2;have s2:=t.trans t2;have hks:=hks.sub t2;generalize tw V ns=cs at hks lcs q;refine⟨wd,x,p2,_,ks,cs,Z',l2,hks,by rw[lcs];exact hw,?_⟩;refine qv (c:=!D3 wd x cs) (λg=>?_) (λg=>?_)
 .rw[dw (by simpa using g)]at q;exact⟨M,s2,q⟩
 rw[dh (by simpa using g)]at q;have two:∀wd:Str,(wd=="answer"||wd=="back")=pc->Q (wC (if ((rM V x).isNone&&(cs.head?.elim lf (λc=>c.mZ x)&&!(sD l V x)))=pc then Fa "full" else rM V x)) M->cs.length=1->Ep a [.ref A.b,.str x] M2 λdue M3=>uR (TC (Pp (b3 (k3 .Is (v3 5) (c3 .mY))) (Pp (b3 (AK "waits_with" (λD s=>D=a.e/\s=vR a) (i3 (v3 4) (c3 (.int 0))) (vB (v3 2) xH))) (Ur (b3 (AK "is_free" (λD s=>D=a.c/\s=xD a) (v3 0) (vB (v3 2) xH)))))) (T4 (c3 (.str "full"))) Xk) (T4 (v3 5)) {nx:=λ_ M'=>∃XU,qO XU M'/\Q .mY XU,rt:=λd M'=>∃XU,qO XU M'/\Q d XU} [Fa (.ref A.b),Fa (.str wd),Fa (.str x),Fa (.tup (ns.map D.int)),Fa (.ref p2),Fa due] M3:=λwd _ q hl=>by
  cases hks with
  | nil=>cases hl
  | cons k c ks cs hc _=>
  have q:Q (wC (if ((rM V x).isNone&&(c.mZ x&&!(sD l V x)))=pc then Fa "full" else rM V x)) M:=q;obtain⟨ad,md,h1,_⟩:=id hc;refine⟨A,V,x,Z',Z9.bd,Z9.k,?_⟩;unfold FE;cases e:rM V x with
  | some w0=>rw[e]at q;exact⟨M,s2,q⟩
  | none=>
   rw[e]at q;refine i' l2 (i' (vX _ _) (pH h1 ⟨Z',_,⟨Z',Z'⟩,_,k,c,x,Z',hc,?_⟩));refine qv (c:=c.mZ x) (λg1=>?_) (λg1=>?_)
   .rw[g1]at q;refine pH Z9.bd.at_ ⟨Z',_,⟨Z',Z'⟩,A,V,l,x,Z',Z9,hx,?_⟩;refine qv (c:=!(sD l V x)) (λg=>?_) (λg=>?_)
    .rw[g]at q;exact⟨M,s2,q⟩
    .rw[show(!(sD l V x))=lf from dB.mpr g]at q;exact⟨M,s2,q⟩
   .rw[show c.mZ x=lf from dB.mpr g1]at q;exact⟨M,s2,q⟩
 rcases hw with⟨rfl|rfl|rfl|rfl,h⟩|⟨rfl|rfl,h⟩
 .exact⟨pD Z',Z',Z',two "answer" Z' q (lcs.trans h)⟩
 .exact⟨pD Z',Z',Z',M,s2,q⟩
 .exact⟨pD Z',Z',Z',M,s2,q⟩
 .exact⟨pD Z',Z',Z',two "back" Z' q (lcs.trans h)⟩
 .exact⟨pD Z',Z',Z',M,s2,q⟩
 .exact⟨pD Z',Z',Z',M,s2,q⟩
def Th:Fq P w K mg base 1 a.a4 (RJ a):=by
 refine fq G.a4.toDG zc (λr u=>⟨_,(pF (pV (tj (zT u pI U2 (qa qD Z' G.g qB (qz (pK v0)))))
 (pG (pL pJ))
 pO)
 (pF (pV (pN u (pS (pK v0) U2) (ql u U1 pJ))
 (pG (pL pJ))
 pO)
 (pG (pL rb)))),?_⟩)
 rintro ds M Q ⟨A,V,b,i,rfl,bd,q⟩
 unfold Q0 at q;have Zk:wV V.on.length i=(decide (0<=i)&&decide (i<V.on.length)):=rfl;have lon:((V.on.map D.bl).length:Int)=V.on.length:=by rw[de]
 have no:wV V.on.length i=lf->Q (.str "wish") M:=λh=>by rw[dw h]at q;exact q
 have yes:wV V.on.length i=pc->Q (wC (if (V.on.getD i.toNat lf==b)=pc then Fa "wish" else Db)) M:=λh=>by rw[h,dh Bool.noConfusion]at q;exact q
 refine qv (c:=decide (0<=i)) (λg0=>?_) (λg0=>⟨M,.refl,no (by rw[Zk,show decide (0<=i)=lf from dB.mpr g0];rfl)⟩);refine pH bd.at_ (i' Z' (i' bd.on ?_));rw[lon];refine qv (c:=!(decide (i<(V.on.length:Int)))) (λg1=>⟨M,.refl,no (by rw[Zk,g0,show decide (i<(V.on.length:Int))=lf by simpa using g1];rfl)⟩) (λg1=>?_);have h:wV V.on.length i=pc:=by rw[Zk,g0,show decide (i<(V.on.length:Int))=pc by simpa using g1];rfl
 have q:=yes h;refine pH bd.at_ (i' Z' (i' Z' (i' bd.on (i' (Md h) ?_))));have es:(Vk b=="on")=b:=by cases b<;>rfl
 show if (V.on.getD i.toNat lf==(Vk b=="on"))=pc then _ else _
 rw[es];refine qv (λg=>?_) (λg=>?_)
 .rw[dw g]at q;exact⟨M,.refl,q⟩
 .rw[dh g]at q;exact⟨M,.refl,q⟩
def Cz:Fq P w K mg base 6 a.ad (IH a):=by
 refine fq G.ad.toDG CA (λr u=>⟨_,(pF (pU 2 CA (pS U1 pI))
 (pF (pV (pN u U2 pJ)
 (pG (pL rb))
 pO)
 (pF (pV (pN u U2 (pW (rQ pJ pJ)))
 (pG (pL (pP (Th G) r G.a4 (rc v0 U2 (pS U1 pI)))))
 pO)
 (pF (pV (pN u (pS U1 pI) (yz (pK v0) G.h.toCls G.T (uk G) r))
 (pG (pL pJ))
 pO)
 (pF (pV (pN u U2 pJ)
 (pG (pL (pP (M7 G) r G.a1 (rc v0 (pS U1 pI) (pS U1 pI)))))
 pO)
 (pG (pL (pP (O0 G) r G.a3 (qg v0 (rc U2 (pS U1 pI) (sy U1 (sT pI) tL))))))))))),?_⟩)
 rintro ds M Q ⟨A,V,l,e,rfl,rd,hf,q⟩
 obtain⟨ph,gr,ws,Zg,pr,gd,rs,i1,_⟩:=rd.pl;have p8:=rd.ok.p8;cases e with
 | turn=>exact⟨M,.refl,q⟩
 | sw b i=>
  cases b with
  | true=>exact⟨pD Z',Z',Z',A,V,pc,i,Z',rd.bd,M,.refl,q⟩
  | false=>exact⟨pD Z',Z',Z',A,V,lf,i,Z',rd.bd,M,.refl,q⟩
 | call x z=>
  have q:Q (wC (if hasS l.pn x=lf then Fa "name" else Cw l V x z)) M:=q;refine⟨pD Z',Z',Z',?_⟩;refine pH rd.bd.at_ (i' Z' (pH i1 ⟨Z',_,⟨Z',Z'⟩,V.p,l,Z',rd.pl,by lia,λp X2=>i' pT ⟨Z',qm _,?_⟩⟩));have t:=qO.new (c:=.lst (l.pn.map D.str)) X2;have Yo:=rd.sub t;generalize pQ M p (.lst (l.pn.map D.str))=M1 at t Yo ⊢;show if (!(inD (.str x) (l.pn.map D.str)))=pc then _ else _
  rw[rh];refine qv (c:=!(hasS l.pn x)) (λg=>?_) (λg=>?_)
  .rw[dw (by simpa using g)]at q;exact⟨M,t,q⟩
  .have g:hasS l.pn x=pc:=by simpa using g
   rw[g,dh Bool.noConfusion]at q;exact⟨A,V,l,x,z,Z',Yo,qN.mp g,M,t,q⟩
 | num wd x ns=>
  have q:Q (wC (if hasS l.pn x=lf then Fa "name" else Br l V wd x ns)) M:=q;have hf:tE.nf wd ns.length:=hf;have key:∀(M1:Mp),qO M M1->if (!(inD (.str x) (l.pn.map D.str)))=pc then(∃XU,qO XU M1/\Q (.str "name") XU)else Jo a [.ref A.b,.str wd,.str x,.tup (ns.map D.int)] M1 λd M'=>∃XU,qO XU M'/\Q d XU:=λM1 t=>by
   rw[rh];refine qv (c:=!(hasS l.pn x)) (λg=>?_) (λg=>?_)
   .rw[dw (by simpa using g)]at q;exact⟨M,t,q⟩
   .have g:hasS l.pn x=pc:=by simpa using g
    rw[g,dh Bool.noConfusion]at q;exact⟨A,V,l,wd,x,ns,Z',rd.sub t,qN.mp g,hf,M,t,q⟩
  have one:ns.length=1->∃i,ns=[i]:=iV.mp;have two:ns.length=2->∃i j,ns=[i,j]:=λh=>by
   match ns,h with
   | [i,j],_=>exact⟨i,j,Z'⟩
  rcases id hf with⟨rfl|rfl|rfl|rfl,h⟩|⟨rfl|rfl,h⟩
  .obtain⟨i,rfl⟩:=one h;exact⟨pD Z',Z',Z',pH rd.bd.at_ (i' Z' (pH i1 ⟨Z',_,⟨Z',Z'⟩,V.p,l,Z',rd.pl,by lia,λp X2=>i' pT ⟨Z',qm _,key _ (.new X2)⟩⟩))⟩
  .obtain⟨i,rfl⟩:=one h;exact⟨pD Z',Z',Z',pH rd.bd.at_ (i' Z' (pH i1 ⟨Z',_,⟨Z',Z'⟩,V.p,l,Z',rd.pl,by lia,λp X2=>i' pT ⟨Z',qm _,key _ (.new X2)⟩⟩))⟩
  .obtain⟨i,rfl⟩:=one h;exact⟨pD Z',Z',Z',pH rd.bd.at_ (i' Z' (pH i1 ⟨Z',_,⟨Z',Z'⟩,V.p,l,Z',rd.pl,by lia,λp X2=>i' pT ⟨Z',qm _,key _ (.new X2)⟩⟩))⟩
  .obtain⟨i,rfl⟩:=one h;exact⟨pD Z',Z',Z',pH rd.bd.at_ (i' Z' (pH i1 ⟨Z',_,⟨Z',Z'⟩,V.p,l,Z',rd.pl,by lia,λp X2=>i' pT ⟨Z',qm _,key _ (.new X2)⟩⟩))⟩
  .obtain⟨i,j,rfl⟩:=two h;exact⟨pD Z',Z',Z',pH rd.bd.at_ (i' Z' (pH i1 ⟨Z',_,⟨Z',Z'⟩,V.p,l,Z',rd.pl,by lia,λp X2=>i' pT ⟨Z',qm _,key _ (.new X2)⟩⟩))⟩
  .obtain⟨i,j,rfl⟩:=two h;exact⟨pD Z',Z',Z',pH rd.bd.at_ (i' Z' (pH i1 ⟨Z',_,⟨Z',Z'⟩,V.p,l,Z',rd.pl,by lia,λp X2=>i' pT ⟨Z',qm _,key _ (.new X2)⟩⟩))⟩
def Dp(V:qH)(x:Str):Prop:=∀c∈V.calls,¬BA c x
def FB{V:qH}(h:rM V x=Db):Dp V x:=by
 unfold rM at h;cases e1:CB V x with
 | some j=>rw[e1]at h;cases h
 | none=>
  cases e2:GV V x with
  | some j=>rw[e1,e2]at h;cases h
  | none=>
   intro c hc g;have h1:=jS.mp e1 c hc;have h2:=jS.mp e2 c hc;rcases g with g|g
   .rw[h1]at g;cases g
   .rw[h2]at g;cases g
def sX{c:pM}(h:c.st="rings"){x:Str}:BA c x↔x=c.cr:=by unfold BA pM.nk pM.ng pM.nj;rw[h];simp(decide:=true)
def D8{c:pM}(h:c.st="waits"){x:Str}:BA c x↔x=c.cr:=by unfold BA pM.nk pM.ng pM.nj;rw[h];simp(decide:=true)
def uc{c:pM}(h:c.st="talks"){x:Str}:BA c x↔x∈c.ms:=by unfold BA pM.nk pM.ng pM.nj;rw[h,<-qN];simp(decide:=true)
def Cd{c:pM}(h:c.st="held"){x:Str}:BA c x↔x∈c.ms/\c.hd≠Fa x:=by unfold BA pM.nk pM.ng;rw[h,<-qN];simp(decide:=true)
def Hv{c:pM}(h:c.st="over"){x:Str}:¬BA c x:=by unfold BA pM.nk pM.ng pM.nj;rw[h];simp(decide:=true)
def sZ{c:pM}(h:c.st="rings"){x:Str}:c.hasB x=pc↔x=c.cr\/x∈c.at_:=by unfold pM.hasB;rw[h,<-qN];simp(decide:=true)
def Ef{c:pM}(h:c.st="waits"){x:Str}:c.hasB x=pc↔x=c.cr:=by unfold pM.hasB;rw[h];simp(decide:=true)
def tF{c:pM}(h:c.st="talks"\/c.st="held"){x:Str}:c.hasB x=pc↔x∈c.ms:=by unfold pM.hasB;rw[<-qN];rcases h with h|h<;>(rw[h];simp(decide:=true))
def Ha{c:pM}(h:c.st="over"){x:Str}:c.hasB x=lf:=by unfold pM.hasB;rw[h];simp(decide:=true)
def sE{c:pM}{x:Str}:c.mZ x=pc↔c.st="waits"/\x∈c.at_:=by unfold pM.mZ;rw[d9,fh,qN]
theorem Fp{α:Type}(f:α->Bool):∀{l:List α} {i:Nat} {c:α} (c':α),l[i]?=Fa c->((l.set i c').filter f).length+(if f c=pc then 1 else 0)=(l.filter f).length+(if f c'=pc then 1 else 0)
 | [],_,_,_,h=>by simp at h
 | x::r,0,c,c',h=>by cases h;rw[List.set_cons_zero,gY,gY];split<;>split<;>simp
 | x::r,i+1,c,c',h=>by
  have ih:=Fp f (l:=r) (i:=i) (c:=c) c' (by simpa using h);rw[lE,gY,gY];split
  .rw[eK,eK];lia
  .exact ih
def Ae.set{V V':qH}{o o':Option Nat}{i:Nat}{c c':pM}(h:Ae l V o)(e:V'.calls=V.calls.set i c')(hc:V.calls[i]?=Fa c)(ho:∀j,j≠i->(o==Fa j)=(o'==Fa j))(ok:wn l (o'==Fa i) c')(he:∀x,BA c' x->BA c x\/Dp V x)(hu:∀x,c'.hasB x=pc->c.hasB x=pc\/(uT V x:Int)<wm l x)(hw:∀x,c'.mZ x=pc->c.mZ x=pc\/AM V x=lf)(nx:uF l V'):Ae l V' o':=by
 have si:∀{j:Nat} {d:pM},V'.calls[j]?=Fa d->(j=i/\d=c')\/(j≠i/\V.calls[j]?=Fa d):=λ{j d} g=>by rw[e]at g;exact(E7 g).imp (λg=>⟨g.1,g.2.1⟩) id
 have key:∀(j:Nat) cj x,j≠i->V.calls[j]?=Fa cj->BA c' x->BA cj x->False:=λj cj x hj e1 g1 g2=>by
  rcases he x g1 with z|z
  .exact hj (h.un j i cj c x e1 hc g2 z)
  .exact z cj (rg e1) g2
 have keyw:∀(j:Nat) cj x,j≠i->V.calls[j]?=Fa cj->c'.mZ x=pc->cj.mZ x=pc->False:=λj cj x hj e1 g1 g2=>by
  rcases hw x g1 with z|z
  .exact hj (h.wt j i cj c x e1 hc g2 z)
  .unfold AM at z;exact absurd g2 (by rw[lG.mp z cj (rg e1)|>dB.mpr];exact Bool.noConfusion)
 refine⟨λj d g=>?_,λm n cm cn x e1 e2 g1 g2=>?_,λx hx=>?_,λm n cm cn x e1 e2 g1 g2=>?_,nx⟩
 .rcases si g with⟨rfl,rfl⟩|⟨hj,g⟩
  .exact ok
  .rw[<-ho j hj];exact h.ok j d g
 .rcases si e1 with⟨rfl,rfl⟩|⟨hm,e1⟩<;>rcases si e2 with⟨rfl,rfl⟩|⟨hn,e2⟩
  .rfl
  .exact(key n cn x hn e2 g1 g2).elim
  .exact(key m cm x hm e1 g2 g1).elim
  .exact h.un m n cm cn x e1 e2 g1 g2
 .have cs:=Fp (λk:pM=>k.hasB x) c' hc;have hl:=h.ln x hx;unfold uT at hl ⊢;rw[e];by_cases g:c'.hasB x=pc
  .rw[dw g]at cs;rcases hu x g with z|z
   .rw[dw z]at cs;lia
   .unfold uT at z;lia
  .rw[dh g]at cs;lia
 .rcases si e1 with⟨rfl,rfl⟩|⟨hm,e1⟩<;>rcases si e2 with⟨rfl,rfl⟩|⟨hn,e2⟩
  .rfl
  .exact(keyw n cn x hn e2 g1 g2).elim
  .exact(keyw m cm x hm e1 g2 g1).elim
  .exact h.wt m n cm cn x e1 e2 g1 g2
def Ae.add{V V':qH}{c':pM}(h:WF l V)(e:V'.calls=V.calls++[c'])(ok:wn l pc c')(he:∀x,BA c' x->Dp V x)(hu:∀x,c'.hasB x=pc->(uT V x:Int)<wm l x)(hw:∀x,c'.mZ x=lf)(nx:uF l V'):Ae l V' (Fa V.calls.length):=by
 have si:∀{j:Nat} {d:pM},V'.calls[j]?=Fa d->(j=V.calls.length/\d=c')\/(j≠V.calls.length/\V.calls[j]?=Fa d):=λ{j d} g=>by
  rw[e]at g;by_cases z:j<V.calls.length
  .rw[fm z]at g;exact .inr ⟨by lia,g⟩
  .have:=(dv.mp g).1;rw[dq,dX]at this;have z:j=V.calls.length:=by lia
   subst z;rw[fj (dE _)]at g;simp only[iq,iQ,jK]at g;exact .inl ⟨Z',g.symm⟩
 refine⟨λj d g=>?_,λm n cm cn x e1 e2 g1 g2=>?_,λx hx=>?_,λm n cm cn x e1 e2 g1 g2=>?_,nx⟩
 .rcases si g with⟨rfl,rfl⟩|⟨hj,g⟩
  .rw[fE];exact ok
  .rw[show(Fa V.calls.length==Fa j)=lf by simpa using dW hj];exact h.ok j d g
 .rcases si e1 with⟨rfl,rfl⟩|⟨hm,e1⟩<;>rcases si e2 with⟨rfl,rfl⟩|⟨hn,e2⟩
  .rfl
  .exact(he x g1 cn (rg e2) g2).elim
  .exact(he x g2 cm (rg e1) g1).elim
  .exact h.un m n cm cn x e1 e2 g1 g2
 .have hl:=h.ln x hx;unfold uT at hl ⊢;rw[e,iO,dq,gY];split
  .rename_i g;have:=hu x g;unfold uT at this;simp only[jl,dX];lia
  .simp only[jl,dS];lia
 .rcases si e1 with⟨rfl,rfl⟩|⟨hm,e1⟩<;>rcases si e2 with⟨rfl,rfl⟩|⟨hn,e2⟩
  .rfl
  .rw[hw x]at g1;cases g1
  .rw[hw x]at g2;cases g2
  .exact h.wt m n cm cn x e1 e2 g1 g2
noncomputable def pM.core(c:pM):pM:={c with way:=[],si:=0}
def zN(V V':qH):Prop:=V'.calls.map pM.core=V.calls.map pM.core
def zN.at_{V V':qH}(h:zN V V'){i:Nat}{c':pM}(e:V'.calls[i]?=Fa c'):∃c,V.calls[i]?=Fa c/\c'.core=c.core:=by
 have:=eZ (·[i]?) h;simp only[dM,e]at this;cases e':V.calls[i]? with
 | none=>rw[e']at this;cases this
 | some c=>rw[e']at this;exact⟨c,Z',dD this⟩
def zN.used{V V':qH}(h:zN V V')(x:Str):uT V' x=uT V x:=by
 have key:∀cs:List pM,(cs.filter (·.hasB x)).length=((cs.map pM.core).filter (·.hasB x)).length:=λcs=>by rw[gK,de];rfl
 unfold uT;rw[key,h,<-key]
def zN.wf{V V':qH}{o:Option Nat}(h:zN V V')(wf:Ae l V o)(hw:∀(i:Nat) c',V'.calls[i]?=Fa c'->c'.way≠[]/\∀z∈c'.way,z∈l.nm)(nx:uF l V'):Ae l V' o:=by
 refine⟨λi c' e=>?_,λi j ci cj x e1 e2 g1 g2=>?_,λx hx=>by rw[h.used];exact wf.ln x hx,λi j ci cj x e1 e2 g1 g2=>?_,nx⟩
 .obtain⟨c,ec,ee⟩:=h.at_ e;have k:=wf.ok i c ec;have k1:c'.at_=c.at_:=show c'.core.at_=c.core.at_ by rw[ee]
  have k2:c'.ms=c.ms:=show c'.core.ms=c.core.ms by rw[ee]
  have k3:c'.cr=c.cr:=show c'.core.cr=c.core.cr by rw[ee]
  exact⟨by show AO _ c'.core;rw[ee];exact k.sh,by rw[k3];exact k.cr,by rw[k1];exact k.at_,by rw[k2];exact k.ms,by rw[k1];exact k.an,by rw[k2];exact k.mn,by rw[k1,k3];exact k.ca,hw i c' e⟩
 .obtain⟨di,a1,a2⟩:=h.at_ e1;obtain⟨dj,b1,b2⟩:=h.at_ e2;exact wf.un i j di dj x a1 b1 (by show BA di.core x;rw[<-a2];exact g1) (by show BA dj.core x;rw[<-b2];exact g2)
 .obtain⟨di,a1,a2⟩:=h.at_ e1;obtain⟨dj,b1,b2⟩:=h.at_ e2;exact wf.wt i j di dj x a1 b1 (by show di.core.mZ x=pc;rw[<-a2];exact g1) (by show dj.core.mZ x=pc;rw[<-b2];exact g2)
def ug.core{V V':qH}(h:ug V V'):zN V V':=by have:=eZ (List.map pM.core) h;rw[eG,eG]at this;exact this
def Kz(V:qH):zN V (qy V .turn):=by show(V.calls.map pM.tick).map pM.core=V.calls.map pM.core;rw[eG];refine gC λc _=>?_;show(pM.tick c).core=c.core;unfold pM.tick;split<;>rfl
def F7{V:qH}(wf:WF l V):WF l (qy V .turn):=(Kz V).wf wf (λi c' e=>by
 have e:(V.calls.map pM.tick)[i]?=Fa c':=e;rw[dM]at e;cases q:V.calls[i]? with
 | none=>rw[q]at e;cases e
 | some c=>
  rw[q]at e;have e:c.tick=c':=dD e;have hw:c.tick.way=c.way:=by unfold pM.tick;split<;>rfl
  rw[<-e,hw];exact(wf.ok i c q).wy) wf.nx
def U9{V:qH}{b:Bool}{i:Nat}(wf:WF l V):WF l (qy V (.sw b i)):=⟨wf.ok,wf.un,wf.ln,wf.wt,wf.nx⟩
def Fy{V:qH}{o:Option Nat}{i:Nat}{z:Str}{ns:T0 Nat}(wf:Ae l V o):Ae l (qy V (.asks i z ns)) o:=⟨wf.ok,wf.un,wf.ln,wf.wt,wf.nx⟩
def Ic{V:qH}{o:Option Nat}{v:sA}(wf:Ae l V o)(hz:v.g∈l.nm):Ae l (qy V (.leg v)) o:=(zu V v).core.wf wf (λi c' e=>by
 have e:(V.calls.modify v.i (·.go v.g))[i]?=Fa c':=e;rw[jq]at e;cases q:V.calls[i]? with
 | none=>rw[q]at e;cases e
 | some c=>
  rw[q]at e;have k:=(wf.ok i c q).wy;have e:(if v.i=i then c.go v.g else c)=c':=dD e;by_cases g:v.i=i
  .rw[dw g]at e;rw[<-e];refine⟨by show c.way++[v.g]≠[];simp,λz hz'=>?_⟩;rcases eF.mp (show z∈c.way++[v.g]from hz')with y|y
   .exact k.2 z y
   .rw[dI.mp y];exact hz
  .rw[dh g]at e;rw[<-show c=c' from e];exact k) wf.nx
theorem C4{o:Option Nat}(i:Nat):∀(st:tX) (q:Option Str) {V:qH},Ae l V o->(∀s∈st,s.1∈l.nm)->Ae l (qS V (rS i q st)) o
 | [],_,V,wf,_=>wf
 | (y,gs)::r,Db,V,wf,h=>C4 i r (Fa y) (Fy wf) λs hs=>h s (dN _ hs)
 | (y,gs)::r,Fa u,V,wf,h=>C4 i r (Fa y) (Fy (Ic wf (h _ dY))) λs hs=>h s (dN _ hs)
def rK{V:qH}{i:Nat}{c:pM}{f:pM->pM}(h:V.calls[i]?=Fa c):(xR V i f).calls=V.calls.set i (f c):=by unfold xR;rw[ue h]
def BC{i:Nat}:∀j,j≠i->((Fa i:Option Nat)==Fa j)=((Db:Option Nat)==Fa j):=λj hj=>by rw[show((Fa i:Option Nat)==Fa j)=lf by simpa using dW hj];rfl
def Xa{V:qH}{i:Nat}{c:pM}(wf:Ae l V (Fa i))(hc:V.calls[i]?=Fa c):c.st="rings"/\c.ms=[]/\c.hd=Db/\c.wd=Db/\c.at_=[]:=by
 have sh:=(wf.ok i c hc).sh;rw[fE]at sh;rcases sh with g|g
 .exact⟨g.1,g.2.1,g.2.2.1,g.2.2.2.1,g.2.2.2.2.1 Z'⟩
 .cases g.1
def OV{c:pM}{o:Bool}{w:Str}(k:wn l o c)(hw:w∈MN):wn l lf (c.over w):=⟨.inr ⟨Z',.inr (.inr (.inr ⟨Z',Z',Z',Z',w,hw,Z'⟩))⟩,k.cr,(λx hx=>by cases hx),(λx hx=>by cases hx),eU,eU,(λhx=>by cases hx),k.wy⟩
def xp{V V':qH}{o:Option Nat}{i:Nat}{c:pM}{w:Str}(wf:Ae l V o)(hc:V.calls[i]?=Fa c)(ho:o=Db\/o=Fa i)(hw:w∈MN)(e:V'.calls=V.calls.set i (c.over w))(nx:uF l V'):WF l V':=
 wf.set e hc (λj hj=>by rcases ho with rfl|rfl;rfl;exact BC j hj) (OV (wf.ok i c hc) hw) (λx g=>(Hv Z' g).elim) (λx g=>by rw[Ha (c:=c.over w) Z']at g;cases g) (λx g=>by have:=(sE.mp g).1;exact absurd this (show("over":Str)≠"waits" by decide)) nx
def Ie{l:pR}{V:qH}{c z:Str}(h:(l.mS z).Nodup):(yf l V c z).Nodup:=by
 unfold yf;split
 .cases(vk (l.mS z) (zy V z)).filter λx=>hasS (uG l V c z) x with
  | nil=>exact eU
  | cons y r=>exact d6.mpr ⟨dQ,eU⟩
 .exact h.sublist gh
def NZ(ps:T0 (Str×Int))(z:Str)(n:Int)(y:Str):(CN ps z n).find? (λp=>decide (p.1=y))=if y=z then Fa (z,n)else ps.find? λp=>decide (p.1=y):=by
 unfold CN;by_cases h:ps.any (λp=>decide (p.1=z))=pc
 .rw[dw h];induction ps with
  | nil=>cases h
  | cons p r ih=>
   rw[eh,fN,fN];by_cases hp:p.1=z
   .rw[dw hp];by_cases hy:y=z
    .rw[dw hy,hy];simp[hp]
    .rw[dh hy];have n1:decide (p.1=y)=lf:=e9 (λq=>hy (q.symm.trans hp));simp only[n1];by_cases hr:r.any (λp=>decide (p.1=z))=pc
     .have:=ih hr;rw[dh hy]at this;exact this
     .have hr:∀q∈r,¬q.1=z:=λq hq g=>hr (fY.mpr ⟨q,hq,eA g⟩);rw[show r.map (λp=>if p.1=z then(p.1,n)else p)=r from(gC λq hq=>dh (hr q hq)).trans (jz _)]
   .rw[dh hp];have hr:r.any (λp=>decide (p.1=z))=pc:=by
     rw[fR,ib]at h;rcases h with g|g
     .exact absurd (fU g) hp
     .exact g
    have ih:=ih hr;by_cases hy:y=z
    .rw[dw hy]at ih ⊢;have n1:decide (p.1=y)=lf:=e9 (λq=>hp (q.trans hy));simp only[n1];exact ih
    .rw[dh hy]at ih ⊢;cases decide (p.1=y)with
     | true=>rfl
     | false=>exact ih
 .rw[dh h,List.find?_append];have hr:∀q∈ps,¬q.1=z:=λq hq g=>h (fY.mpr ⟨q,hq,eA g⟩);by_cases hy:y=z
  .subst hy;rw[dw Z',ic.mpr λq hq=>by simpa using hr q hq,Option.none_or];simp
  .rw[dh hy,fN,e9 (λq:z=y=>hy q.symm)];simp
def Mu{V:qH}{z:Str}{n:Int}(h:uF l V)(h0:0<=n)(h1:n<=((l.mS z).length:Int)):uF l (qy V (.next z n)):=λy hy ht=>by
 show ∃v,(CN V.ps z n).find? _=Fa v/\_;rw[NZ];by_cases e:y=z
 .subst e;rw[dw Z'];exact⟨_,Z',h0,h1⟩
 .rw[dh e];exact h y hy ht
def Fw{V:qH}(h:sD l V x=pc):(uT V x:Int)<wm l x:=fU h
def K6{V V':qH}{o:Option Nat}{i:Nat}{c:pM}{w x:Str}(wf:Ae l V o)(hc:V.calls[i]?=Fa c)(e:V'.calls=V.calls.set i (c.over w))(hx:BA c x):Dp V' x:=λd hd g=>by
 rw[e]at hd;obtain⟨j,hj,ed⟩:=g9 hd;have ej:(V.calls.set i (c.over w))[j]?=Fa d:=by rw[dg hj,ed]
 rcases E7 ej with⟨_,rfl,_⟩|⟨Yc,ej⟩
 .exact Hv Z' g
 .exact Yc (wf.un j i d c x ej hc g hx)
def Le{V V':qH}{i:Nat}{c:pM}{w x:Str}(hc:V.calls[i]?=Fa c)(e:V'.calls=V.calls.set i (c.over w))(hx:c.hasB x=pc):uT V' x+1=uT V x:=by
 have:=Fp (λk:pM=>k.hasB x) (c.over w) hc;unfold uT;rw[e];simp only[hx,jv,Ha (c:=c.over w) Z']at this
 simpa using this
def GA{V V':qH}{o:Option Nat}{i j:Nat}{c d:pM}{ms:QQQ}(wf:Ae l V o)(ho:o=Db\/o=Fa i)(hc:V.calls[i]?=Fa c)(hd:V.calls[j]?=Fa d)(YM:i≠j)(e:V'.calls=(V.calls.set i (c.over "merged")).set j (d.mem ms))(nx:uF l V')(dt:d.st="talks")(m1:ms.Nodup)(m2:ms.length=2\/ms.length=3)(m3:∀x∈ms,x∈d.ms\/(BA c x/\c.hasB x=pc))(m4:∀x∈ms,x∈l.pn):WF l V':=by
 have e1:(xR V i (·.over "merged")).calls=V.calls.set i (c.over "merged"):=rK hc;have w1:WF l (xR V i (·.over "merged")):=xp wf hc ho (by decide) e1 wf.nx;have hd1:(xR V i (·.over "merged")).calls[j]?=Fa d:=by rw[e1,fg YM];exact hd
 have kd:=w1.ok j d hd1;have kd':d.hd=Db/\d.wd=Db/\d.at_=[]:=by
  rcases kd.sh with g|⟨_,g|g|⟨_,g⟩|g⟩
  .rw[dt]at g;exact absurd g.1 (by decide)
  .rw[dt]at g;exact absurd g.1 (by decide)
  .exact⟨g.2.2.1,g.2.2.2.1,g.2.2.2.2⟩
  .rw[dt]at g;exact absurd g.1 (by decide)
  .rw[dt]at g;exact absurd g.1 (by decide)
 refine w1.set (c':=d.mem ms) (by rw[e,e1]) hd1 (λ_ _=>rfl) ⟨.inr ⟨Z',.inr (.inl ⟨dt,m2,kd'.1,kd'.2.1,kd'.2.2⟩)⟩,kd.cr,kd.at_,m4,kd.an,m1,kd.ca,kd.wy⟩ (λx g=>?_) (λx g=>?_) (λx g=>?_) nx
 .have g:=(uc (c:=d.mem ms) dt).mp g;rcases m3 x g with y|y
  .exact .inl ((uc dt).mpr y)
  .exact .inr (K6 wf hc e1 y.1)
 .have g:=(tF (c:=d.mem ms) (.inl dt)).mp g;rcases m3 x g with y|y
  .exact .inl ((tF (.inl dt)).mpr y)
  .have:=Le hc e1 y.2;have:=wf.ln x (m4 x g);exact .inr (by lia)
 .have:=(sE.mp g).1;rw[show(d.mem ms).st="talks" from dt]at this;exact absurd this (by decide)
def Te{V V1:qH}{i:Nat}{c:pM}{e:wA}(ok:sj l)(wf:Ae l V1 (Fa i))(same:zN V V1)(hc:V1.calls[i]?=Fa c)(he:Ho l V c.cr e):WF l (qS V1 (tY l V1 i e)):=by
 obtain⟨p1,p2,p3,p4,p5⟩:=Xa wf hc;have k:=wf.ok i c hc;have hi:=(dv.mp hc).1;cases e with
 | rings z ps=>
  obtain⟨hz,Yc,rfl⟩:=he;obtain⟨⟨q1,q2,q3,q4⟩,_⟩:=ok.of hz;obtain⟨r1,r2⟩:=GM (l:=l) (V:=V) (c:=c.cr) (z:=z);generalize hps:yf l V c.cr z=ps at Yc r1 r2;have XX:∀V2:qH,V2.calls=V1.calls->uF l V2->WF l (qy V2 (.rings i ps)):=λV2 e2 nx=>by
   have e3:(qy V2 (.rings i ps)).calls=V1.calls.set i (c.ring ps):=by show(xR (qV V2 _) i _).calls=_;rw[rK (c:=c) (by show V2.calls[i]?=_;rw[e2];exact hc)];show V2.calls.set i _=_;rw[e2]
   have free:∀x∈ps,sD l V x=pc/\x≠c.cr:=λx hx=>by have h:=(fM.mp (r1 x hx).1).2;simp only[d9,gP]at h;exact⟨h.2,by simpa using h.1⟩
   refine wf.set e3 hc BC ⟨.inl ⟨Z',p2,p3,p4,(λh=>by cases h),λ_=>Yc⟩,k.cr,λx hx=>q4 x (r1 x hx).2,k.ms,by rw[<-hps];exact Ie q3,k.mn,λhx=>(free _ hx).2 Z',k.wy⟩ (λx g=>?_) (λx g=>?_) (λx g=>?_) nx
   .exact .inl ((sX p1).mpr ((sX (c:=c.ring ps) Z').mp g))
   .rcases(sZ (c:=c.ring ps) Z').mp g with y|y
    .exact .inl ((sZ p1).mpr (.inl y))
    .refine .inr ?_;rw[same.used];exact Fw (free x y).1
   .exact absurd (sE.mp g).1 (show("rings":Str)≠"waits" by decide)
  show WF l (qS V1 ((if (l.m9 z=="turns")=pc then _ else _)++[.rings i ps]));rw[rW];by_cases ht:(l.m9 z=="turns")=pc
  .rw[dw ht];have lp:0<(l.mS z).length:=fG.mpr q1;refine XX _ Z' (Mu wf.nx (fi _ (by lia)) (Int.le_of_lt (eY _ (by lia))))
  .rw[dh ht];exact XX V1 Z' wf.nx
 | waits z=>
  obtain⟨hz,Yc,hw⟩:=he;have e3:(qy V1 (.waits i z)).calls=V1.calls.set i (c.wait z):=rK (V:=qV V1 _) hc;have hw1:AM V1 z=lf:=by
   unfold AM at hw ⊢;have key:∀cs:List pM,cs.any (·.mZ z)=(cs.map pM.core).any (·.mZ z):=λcs=>by rw[j8];rfl
   rw[key,same,<-key];exact hw
  refine wf.set e3 hc BC ⟨.inr ⟨Z',.inl ⟨Z',p2,p3,p4,Z'⟩⟩,k.cr,λx hx=>by rw[dI.mp hx];exact hz,k.ms,d6.mpr ⟨dQ,eU⟩,k.mn,λhx=>Yc (dI.mp hx).symm,k.wy⟩ (λx g=>?_) (λx g=>?_) (λx g=>?_) wf.nx
  .exact .inl ((sX p1).mpr ((D8 (c:=c.wait z) Z').mp g))
  .exact .inl ((sZ p1).mpr (.inl ((Ef (c:=c.wait z) Z').mp g)))
  .have:=(sE.mp g).2;rw[dI.mp this];exact .inr hw1
 | breaks z=>
  obtain⟨x,rfl,hb⟩:=he;obtain⟨j,d0,t1,t2,t3,t4,t5,t6⟩:=Hl hb;have ht:vY V1 z=Fa j:=by
   rw[<-t1];unfold vY;have key:∀cs:List pM,cs.findIdx? (·.nj z)=(cs.map pM.core).findIdx? (·.nj z):=λcs=>by rw[ik];rfl
   rw[key,same,<-key]
  obtain⟨d,ed,ec⟩:∃d,V1.calls[j]?=Fa d/\d.core=d0.core:=by
   have:=eZ (·[j]?) same;simp only[dM,t2]at this;cases q:V1.calls[j]? with
   | none=>rw[q]at this;cases this
   | some d=>rw[q]at this;exact⟨d,Z',dD this⟩
  have ds:d.st="talks":=by rw[show d.st=d0.st from show d.core.st=d0.core.st by rw[ec]];exact t3
  have dm:d.ms=d0.ms:=show d.core.ms=d0.core.ms by rw[ec]
  have YM:i≠j:=λy=>by subst y;rw[hc]at ed;cases ed;rw[p1]at ds;exact absurd ds (by decide)
  have hee:tY l V1 i (.breaks z)=[.merge i j (d.ms++[c.cr])]:=by unfold tY;dsimp only;rw[ht,hc];dsimp only;rw[ed];rfl
  rw[hee];have ncr:c.cr∉d.ms:=λy=>YM (wf.un i j c d c.cr hc ed ((sX p1).mpr Z') ((uc ds).mpr y));have kd:=wf.ok j d ed;refine GA (V':=qy V1 (.merge i j (d.ms++[c.cr]))) (ms:=d.ms++[c.cr]) wf (.inr Z') hc ed YM ?_ wf.nx ds ?_ (.inr ?_) (λx hx=>?_) (λx hx=>?_)
  .show(V1.calls.modify i _).modify j _=_;rw[ue hc,ue (show(V1.calls.set i _)[j]?=Fa d by rw[fg YM];exact ed)]
  .refine gx.mpr ⟨kd.mn,d6.mpr ⟨dQ,eU⟩,λx hx y hy q=>ncr ?_⟩;rw[dI.mp hy]at q;rw[<-q];exact hx
  .rw[dq,dm,t5];rfl
  .rcases eF.mp hx with y|y
   .exact .inl y
   .rw[dI.mp y];exact .inr ⟨(sX p1).mpr Z',(sZ p1).mpr (.inl Z')⟩
  .rcases eF.mp hx with y|y
   .exact kd.ms x y
   .rw[dI.mp y];exact k.cr
 | engaged z=>exact xp (V':=qy V1 (.over i "engaged")) wf hc (.inr Z') (by decide) (rK (V:=qV V1 _) hc) wf.nx
 | barred=>exact xp (V':=qy V1 (.over i "barred")) wf hc (.inr Z') (by decide) (rK (V:=qV V1 _) hc) wf.nx
 | ring ns=>exact xp (V':=qy V1 (.over i "ring")) wf hc (.inr Z') (by decide) (rK (V:=qV V1 _) hc) wf.nx
def RA{V:qH}{i:Nat}{k:pM}(ok:sj l)(wf:Ae l V (Fa i))(hk:V.calls[i]?=Fa k):WF l (qS V (xG l V i)):=by
 have YT:=wf.ok i k hk;unfold xG;rw[hk];dsimp only[Option.elim];obtain⟨z,hz⟩:∃z,k.way.getLast?=Fa z:=by
  cases e:k.way.getLast? with
  | none=>exact absurd (gS.mp e) YT.wy.1
  | some z=>exact⟨z,Z'⟩
 rw[show k.way.getLastD Str.empty=z by rw[iE,hz];rfl];have ro:yk l V k.cr (l.nm.length+1) [] (vh l V k.cr z k.way.dropLast):=zC ok _ _ _ _ (YT.wy.2 z (jo hz)) λx hx=>YT.wy.2 x (jp _ hx);generalize vh l V k.cr z k.way.dropLast=R at ro;obtain⟨e,st⟩:=R;have snm:∀s∈st,s.1∈l.nm:=λs hs=>(ro.nm s hs).elim (λh=>by cases h) id;have w1:=C4 i st Db wf snm;have Yt:=vM i st Db V;rw[rW,rW];dsimp only;have XX:∀V1:qH,Ae l V1 (Fa i)->ug V V1->WF l (qS V1 (tY l V i e)):=λV1 w s=>by
  rw[<-s.ends];obtain⟨c',e1,e2⟩:=s.at_ hk;have hcr:c'.cr=k.cr:=show c'.bare.cr=k.bare.cr by rw[e2]
  exact Te ok w s.core e1 (by rw[hcr];exact ro.e)
 cases e with
 | ring ns=>
  obtain⟨x,ns',rfl⟩:=gk (show ns≠[]from ro.e);cases hl:st.getLast? with
  | none=>rw[show ux i st (.ring (x::ns'))=[]by unfold ux;dsimp only;rw[hl];rfl];exact XX _ w1 Yt
  | some s0=>rw[show ux i st (.ring (x::ns'))=[.leg ⟨i,s0.1,x,s0.1⟩]by unfold ux;dsimp only;rw[hl];rfl];exact XX _ (Ic (v:=⟨i,s0.1,x,s0.1⟩) w1 (ro.wy _ Z' x dY)) (Yt.trans (zu _ _))
 | rings _ _=>exact XX _ w1 Yt
 | waits _=>exact XX _ w1 Yt
 | breaks _=>exact XX _ w1 Yt
 | engaged _=>exact XX _ w1 Yt
 | barred=>exact XX _ w1 Yt
def IV{V:qH}{y z:Str}(wf:WF l V)(hy:y∈l.pn)(hz:z∈l.nm)(hi:Dp V y)(hf:sD l V y=pc):Ae l (qS V [.new V.calls.length y,.leg ⟨V.calls.length,y,z,y⟩]) (Fa V.calls.length):=by
 have e:(qS V [.new V.calls.length y,.leg ⟨V.calls.length,y,z,y⟩]).calls=V.calls++[(zO y).go z]:=by show(V.calls++[zO y]).modify V.calls.length _=_;rw[ue (c:=zO y) (by rw[fj (dE _),iq];rfl),kG _ _ (dE _),iq];rfl
 refine wf.add e ⟨.inl ⟨Z',Z',Z',Z',λ_=>rfl,(λh=>by cases h)⟩,hy,(λx h=>by cases h),(λx h=>by cases h),eU,eU,(λh=>by cases h),fF _ _,λx h=>by rw[dI.mp h];exact hz⟩ (λx h=>?_) (λx h=>?_) (λx=>?_) wf.nx
 .rw[(sX (c:=(zO y).go z) Z').mp h];exact hi
 .rcases(sZ (c:=(zO y).go z) Z').mp h with g|g
  .rw[g];exact Fw hf
  .cases g
 .cases q:((zO y).go z).mZ x with
  | false=>rfl
  | true=>exact absurd (sE.mp q).1 (show("rings":Str)≠"waits" by decide)
def NC{V:qH}{y z:Str}:∃k,(qS V [.new V.calls.length y,.leg ⟨V.calls.length,y,z,y⟩]).calls[V.calls.length]?=Fa k:=by
 have:V.calls.length<(qS V [.new V.calls.length y,.leg ⟨V.calls.length,y,z,y⟩]).calls.length:=by show V.calls.length<((V.calls++[zO y]).modify _ _).length;rw[gu,dq];exact fP _
 exact⟨_,dg this⟩
def Fo{V:qH}{i:Nat}{c:pM}{x y:Str}{fs:T0 Nat}(wf:WF l V)(hc:V.calls[i]?=Fa c)(hs:c.st="rings")(hy:y∈l.nm):Ae l (qS V [.asks i x fs,.quiet i,.leg ⟨i,x,y,x⟩]) (Fa i):=by
 refine Ic (v:=⟨i,x,y,x⟩) ?_ hy;have k:=wf.ok i c hc;have w1:WF l (qy V (.asks i x fs)):=Fy wf;have sh:c.ms=[]/\c.hd=Db/\c.wd=Db:=by
  rcases k.sh with g|⟨_,g|g|⟨_,g⟩|g⟩
  .exact⟨g.2.1,g.2.2.1,g.2.2.2.1⟩
  all_goals(rw[hs]at g;exact absurd g.1 (by decide))
 refine w1.set (i:=i) (c:=c) (c':=c.nV) (rK (V:=qV (qy V (.asks i x fs)) _) hc) hc (λj hj=>(BC j hj).symm) ?_ (λx g=>.inl ?_) (λx g=>.inl ?_) (λx g=>?_) wf.nx
 .rw[fE];exact⟨.inl ⟨hs,sh.1,sh.2.1,sh.2.2,λ_=>rfl,(λh=>by cases h)⟩,k.cr,(λx h=>by cases h),k.ms,eU,k.mn,(λh=>by cases h),k.wy⟩
 .exact(sX hs).mpr ((sX (c:=c.nV) hs).mp g)
 .rcases(sZ (c:=c.nV) hs).mp g with y|y
  .exact(sZ hs).mpr (.inl y)
  .cases y
 .have:=(sE.mp g).1;rw[show c.nV.st="rings" from hs]at this;exact absurd this (by decide)
inductive VZ(l:pR)(V:qH)(i:Nat):List Nat->Prop
 | no:VZ l V i []
 | on (c:pM) (k:Nat) (r:List Nat) (b:Bool) (x y:Str) (n:Int):V.calls[i]?=Fa c->c.st="rings"->l.mU[k]?=Fa (b,.silent x y n)->c.way.getLast?=Fa x->y∈l.nm->VZ l V i (k::r)
def II{V:qH}(ok:sj l):VZ l V i (zM l V i):=by
 unfold zM;cases e:V.calls[i]? with
 | none=>exact .no
 | some c=>
  dsimp only[Option.elim];by_cases hs:(c.st=="rings")=pc
  .rw[dw hs];cases q:HK l V (Hn c)with
   | nil=>exact .no
   | cons k r=>
    obtain⟨⟨b,w⟩,e1,e2⟩:=FN (i:=k) (by rw[q];exact dY);cases w with
    | silent x y n=>unfold Hn at e2;rw[d9,fh]at e2;exact .on c k r b x y n e (wE hs) e1 e2.1 (Ck ok (fD e1) (z:=Str.empty) Z')
    | _=>cases e2
  .rw[dh hs];exact .no
def Al{l:pR}{V:qH}{i k:Nat}{r:T0 Nat}{b:Bool}{x y:Str}{n:Int}(h:l.mU[k]?=Fa (b,.silent x y n)):uz l V i (k::r)=[.asks i x (k::r),.quiet i,.leg ⟨i,x,y,x⟩]++xG l (qS V [.asks i x (k::r),.quiet i,.leg ⟨i,x,y,x⟩]) i:=by unfold uz;simp only[List.head?_cons,j6,h]
def Ge{V:qH}{i:Nat}{c:pM}{x y:Str}{fs:T0 Nat}(h:V.calls[i]?=Fa c):(qS V [.asks i x fs,.quiet i,.leg ⟨i,x,y,x⟩]).calls[i]?=Fa (c.nV.go y):=by show((V.calls.modify i pM.nV).modify i _)[i]?=_;rw[jq,jq,h];simp
def JC{V:qH}(ok:sj l)(wf:WF l V):WF l (qS V (uz l V i (zM l V i))):=by
 have d:=II (V:=V) (i:=i) ok;generalize zM l V i=fs at d;cases d with
 | no=>exact wf
 | on c k r b x y n hc hs hk hw hy=>rw[Al hk,rW];exact RA ok (Fo wf hc hs hy) (Ge hc)
theorem FT(ok:sj l):∀(is:T0 Nat) {V:qH},WF l V->WF l (qS V (so l is V))
 | [],_,wf=>wf
 | i::r,V,wf=>by unfold so;rw[rW];exact FT ok r (JC ok wf)
theorem Ea(l:pR)(i:Nat):∀(is:T0 Nat) (V:qH),so l (is++[i]) V=so l is V++uz l (qS V (so l is V)) i (zM l (qS V (so l is V)) i)
 | [],V=>by show uz l V i _++[]=[]++_;rw[fk];rfl
 | j::r,V=>by show uz l V j _++so l (r++[i]) _=(uz l V j _++so l r _)++_;rw[Ea l i r,fC,show so l (j::r) V=uz l V j (zM l V j)++so l r (qS V (uz l V j (zM l V j)))from Z',rW]
def um{x y:Str}:y∈rX ss x↔y∈ss/\y≠x:=by unfold rX;rw[fM,gP,gB]
theorem xY{x:Str}:∀{ss:QQQ},ss.Nodup->x∈ss->(rX ss x).length+1=ss.length
 | [],_,h=>by cases h
 | y::r,nd,h=>by
  have nd:=d6.mp nd;unfold rX;rw[gY];by_cases e:y=x
  .subst e;rw[show(!(y==y))=lf by simp,dh (by decide),lb.mpr λz hz=>by
    have:z≠y:=λq=>nd.1 (q ▸ hz)
    simpa using this]
   rfl
  .have h:x∈r:=by
    rcases dC.mp h with q|q
    .exact absurd q.symm e
    .exact q
   rw[dw (by simpa using e)];have:=xY nd.2 h;unfold rX at this;rw[eK,eK,this]
def OO{V:qH}{i:Nat}{c:pM}{x:Str}(wf:WF l V)(hc:V.calls[i]?=Fa c)(hl:c.nN x=pc):WF l (qS V (xc V x i)):=by
 have k:=wf.ok i c hc;unfold xc;rw[hc];dsimp only[Option.elim];by_cases h1:c.ng x=pc
 .rw[dw h1];exact xp (V':=qy V (.over i "left")) wf hc (.inl Z') (by decide) (rK (V:=qV V _) hc) wf.nx
 .rw[dh h1];have e1:(qy V (.leaves i x)).calls=V.calls.set i (c.drop x):=rK (V:=qV V _) hc;by_cases h2:hasS c.at_ x=pc
  .rw[dw h2];by_cases h3:rX c.at_ x=[]
   .rw[dw h3];refine xp (V':=qy (qy V (.leaves i x)) (.over i "refused")) wf hc (.inl Z') (by decide) (w:="refused") ?_ wf.nx;have h4:(qy V (.leaves i x)).calls[i]?=Fa (c.drop x):=by rw[e1,eW (dv.mp hc).1]
    show(xR (qV (qy V (.leaves i x)) _) i _).calls=_;rw[rK (V:=qV (qy V (.leaves i x)) _) h4];show(qy V (.leaves i x)).calls.set i _=_;rw[e1,ji];rfl
   .rw[dh h3];have hs:c.st="rings"/\c.ms=[]/\c.hd=Db/\c.wd=Db:=by
     rcases k.sh with g|⟨_,g|g|⟨_,g⟩|g⟩
     .exact⟨g.1,g.2.1,g.2.2.1,g.2.2.2.1⟩
     .exfalso;have:=xY k.an (qN.mp h2);rw[g.2.2.2.2]at this;exact h3 (gA.mp (by lia))
     .rw[g.2.2.2.2]at h2;cases h2
     .rw[g.2.2.2.2.2]at h2;cases h2
     .rw[g.2.2.2.1]at h2;cases h2
    refine wf.set (V':=qy V (.leaves i x)) (c':=c.drop x) e1 hc (λ_ _=>rfl) ⟨.inl ⟨hs.1,by show rX c.ms x=[];rw[hs.2.1];rfl,hs.2.2.1,hs.2.2.2,(λh=>by cases h),λ_=>h3⟩,k.cr,λy hy=>k.at_ y (um.mp hy).1,λy hy=>k.ms y (um.mp hy).1,k.an.sublist gh,k.mn.sublist gh,λhy=>k.ca (um.mp hy).1,k.wy⟩ (λy g=>?_) (λy g=>?_) (λy g=>?_) wf.nx
    .exact .inl ((sX hs.1).mpr ((sX (c:=c.drop x) hs.1).mp g))
    .refine .inl ((sZ hs.1).mpr (((sZ (c:=c.drop x) hs.1).mp g).imp id λh=>(um.mp h).1))
    .have:=(sE.mp g).1;rw[show(c.drop x).st="rings" from hs.1]at this;exact absurd this (by decide)
  .rw[dh h2];by_cases h3:2<c.ms.length
   .rw[dw h3];have hx:x∈c.ms:=by unfold pM.nN at hl;rw[dB.mpr h1,dB.mpr h2,fK,fK]at hl;exact qN.mp hl
    have hs:c.st="talks"/\c.ms.length=3/\c.hd=Db/\c.wd=Db/\c.at_=[]:=by
     rcases k.sh with g|⟨_,g|g|⟨_,g⟩|g⟩
     .rw[g.2.1]at h3;cases h3
     .rw[g.2.1]at h3;cases h3
     .exact⟨g.1,g.2.1.elim (λq=>by lia) id,g.2.2⟩
     .omega
     .rw[g.2.1]at h3;cases h3
    have dl:=xY k.mn hx;refine wf.set (V':=qy V (.leaves i x)) (c':=c.drop x) e1 hc (λ_ _=>rfl) ⟨.inr ⟨Z',.inr (.inl ⟨hs.1,.inl (by show(rX c.ms x).length=2;lia),hs.2.2.1,hs.2.2.2.1,by show rX c.at_ x=[];rw[hs.2.2.2.2];rfl⟩)⟩,k.cr,λy hy=>k.at_ y (um.mp hy).1,λy hy=>k.ms y (um.mp hy).1,k.an.sublist gh,k.mn.sublist gh,λhy=>k.ca (um.mp hy).1,k.wy⟩ (λy g=>?_) (λy g=>?_) (λy g=>?_) wf.nx
    .exact .inl ((uc hs.1).mpr (um.mp ((uc (c:=c.drop x) hs.1).mp g)).1)
    .exact .inl ((tF (.inl hs.1)).mpr (um.mp ((tF (c:=c.drop x) (.inl hs.1)).mp g)).1)
    .have:=(sE.mp g).1;rw[show(c.drop x).st="talks" from hs.1]at this;exact absurd this (by decide)
   .rw[dh h3];exact xp (V':=qy V (.over i "done")) wf hc (.inl Z') (by decide) (rK (V:=qV V _) hc) wf.nx
def Ko{V:qH}{i:Nat}{c:pM}(wf:WF l V)(hc:V.calls[i]?=Fa c)(hx:hasS c.at_ x=pc)(hi:Dp V x)(hf:c.mZ x=pc->sD l V x=pc):WF l (qy V (.talks i [c.cr,x])):=by
 have k:=wf.ok i c hc;have hx:=qN.mp hx;have Yc:c.cr≠x:=λq=>k.ca (q ▸ hx);have hs:(c.st="rings"\/c.st="waits")/\c.wd=Db:=by
  rcases k.sh with g|⟨_,g|g|⟨_,g⟩|g⟩
  .exact⟨.inl g.1,g.2.2.2.1⟩
  .exact⟨.inr g.1,g.2.2.2.1⟩
  .rw[g.2.2.2.2]at hx;cases hx
  .rw[g.2.2.2.2.2]at hx;cases hx
  .rw[g.2.2.2.1]at hx;cases hx
 have ec:BA c c.cr/\c.hasB c.cr=pc:=by
  rcases hs.1 with g|g
  .exact⟨(sX g).mpr Z',(sZ g).mpr (.inl Z')⟩
  .exact⟨(D8 g).mpr Z',(Ef g).mpr Z'⟩
 refine wf.set (V':=qy V (.talks i [c.cr,x])) (c':=c.nQ [c.cr,x]) (rK (V:=qV V _) hc) hc (λ_ _=>rfl) ⟨.inr ⟨Z',.inr (.inl ⟨Z',.inl Z',Z',hs.2,Z'⟩)⟩,k.cr,(λy h=>by cases h),(λy h=>?_),eU,?_,(λh=>by cases h),k.wy⟩ (λy g=>?_) (λy g=>?_) (λy g=>?_) wf.nx
 .rcases dC.mp h with g|g
  .rw[g];exact k.cr
  .rw[dI.mp g];exact k.at_ x hx
 .exact d6.mpr ⟨λh=>Yc (dI.mp h),d6.mpr ⟨dQ,eU⟩⟩
 .rcases dC.mp ((uc (c:=c.nQ [c.cr,x]) Z').mp g)with h|h
  .rw[h];exact .inl ec.1
  .rw[dI.mp h];exact .inr hi
 .rcases dC.mp ((tF (c:=c.nQ [c.cr,x]) (.inl Z')).mp g)with h|h
  .rw[h];exact .inl ec.2
  .rw[dI.mp h];rcases hs.1 with q|q
   .exact .inl ((sZ q).mpr (.inr hx))
   .exact .inr (Fw (hf (sE.mpr ⟨q,hx⟩)))
 .exact absurd (sE.mp g).1 (show("talks":Str)≠"waits" by decide)
def AB{c:pM}{x:Str}:c.ni x=pc↔c.st="talks"/\x∈c.ms/\c.ms.length=2:=by unfold pM.ni pM.nj;rw[d9,d9,fh,qN,fh,and_assoc]
def Nw{c:pM}(k:wn l lf c)(h:c.st="talks"):c.hd=Db/\c.wd=Db/\c.at_=[]:=by
 rcases k.sh with g|⟨_,g|g|⟨_,g⟩|g⟩
 .rw[h]at g;exact absurd g.1 (by decide)
 .rw[h]at g;exact absurd g.1 (by decide)
 .exact g.2.2
 .rw[h]at g;exact absurd g.1 (by decide)
 .rw[h]at g;exact absurd g.1 (by decide)
def FP{c:pM}{x:Str}(k:wn l lf c)(h:c.hd=Fa x):c.st="held"/\c.ms.length=2/\x∈c.ms/\c.wd=Db/\c.at_=[]:=by
 rcases k.sh with g|⟨_,g|g|⟨y,g⟩|g⟩
 .rw[h]at g;cases g.2.2.1
 .rw[h]at g;cases g.2.2.1
 .rw[h]at g;cases g.2.2.1
 .have e:=g.2.2.1;rw[h]at e;cases e;exact⟨g.1,g.2.1,g.2.2.2⟩
 .rw[h]at g;cases g.2.2.1
def Qc{V:qH}{i:Nat}{c:pM}{x:Str}(wf:WF l V)(hc:V.calls[i]?=Fa c)(hx:c.ni x=pc):WF l (qy V (.held i x)):=by
 have k:=wf.ok i c hc;obtain⟨h1,h2,h3⟩:=AB.mp hx;obtain⟨s1,s2,s3⟩:=Nw k h1;refine wf.set (V':=qy V (.held i x)) (c':=c.hold x) (rK (V:=qV V _) hc) hc (λ_ _=>rfl) ⟨.inr ⟨Z',.inr (.inr (.inl ⟨x,Z',h3,Z',h2,s2,s3⟩))⟩,k.cr,k.at_,k.ms,k.an,k.mn,k.ca,k.wy⟩ (λy g=>.inl ?_) (λy g=>.inl ?_) (λy g=>?_) wf.nx
 .exact(uc h1).mpr ((Cd (c:=c.hold x) Z').mp g).1
 .exact(tF (.inl h1)).mpr ((tF (c:=c.hold x) (.inr Z')).mp g)
 .exact absurd (sE.mp g).1 (show("held":Str)≠"waits" by decide)
def Pm{V:qH}{i:Nat}{c:pM}{x:Str}(wf:WF l V)(hc:V.calls[i]?=Fa c)(hx:c.hd=Fa x)(hi:Dp V x):WF l (qy V (.talks i c.ms)):=by
 have k:=wf.ok i c hc;obtain⟨h1,h2,h3,h4,h5⟩:=FP k hx;refine wf.set (V':=qy V (.talks i c.ms)) (c':=c.nQ c.ms) (rK (V:=qV V _) hc) hc (λ_ _=>rfl) ⟨.inr ⟨Z',.inr (.inl ⟨Z',.inl h2,Z',h4,Z'⟩)⟩,k.cr,(λy h=>by cases h),k.ms,eU,k.mn,(λh=>by cases h),k.wy⟩ (λy g=>?_) (λy g=>.inl ?_) (λy g=>?_) wf.nx
 .have g:=(uc (c:=c.nQ c.ms) Z').mp g;by_cases e:y=x
  .rw[e];exact .inr hi
  .exact .inl ((Cd h1).mpr ⟨g,λq=>e (dD (q.symm.trans hx))⟩)
 .exact(tF (.inr h1)).mpr ((tF (c:=c.nQ c.ms) (.inl Z')).mp g)
 .exact absurd (sE.mp g).1 (show("talks":Str)≠"waits" by decide)
def Ez{c:pM}{x:Str}(nd:c.ms.Nodup)(h2:c.ms.length=2)(hx:x∈c.ms):qI c x∈c.ms/\qI c x≠x:=by
 have dl:=xY nd hx;obtain⟨y,r,e⟩:=List.exists_cons_of_length_pos (show 0<(rX c.ms x).length by lia);have hm:y∈rX c.ms x:=by rw[e];exact dY
 unfold qI;rw[e];exact um.mp hm
def JN{V:qH}{i j:Nat}{c d:pM}{w x:Str}(wf:WF l V)(hc:V.calls[i]?=Fa c)(hd:V.calls[j]?=Fa d)(h1:c.hd=Fa x)(h2:d.ni x=pc):i≠j/\WF l (qy V (.merge i j (if (w=="hand")=pc then[qI c x,qI d x]else[x,qI c x,qI d x]))):=by
 have k:=wf.ok i c hc;have kd:=wf.ok j d hd;obtain⟨c1,c2,c3,c4,c5⟩:=FP k h1;obtain⟨d1,d2,d3⟩:=AB.mp h2;obtain⟨a1,a2⟩:=Ez k.mn c2 c3;obtain⟨b1,b2⟩:=Ez kd.mn d3 d2;have YM:i≠j:=λq=>by subst q;rw[hc]at hd;cases hd;rw[c1]at d1;exact absurd d1 (by decide)
 refine⟨YM,?_⟩;have ea:BA c (qI c x):=(Cd c1).mpr ⟨a1,λq=>a2 (dD (q.symm.trans h1))⟩;have ab:qI c x≠qI d x:=λq=>YM (wf.un i j c d _ hc hd ea (by rw[q];exact(uc d1).mpr b1));generalize hms:(if (w=="hand")=pc then[qI c x,qI d x]else[x,qI c x,qI d x])=ms;have mm:∀y∈ms,y=x\/y=qI c x\/y=qI d x:=λy hy=>by
  rw[<-hms]at hy;split at hy
  .rcases dC.mp hy with g|g
   .exact .inr (.inl g)
   .exact .inr (.inr (dI.mp g))
  .rcases dC.mp hy with g|g
   .exact .inl g
   .rcases dC.mp g with g|g
    .exact .inr (.inl g)
    .exact .inr (.inr (dI.mp g))
 have n2:[qI c x,qI d x].Nodup:=d6.mpr ⟨λh=>ab (dI.mp h),d6.mpr ⟨dQ,eU⟩⟩;refine GA (V':=qy V (.merge i j ms)) (ms:=ms) wf (.inl Z') hc hd YM ?_ wf.nx d1 ?_ ?_ (λy hy=>?_) (λy hy=>?_)
 .show(V.calls.modify i _).modify j _=_;rw[ue hc,ue (show(V.calls.set i _)[j]?=Fa d by rw[fg YM];exact hd)]
 .rw[<-hms];split
  .exact n2
  .refine d6.mpr ⟨λh=>?_,n2⟩;rcases dC.mp h with g|g
   .exact a2 g.symm
   .exact b2 (dI.mp g).symm
 .rw[<-hms];split
  .exact .inl Z'
  .exact .inr Z'
 .rcases mm y hy with g|g|g
  .rw[g];exact .inl d2
  .rw[g];exact .inr ⟨ea,(tF (.inr c1)).mpr a1⟩
  .rw[g];exact .inl b1
 .rcases mm y hy with g|g|g
  .rw[g];exact k.ms x c3
  .rw[g];exact k.ms _ a1
  .rw[g];exact kd.ms _ b1
def S5{V:qH}{i:Int}(h:wV V.calls.length i=pc):∃c,V.calls[i.toNat]?=Fa c:=by unfold wV at h;rw[d9,eC,eC]at h;exact⟨_,dg (by lia)⟩
def Fj{V:qH}{b:Bool}(h:(if ((rM V x).isNone&&b)=pc then Fa ("full":Str)else rM V x)=Db):rM V x=Db/\b=lf:=by
 cases e:rM V x with
 | some w=>rw[e]at h;cases h
 | none=>
  rw[e]at h;cases b with
  | true=>cases h
  | false=>exact⟨Z',Z'⟩
inductive D6(l:pR)(V:qH)(x:Str):Str->List Int->Prop
 | answer (i:Int) (c:pM):0<=i->V.calls[i.toNat]?=Fa c->hasS c.at_ x=pc->Dp V x->(c.mZ x=pc->sD l V x=pc)->D6 l V x "answer" [i]
 | hang (i:Int) (c:pM):0<=i->V.calls[i.toNat]?=Fa c->c.nN x=pc->D6 l V x "hang" [i]
 | hold (i:Int) (c:pM):0<=i->V.calls[i.toNat]?=Fa c->c.ni x=pc->D6 l V x "hold" [i]
 | back (i:Int) (c:pM):0<=i->V.calls[i.toNat]?=Fa c->c.hd=Fa x->Dp V x->D6 l V x "back" [i]
 | two (w:Str) (i j:Int) (c d:pM):0<=i->0<=j->w="hand"\/w="join"->V.calls[i.toNat]?=Fa c->V.calls[j.toNat]?=Fa d->c.hd=Fa x->d.ni x=pc->D6 l V x w [i,j]
def IL{V:qH}{w x:Str}(f:(tE.num w x ns).nC)(h:wu l V (.num w x ns)=Db):x∈l.pn/\D6 l V x w ns:=by
 have hp:hasS l.pn x=pc:=by
  cases q:hasS l.pn x with
  | true=>rfl
  | false=>unfold wu at h;dsimp only at h;rw[dw q]at h;cases h
 refine⟨qN.mp hp,?_⟩;unfold wu at h;dsimp only at h;rw[dh (by rw[hp];decide)]at h;unfold Br at h;cases q1:ns.all (wV V.calls.length)with
 | false=>rw[dw q1]at h;cases h
 | true=>
 rw[dh (by rw[q1];decide)]at h;cases q2:D3 w x (tw V ns)with
 | false=>rw[dw q2]at h;cases h
 | true=>
 rw[dh (by rw[q2];decide)]at h;have z:∀i∈ns,0<=i/\∃c,V.calls[i.toNat]?=Fa c:=λi hi=>by have g:=eV.mp q1 i hi;refine⟨?_,S5 g⟩;unfold wV at g;rw[d9,eC]at g;exact g.1
 rcases f with⟨fw,fl⟩|⟨fw,fl⟩
 .match ns,fl with
  | [i],_=>
   obtain⟨hi,c,hc⟩:=z i dY;have ec:tw V [i]=[c]:=by unfold tw;rw[gg,hc];rfl
   rw[ec]at h q2;rcases fw with rfl|rfl|rfl|rfl
   .rw[dh (by decide)]at h;obtain⟨h1,h2⟩:=Fj h;refine .answer i c hi hc q2 (FB h1) λhw=>?_;have h2:(c.mZ x&&!(sD l V x))=lf:=h2;rw[hw]at h2
    simpa using h2
   .exact .hang i c hi hc q2
   .exact .hold i c hi hc q2
   .rw[dh (by decide)]at h;exact .back i c hi hc (wE q2) (FB (Fj h).1)
 .match ns,fl with
  | [i,j],_=>
   obtain⟨hi,c,hc⟩:=z i dY;obtain⟨hj,d,hd⟩:=z j (dN _ dY);have ec:tw V [i,j]=[c,d]:=by unfold tw;rw[gg,hc];dsimp only;rw[gg,hd];rfl
   rw[ec]at q2;have q3:((c.hd==Fa x)&&d.ni x)=pc:=by rcases fw with rfl|rfl<;>exact q2
   rw[d9]at q3;exact .two w i j c d hi hj fw hc hd (wE q3.1) q3.2
def FM{V:qH}{y z:Str}(h:wu l V (.call y z)=Db):y∈l.pn/\z∈l.nm/\Dp V y/\sD l V y=pc:=by
 unfold wu at h;dsimp only at h;cases q:hasS l.pn y with
 | false=>rw[dw q]at h;cases h
 | true=>
 rw[dh (by rw[q];decide)]at h;unfold Cw at h;cases q1:hasS l.nm z with
 | false=>rw[dw q1]at h;cases h
 | true=>
 rw[dh (by rw[q1];decide)]at h;obtain⟨h1,h2⟩:=Fj h;exact⟨qN.mp q,qN.mp q1,FB h1,by simpa using h2⟩
def UY{V:qH}{b:Bool}{i:Int}(h:wu l V (.sw b i)=Db):0<=i/\i.toNat<V.on.length:=by
 unfold wu Q0 at h;dsimp only at h;cases q:wV V.on.length i with
 | false=>rw[dw q]at h;cases h
 | true=>unfold wV at q;rw[d9,eC,eC]at q;lia
def zP{V:qH}{w x:Str}{i:Nat}{c:pM}(h:V.calls[i]?=Fa c):FL V w x i=if (w=="answer")=pc then .talks i [c.cr,x]else if (w=="hold")=pc then .held i x else .talks i c.ms:=by unfold FL;rw[h];rfl
def IP{V:qH}{w x:Str}{i j:Nat}{c d:pM}(h:V.calls[i]?=Fa c)(g:V.calls[j]?=Fa d):G2 V w x i j=.merge i j (if (w=="hand")=pc then[qI c x,qI d x]else[x,qI c x,qI d x]):=by unfold G2;rw[h,g];rfl
def Ux{V:qH}{e:tE}(ok:sj l)(wf:WF l V)(f:e.nC)(h:wu l V e=Db):WF l (qS V (xB l V e)):=by
 cases e with
 | call y z=>obtain⟨h1,h2,h3,h4⟩:=FM h;obtain⟨k,hk⟩:=NC (V:=V) (y:=y) (z:=z);show WF l (qS V (_++xG l _ _));rw[rW];exact RA ok (IV wf h1 h2 h3 h4) hk
 | turn=>exact FT ok _ (F7 wf)
 | sw b i=>exact U9 wf
 | num w x ns=>
  obtain⟨_,n⟩:=IL f h;cases n with
  | answer i c hi hc h1 h2 h3=>show WF l (qy V (FL V "answer" x i.toNat));rw[zP hc];exact Ko wf hc h1 h2 h3
  | hang i c hi hc h1=>exact OO wf hc h1
  | hold i c hi hc h1=>show WF l (qy V (FL V "hold" x i.toNat));rw[zP hc];exact Qc wf hc h1
  | back i c hi hc h1 h2=>show WF l (qy V (FL V "back" x i.toNat));rw[zP hc];exact Pm wf hc h1 h2
  | two _ i j c d hi hj hw hc hd h1 h2=>show WF l (qy V (G2 V w x i.toNat j.toNat));rw[IP hc hd];exact(JN wf hc hd h1 h2).2
def QQ(a:Ad):rB:=λds M Q=>K' λM0 b A V l c n x i k=>ds=[.ref b,.str x,.int ((i:Nat):Int)]/\uQ a M0 M b A V l c n/\c<=1000000/\n<=7000000/\V.calls[i]?=Fa k/\∀M' A',uQ a M0 M' b A' (qS V (xc V x i)) l c (n+2)->rf A M A' M'->Q .mY M'
def Qs(a:Ad):rB:=λds M Q=>IS λA V l L k c=>ds=[.ref A.b,.ref (rT.p k)]/\Rd a M A V l/\sf a M L k c/\Q (wU (HK l V (Hn c))) M
def QU(a:Ad):rB:=λds M Q=>K' λM0 b A V l c n i k r=>ds=[.ref b,.int ((i:Nat):Int),wU (k::r)]/\uQ a M0 M b A V l c n/\c<=1000000/\n<=6900000/\WF l V/\VZ l V i (k::r)/\∀M' A',uQ a M0 M' b A' (qS V (uz l V i (k::r))) l c (n+33)->rf A M A' M'->Q .mY M'
def O7(a:Ad):rB:=λds M Q=>Uk λM0 b A V l c n=>ds=[.ref b]/\uQ a M0 M b A V l c n/\c<=10000/\n<=6000000/\WF l V/\∀M' A',uQ a M0 M' b A' (qS V (ER l V)) l c (n+1+33*c)->rf A M A' M'->Q .mY M'
def Tu{a:Ad}{M:Mp}{c:pM}{v:Wi}{r:Uf}{Q:DK}(h:M r=Fa (.ins (v.cls a) v.nS))(hk:sf a M L k c)(q:Q (.bl (Hn c v)) M):L6 a v [.ref r,.ref k.p] M Q:=by
 cases v with
 | silent x y n=>exact⟨r,L,k,c,Z',h,hk,q⟩
 | _=>exact⟨_,_,Z',q⟩
def P0:Fq P w K mg base 4 a.ba (QQ a):=by
 refine fq G.ba.toDG CL (λr u=>⟨_,(pF (pU 3 CL (pS (pK v0) U2))
 (pG (pV (sR (qh U3 G.e.toCls G.Y (C1 G) r (qz U1)))
 (pG (pY (qh v0 G.c.toCls G.k (rq G) r (qz (pW (rc pJ U2 pJ))))))
 (pG (pV (pN u U1 (pK U3))
 (pF (pY (qh v0 G.c.toCls G.k (rq G) r (qz (pW (rc pJ U2 U1)))))
 (pG (pV (pN u (qa qD Z' G.g qB (qz (pK U3))) pI)
 (pG (pY (qh v0 G.c.toCls G.k (rq G) r (qz (pW (rc pJ U2 pJ))))))
 pO)))
 (pG (pV (pN u (qa qD Z' G.g qB (qz (pK U3))) pI)
 (pG (pY (qh v0 G.c.toCls G.k (rq G) r (qz (pW (rc pJ U2 U1))))))
 (pG (pY (qh v0 G.c.toCls G.k (rq G) r (qz (pW (rc pJ U2 pJ))))))))))))),?_⟩)
 rintro ds M Q ⟨M0,b,A,V,l,cc,n,x,i,c,rfl,cu,hcc,hn,hc,q⟩
 obtain⟨ka,ci⟩:=cu.call hc;obtain⟨ad,md,h1,h2,h3,h4,n1,n2⟩:=ci.cell;have hi:=(dv.mp hc).1;refine pH cu.at_ (i' Z' (i' Z' (i' ci.bd.ca (i' (qX ci.e1) ?_))));refine pH h1 ⟨Z',_,⟨Z',Z'⟩,_,ka,c,x,Z',ci.cell,?_⟩;unfold xc at q;rw[hc]at q;dsimp only[Option.elim]at q;have over:∀(w0:Str),(∀M' A',uQ a M0 M' b A' (qS V [.over i w0]) l cc (n+2)->rf A M A' M'->Q .mY M')->∀(M1:Mp) (A1:tP),A1.b=A.b->rf A M A1 M1->pX a M1 A1 (qy V (.over i w0))->∃XU,qO XU M1/\Q .mY XU:=λw0 q M1 A1 eb st bd=>⟨M1,.refl,q M1 A1 ((cu.after (e:=.over i w0) hi eb st bd).mono (dE _) (by lia)) st⟩;refine qv (c:=c.ng x) (λg=>?_) (λg=>?_)
 .rw[dw g]at q;exact pH cu.at_ ⟨Z',_,⟨Z',Z'⟩,pD Z',b,A,V,.over i "left",Z',cu.b,cu.bd,cu.lim hcc (by lia),hi,over "left" q⟩
 rw[dh g]at q;refine pH h1 (i' Z' (i' h3 ⟨Z',qm _,?_⟩));show if inD (.str x) (c.at_.map D.str)=pc then _ else _
 rw[rh];refine qv (c:=hasS c.at_ x) (λg2=>?_) (λg2=>?_)
 .rw[dw g2]at q;refine pH cu.at_ ⟨Z',_,⟨Z',Z'⟩,pD Z',b,A,V,.leaves i x,Z',cu.b,cu.bd,cu.lim hcc (by lia),hi,λM1 A1 eb st bd=>?_⟩;have c1:=cu.after (e:=.leaves i x) hi eb st bd;have hcs:(qy V (.leaves i x)).calls=V.calls.set i (c.drop x):=rK (V:=qV V _) hc;have hc1:(qy V (.leaves i x)).calls[i]?=Fa (c.drop x):=by rw[hcs,eW hi]
  obtain⟨ad',md',g1,Z7,g3,g4,_⟩:=c1.bd.cs i ka _ (st.2.2.1 i ka ci.e1) hc1;have le0:((((c.drop x).at_.map D.str).length:Int)==0)=decide (rX c.at_ x=[]):=by rw[de,gf,fh,eC];show((rX c.at_ x).length:Int)=0↔_;rw[<-gA];lia
  refine pH g1 (i' Z' (i' g3 ?_));refine qv (c:=(((c.drop x).at_.map D.str).length:Int)==0) (λg5=>?_) (λg5=>?_)
  .rw[le0,eC]at g5;rw[dw g5]at q;have Zs:i<(qy V (.leaves i x)).calls.length:=(dv.mp hc1).1;refine pH c1.at_ ⟨Z',_,⟨Z',Z'⟩,pD Z',b,A1,_,.over i "refused",Z',c1.b,c1.bd,c1.lim hcc (by lia),Zs,λM2 A2 eb2 Yh Zm=>?_⟩;exact⟨M2,.refl,q M2 A2 (c1.after (e:=.over i "refused") Zs eb2 Yh Zm) (st.trans Yh)⟩
  .rw[le0,eC]at g5;rw[dh g5]at q;exact⟨M1,.refl,q M1 A1 (c1.mono (dE _) (by lia)) st⟩
 .rw[dh g2]at q;refine pH h1 (i' Z' (i' h4 ?_));have lm:decide ((2:Int)<((c.ms.map D.str).length:Int))=decide (2<c.ms.length):=by rw[de,gf,eC,eC];lia
  refine qv (c:=decide ((2:Int)<((c.ms.map D.str).length:Int))) (λg3=>?_) (λg3=>?_)
  .rw[lm,eC]at g3;rw[dw g3]at q;refine pH cu.at_ ⟨Z',_,⟨Z',Z'⟩,pD Z',b,A,V,.leaves i x,Z',cu.b,cu.bd,cu.lim hcc (by lia),hi,λM1 A1 eb st bd=>?_⟩;exact⟨M1,.refl,q M1 A1 ((cu.after (e:=.leaves i x) hi eb st bd).mono (dE _) (by lia)) st⟩
  .rw[lm,eC]at g3;rw[dh g3]at q;exact pH cu.at_ ⟨Z',_,⟨Z',Z'⟩,pD Z',b,A,V,.over i "done",Z',cu.b,cu.bd,cu.lim hcc (by lia),hi,over "done" q⟩
def Py:Fq P w K mg base 2 a.bb (Qs a):=by
 refine fq G.bb.toDG yG (λr u=>⟨_,(pF (pU 2 yG (pK (pK v0)))
 (pG (pL (qp sO Z' G.A sI (qz (qP Z' (yh (ix:=[Db,Db,Fa 2,Fa 1]) (N':=["i","on","wishes","call"])) (xx Z' G.b4 (qz (pK v0))) (ve (n:=2) Z' (qF (qM 0) (qF (qM 1) ub))) (vI (W3.b3 (tq (sR U1) (sL (sR (F' (R:=Gi a) (pS U2 v0) (US G) (r.mono (by first|decide|lia)) (qz U3))))))) v0)))))),?_⟩)
 rintro ds M Q ⟨A,V,l,L,k,c,rfl,rd,hk,q⟩
 obtain⟨ph,gr,ws,Zg,pr,gd,rs,i1,i2,i3,i4,i5,i6,i7,i8⟩:=rd.pl;refine pH rd.bd.at_ (i' Z' (pH i1 (i' Z' ?_)));refine pH rd.bd.at_ (i' Z' (i' rd.bd.on ?_));refine JE (rest:=[Fa (.ref ws),Fa (.ref k.p)]) rd.on rd.ok.pq rd.bd.on (λi w0 ew y kk hkk=>?_) λp hp=>i' pT ⟨M,.new hp,q⟩;obtain⟨r,e1,e2⟩:=BK i8 ew;exact i' i4 (i' e1 (pH e2 ⟨by cases w0.2<;>rfl,_,⟨w0.2,Z',Z'⟩,Tu e2 hk hkk⟩))
def P':Fq P w K mg base 10 a.bc (QU a):=by
 refine fq G.bc.toDG BS (λr u=>⟨_,(pF (pU 3 BS (Cm (R:=Nk a) (pS (pK (pK v0)) (pS U2 pI)) (TV G) (r.mono (by first|decide|lia))))
 (pF (pY (qh v0 G.c.toCls G.k (rq G) r (qz (pW (qg pJ (rc U1 (pS U3 pI) U2))))))
 (pF (pY (qh v0 G.c.toCls G.k (rq G) r (qz (pW (rQ pJ U1)))))
 (pF (pY (qh v0 G.c.toCls G.k (rq G) r (qz (pW (qg pJ (qg U1 (rc (pS U3 pI) (pS U3 pI) (pS U3 pI))))))))
 (pG (pY (pP (J2 G) r G.ae (rQ v0 U1)))))))),?_⟩)
 rintro ds M Q ⟨M0,b,A,V,l,c,n,i,k,r,rfl,cu,hc,hn,wf,du,q⟩
 obtain⟨ph,gr,ws,Zg,pr,gd,rs,i1,i2,i3,i4,i5,i6,i7,i8⟩:=cu.pl;cases du with
 | on k0 _ _ b0 x y m hk hs hw hl hy=>
  have hi:=(dv.mp hk).1;rw[Al hw]at q;rw[rW]at q;obtain⟨r0,e1,e2⟩:=BK i8 hw;refine pH cu.at_ (i' Z' (pH i1 (i' Z' (i' (vX _ _) (i' i4 (i' e1 (pH e2 ⟨Z',_,⟨⟨.silent x y m,Z'⟩,Z'⟩,r0,.silent x y m,Z',e2,?_⟩)))))));refine pH cu.at_ ⟨Z',_,⟨Z',Z'⟩,pD Z',b,A,V,.asks i x (k::r),Z',cu.b,cu.bd,cu.lim hc (by lia),trivial,λM1 A1 eb1 Yv bd1=>?_⟩;have c1:=cu.after (e:=.asks i x (k::r)) trivial eb1 Yv bd1;refine pH c1.at_ ⟨Z',_,⟨Z',Z'⟩,pD Z',b,A1,_,.quiet i,Z',c1.b,c1.bd,c1.lim hc (by lia),hi,λM2 A2 eb2 Yh Zm=>?_⟩;have c2:=c1.after (e:=.quiet i) hi eb2 Yh Zm;have YI:i<(qy (qy V (.asks i x (k::r))) (.quiet i)).calls.length:=by show i<(V.calls.modify i pM.nV).length;rw[gu];exact hi
  refine pH c2.at_ ⟨Z',_,⟨Z',Z'⟩,pD Z',b,A2,_,.leg ⟨i,x,y,x⟩,Z',c2.b,c2.bd,c2.lim hc (by lia),YI,λM3 A3 eb3 YJ bd3=>?_⟩;have c3:=c2.after (e:=.leg ⟨i,x,y,x⟩) YI eb3 YJ bd3;exact⟨M0,b,A3,_,l,c,n+3,i,_,Z',c3,hc,by lia,Fo wf hk hs hy,Ge hk,λM4 A4 c4 st4=>⟨M4,.refl,q M4 A4 (c4.mono (dE _) (by lia)) (Yv.trans (Yh.trans (YJ.trans st4)))⟩⟩
def QP:Fq P w K mg base 11 a.bd (O7 a):=by
 refine fq G.bd.toDG uf (λr u=>⟨_,(pF (pY (qh v0 G.c.toCls G.k (rq G) r (qz (pW (qz pJ)))))
 (pG (uP ft Z' (xx Z' G.b4 (qz (qp tO Z' G.z tK (qz (pK v0))))) (ve (n:=2) Z' (qF (rC 1 uf) (qF (rC 2 uf) ub)))
 (pG (pV (pN u (pK U2) pJ)
 (pF (pU 3 uf (pP (Py G) r G.bb (rQ v0 U2)))
 (pG (pV (pN u (qa qD Z' G.g qB (qz U3)) pI)
 (pG (pY (pP (P' G) r G.bc (rc v0 U1 U3))))
 pO)))
 pO))))),?_⟩)
 rintro ds M Q ⟨M0,b,A,V,l,c,n,rfl,cu,hc,hn,wf,q⟩
 refine pH cu.at_ ⟨Z',_,⟨Z',Z'⟩,pD Z',b,A,V,.turn,Z',cu.b,cu.bd,cu.lim (by lia) (by lia),trivial,λM1 A1 eb st bd=>?_⟩;have c1:=cu.after (e:=.turn) trivial eb st bd;have wf1:=F7 wf;have lv:(qy V .turn).calls.length=V.calls.length:=de ..;have ev:ER l V=.turn::so l (List.range V.calls.length) (qy V .turn):=rfl;rw[ev,<-lv]at q;have q:∀M' A',uQ a M0 M' b A' (qS (qy V .turn) (so l (List.range (qy V .turn).calls.length) (qy V .turn))) l c (n+1+33*c)->rf A M A' M'->Q .mY M':=q;have c1:uQ a M0 M1 b A1 (qy V .turn) l c (n+1):=c1;generalize qy V .turn=V1 at c1 wf1 q bd;refine pH c1.at_ (i' Z' (i' c1.bd.ca λr hr=>i' pT ?_));obtain⟨M2,e0,t,lr⟩:=xl (ds:=A1.cs.map λk=>D.ref k.p) hr;rw[<-e0];have nf:=c1.bd.oa hr;have c2:=c1.sub t;have cl:V1.calls.length<=c:=c1.sz.ca;refine vN (uS 0 (A1.cs.map λk=>D.ref k.p)) (λpre U M'=>(∃A',uQ a M0 M' b A' (qS V1 (so l (List.range pre.length) V1)) l c (n+1+33*pre.length)/\rf A1 M2 A' M')/\∃y1 y2 y3,U=[Fa (.ref b),y1,y2,y3]) (λpre U M' j=>?_) _ [] _ _ Z' ⟨⟨A1,c2,.refl⟩,Db,Db,Db,Z'⟩ ?_ ?_
 .obtain⟨⟨A',c3,YJ⟩,_⟩:=j;exact tD (YJ.1 r _ nf (qE lr))
 .rintro pre d post e U M' ⟨⟨A',c3,YJ⟩,y1,y2,y3,rfl⟩ nx X0
  rw[dq,dX,jj,Ea,rW]at X0;have wf3:=FT cu.ok (List.range pre.length) wf1;generalize qS V1 (so l (List.range pre.length) V1)=V3 at c3 wf3 X0;obtain⟨x,hx,rfl⟩:=JR e;rw[dM]at hx;cases ek:A1.cs[pre.length]? with
  | none=>rw[ek]at hx;cases hx
  | some k=>
   rw[ek]at hx;have hx:D.ref k.p=x:=dD hx;subst hx;have hp:pre.length<c:=by have:=(dv.mp ek).1;rw[c1.bd.len]at this;lia
   have ek3:=YJ.2.2.1 _ k ek;have hi:pre.length<V3.calls.length:=by rw[<-c3.bd.len];exact(dv.mp ek3).1
   have ec:V3.calls[pre.length]?=Fa V3.calls[pre.length]:=dg hi;generalize V3.calls[pre.length]=cv at ec;have ca:=c3.bd.cs _ k cv ek3 ec;obtain⟨ad,md,g1,_⟩:=ca;refine⟨Z',pH g1 (i' Z' ?_)⟩;have hdv:zM l V3 pre.length=if (cv.st=="rings")=pc then HK l V3 (Hn cv)else[]:=by unfold zM;rw[ec];rfl
   have mY:zM l V3 pre.length=[]->∀y1' y2' y3',nx [Fa (.ref b),y1',y2',y3'] M':=λh0 y1' y2' y3'=>X0 _ _ ⟨⟨A',by rw[h0];exact c3.mono (dE _) (by lia),YJ⟩,_,_,_,Z'⟩;have du:=II (V:=V3) (i:=pre.length) cu.ok;refine qv (c:=cv.st=="rings") (λg=>?_) (λg=>mY (by rw[hdv,dh g]) _ _ _);rw[dw g]at hdv;refine⟨A',V3,l,_,k,cv,by rw[c3.b],c3.rd (by lia) wf3,c3.bd.cs _ k cv ek3 ec,?_⟩;rw[<-hdv];cases hdq:zM l V3 pre.length with
   | nil=>exact mY hdq _ _ _
   | cons k0 r0=>rw[hdq]at du X0;refine A9 (eA (by rw[de];show(0:Int)<((k0::r0).length:Nat);rw[eK];lia)) ?_;exact⟨M0,b,A',V3,l,c,_,pre.length,k0,r0,Z',c3,by lia,by lia,wf3,du,λM4 A4 c4 st4=>X0 _ _ ⟨⟨A4,c4.mono (dE _) (by lia),YJ.trans st4⟩,_,_,_,Z'⟩⟩
 .rintro U M' ⟨⟨A',c3,YJ⟩,y1,y2,y3,rfl⟩
  have hl:(uS 0 (A1.cs.map λk=>D.ref k.p)).length=V1.calls.length:=by rw[vt,de,c1.bd.len]
  rw[hl]at c3;exact⟨M',.refl,q M' A' (c3.mono (dE _) (by lia)) (st.trans ((rf.sub t).trans YJ))⟩
inductive Rq(l:pR)(V:qH):tE->Ev->Prop
 | sw (b:Bool) (i:Nat):i<V.on.length->Rq l V (.sw b (i:Nat)) (.sw b i)
 | answer (x:Str) (i:Nat) (c:pM):V.calls[i]?=Fa c->Rq l V (.num "answer" x [(i:Nat)]) (.talks i [c.cr,x])
 | hold (x:Str) (i:Nat) (c:pM):V.calls[i]?=Fa c->Rq l V (.num "hold" x [(i:Nat)]) (.held i x)
 | back (x:Str) (i:Nat) (c:pM):V.calls[i]?=Fa c->Rq l V (.num "back" x [(i:Nat)]) (.talks i c.ms)
 | two (w x:Str) (i j:Nat) (c d:pM):i≠j->w="hand"\/w="join"->V.calls[i]?=Fa c->V.calls[j]?=Fa d->rX c.ms x≠[]->rX d.ms x≠[]->Rq l V (.num w x [(i:Nat),(j:Nat)]) (.merge i j (if (w=="hand")=pc then[qI c x,qI d x]else[x,qI c x,qI d x]))
def Gs(a:Ad):rB:=λds M Q=>FV λA V l e ev=>ds=[.ref A.b,tE.d e]/\Rd a M A V l/\Rq l V e ev/\Q ev.d M
def Sf(a:Ad):rB:=λds M Q=>Uh λM0 b A V l c n e=>ds=[.ref b,tE.d e]/\uQ a M0 M b A V l c n/\c<10000/\n<=5000000/\WF l V/\e.nC/\wu l V e=Db/\∀M' A',uQ a M0 M' b A' (qS V (xB l V e)) l (c+1) (n+40+33*c)->rf A M A' M'->Q .mY M'
def XF(a:Ad)(M0 M:Mp)(b:Uf)(A:tP)(V:qH)(l:pR)(c n:Nat)(e:tE)(Q:DK):Prop:=wu l V e=Db->∀M' A' r,uQ a M0 M' b A' (qS V (xB l V e)) l (c+1) (n+40+33*c)->rf A M A' M'->M' r=Db->Q (.ref r) (pQ M' r (.lst ((xB l V e).map Ev.d)))
def UL(a:Ad):HB:=λds M Q R=>Uh λM0 b A V l c n e=>ds=[.ref b,tE.d e]/\uQ a M0 M b A V l c n/\c<10000/\n<=5000000/\WF l V/\e.nC/\XF a M0 M b A V l c n e Q/\(∀w,wu l V e=Fa w->R a.w (Fa ("word",.str w)) M)
def Rd.call{V:qH}(rd:Rd a M A V l){i:Nat}{c:pM}(e:V.calls[i]?=Fa c):∃k,A.cs[i]?=Fa k/\sf a M (A.lists++V.fo) k c:=by
 have hi:i<A.cs.length:=by rw[rd.bd.len];exact(dv.mp e).1
 exact⟨A.cs[i],dg hi,rd.bd.cs i _ c (dg hi) e⟩
def ze{i:Int}(h:0<=i):∃m:Nat,i=(m:Int):=eI h
def Js{c:pM}{x:Str}(nd:c.ms.Nodup)(h2:c.ms.length=2)(hx:x∈c.ms):rX c.ms x≠[]:=λz=>by have:=xY nd hx;rw[z]at this;simp only[dS]at this;lia
def N8:Fq P w K mg base 2 a.be (Gs a):=by
 refine fq G.be.toDG tT (λr u=>⟨_,(pF (pU 2 tT (pS U1 pI))
 (pF (pV (pN u U2 (pW (rQ pJ pJ)))
 (pG (pL (pW (rQ U2 (pS U1 pI)))))
 pO)
 (pF (pU 3 tT (pS U1 pI))
 (pF (pU 4 tT (pS U1 pI))
 (pF (pU 5 tT (pS (pK v0) v4))
 (pF (pV (pN u U2 pJ)
 (pG (pL (pW (rc pJ v4 (pW (rQ (pK v5) U3))))))
 pO)
 (pF (pV (pN u U2 pJ)
 (pG (pL (pW (rc pJ v4 U3))))
 pO)
 (pF (pV (pN u U2 pJ)
 (pG (pL (pW (rc pJ v4 (qp sO Z' G.A sI (qz (pK v5)))))))
 pO)
 (pF (pU 6 tT (pS U1 pI))
 (pF (pU 7 tT (pW (rQ (qh v5 G.e.toCls G.aB (G5 G) r (qz U3)) (qh (pS (pK v0) v6) G.e.toCls G.aB (G5 G) r (qz U3)))))
 (pF (pV (pN u U2 pJ)
 (pG (pL (pW (qg pJ (rc v4 v6 v7)))))
 pO)
 (pG (pL (pW (qg pJ (rc v4 v6 (qe (pW (qz U3)) v7))))))))))))))))),?_⟩)
 rintro ds M Q ⟨A,V,l,e,ev,rfl,rd,sg,q⟩
 cases sg with
 | sw b i hi=>
  cases b with
  | true=>exact⟨pD Z',Z',Z',pD Z',M,.refl,q⟩
  | false=>exact⟨pD Z',Z',Z',pD Z',M,.refl,q⟩
 | answer x i c hc=>obtain⟨k,ek,ca⟩:=rd.call hc;obtain⟨ad,md,h1,h2,h3,h4,n1,n2⟩:=ca;refine⟨pD Z',Z',Z',?_⟩;refine pH rd.bd.at_ (i' Z' (i' Z' (i' rd.bd.ca (i' (qX ek) ?_))));exact pH h1 (i' Z' ⟨pD Z',pD Z',M,.refl,q⟩)
 | hold x i c hc=>obtain⟨k,ek,ca⟩:=rd.call hc;refine⟨pD Z',Z',Z',?_⟩;refine pH rd.bd.at_ (i' Z' (i' Z' (i' rd.bd.ca (i' (qX ek) ?_))));exact⟨pD Z',M,.refl,q⟩
 | back x i c hc=>obtain⟨k,ek,ca⟩:=rd.call hc;obtain⟨ad,md,h1,h2,h3,h4,n1,n2⟩:=ca;refine⟨pD Z',Z',Z',?_⟩;refine pH rd.bd.at_ (i' Z' (i' Z' (i' rd.bd.ca (i' (qX ek) ?_))));exact pH h1 (i' Z' (i' h4 ⟨pD Z',M,.refl,q⟩))
 | two wd x i j c d YM hw hc hd nc nd=>
  obtain⟨k,ek,ca⟩:=rd.call hc;obtain⟨k',ek',ca'⟩:=rd.call hd;have ca0:=ca;have ca1:=ca';obtain⟨ad,md,h1,h2,h3,h4,n1,n2⟩:=ca0;obtain⟨ad',md',f1,_⟩:=ca1;obtain⟨y1,r1,e1⟩:=gk nc;obtain⟨y2,r2,e2⟩:=gk nd;have o1:qI c x=y1:=by unfold qI;rw[e1];rfl
  have o2:qI d x=y2:=by unfold qI;rw[e2];rfl
  rw[o1,o2]at q;rcases hw with rfl|rfl
  .refine⟨pD Z',Z',Z',?_⟩;refine pH rd.bd.at_ (i' Z' (i' Z' (i' rd.bd.ca (i' (qX ek) ?_))));refine pH h1 ⟨Z',_,⟨Z',Z'⟩,_,k,c,x,y1,r1,Z',ca,(rd.ms c (rg hc)).2,e1,?_⟩;refine pH rd.bd.at_ (i' Z' (i' Z' (i' rd.bd.ca (i' (qX ek') ?_))));refine pH f1 ⟨Z',_,⟨Z',Z'⟩,_,k',d,x,y2,r2,Z',ca',(rd.ms d (rg hd)).2,e2,?_⟩;exact⟨pD Z',pD Z',M,.refl,q⟩
  .refine⟨pD Z',Z',Z',?_⟩;refine pH rd.bd.at_ (i' Z' (i' Z' (i' rd.bd.ca (i' (qX ek) ?_))));refine pH h1 ⟨Z',_,⟨Z',Z'⟩,_,k,c,x,y1,r1,Z',ca,(rd.ms c (rg hc)).2,e1,?_⟩;refine pH rd.bd.at_ (i' Z' (i' Z' (i' rd.bd.ca (i' (qX ek') ?_))));refine pH f1 ⟨Z',_,⟨Z',Z'⟩,_,k',d,x,y2,r2,Z',ca',(rd.ms d (rg hd)).2,e2,?_⟩;exact⟨pD Z',pD Z',fF _ _,by show 1+2<=Ch;have hz:=dR;lia,pD Z',M,.refl,q⟩
def RQ:Fq P w K mg base 12 a.bf (Sf a):=by
 refine fq G.bf.toDG MA (λr u=>⟨_,(pF (pU 2 MA (pS U1 pI))
 (pG (pV (pN u U2 pJ)
 (pG (pY (pP (Mj G) r G.a9 (rc v0 (pS U1 pI) (pS U1 pI)))))
 (pG (pV (pN u U2 pJ)
 (pG (pY (pP (P0 G) r G.ba (rc v0 (pS U1 pI) (pS U1 pI)))))
 (pG (pV (pN u U2 pJ)
 (pG (pY (pP (QP G) r G.bd (qz v0))))
 (pG (pY (qh v0 G.c.toCls G.k (rq G) r (qz (pP (N8 G) r G.be (rQ v0 U1))))))))))))),?_⟩)
 rintro ds M Q ⟨M0,b,A,V,l,c,n,e,rfl,cu,hc,hn,wf,hf,hr,q⟩
 have rd:=cu.rd (by lia) wf;have one:∀(ev:Ev),Rq l V e ev->xB l V e=[ev]->ev.ok V->ev.nw=0->AA (M b) λC fs'=>fs'.lookup ("apply":Str)=Db/\∃sp,(C=a.c/\sp=wx a)/\Gs a [.ref b,e.d] M λd M1=>sp [.ref b,d] M1 λ_ M'=>∃XU,qO XU M'/\Q .mY XU:=λev sg he ok h0=>by refine pH cu.at_ ⟨Z',_,⟨Z',Z'⟩,A,V,l,e,ev,by rw[cu.b],rd,sg,b,A,V,ev,Z',cu.b,cu.bd,cu.lim (by lia) (by lia),ok,λM1 A1 eb st bd=>?_⟩;rw[he]at q;have c1:=cu.after ok eb st bd;rw[h0]at c1;exact⟨M1,.refl,q M1 A1 (c1.mono (by lia) (by lia)) st⟩
 cases e with
 | call y z=>obtain⟨h1,h2,h3,h4⟩:=FM hr;exact⟨M0,b,A,V,l,c,n,y,z,Z',cu,by lia,by lia,IV wf h1 h2 h3 h4,λM' A' c1 st=>⟨M',.refl,q M' A' (c1.mono (by lia) (by lia)) st⟩⟩
 | turn=>exact⟨M0,b,A,V,l,c,n,Z',cu,by lia,by lia,wf,λM' A' c1 st=>⟨M',.refl,q M' A' (c1.mono (by lia) (by lia)) st⟩⟩
 | sw b0 i=>
  obtain⟨h1,h2⟩:=UY hr;obtain⟨i,rfl⟩:=ze h1;cases b0 with
  | true=>exact one (.sw pc i) (.sw pc i h2) Z' h2 Z'
  | false=>exact one (.sw lf i) (.sw lf i h2) Z' h2 Z'
 | num wd x ns=>
  obtain⟨hx,no⟩:=IL hf hr;cases no with
  | answer i c0 hi hc0 h1 h2 h3=>obtain⟨i,rfl⟩:=ze hi;have lt:=(dv.mp hc0).1;exact one (.talks i [c0.cr,x]) (.answer x i c0 hc0) (eZ (λev=>[ev]) (zP hc0)) ⟨lt,by show 2<=100;decide⟩ Z'
  | hang i c0 hi hc0 h1=>obtain⟨i,rfl⟩:=ze hi;exact⟨M0,b,A,V,l,c,n,x,i,c0,Z',cu,by lia,by lia,hc0,λM' A' c1 st=>⟨M',.refl,q M' A' (c1.mono (by lia) (by lia)) st⟩⟩
  | hold i c0 hi hc0 h1=>obtain⟨i,rfl⟩:=ze hi;have lt:=(dv.mp hc0).1;exact one (.held i x) (.hold x i c0 hc0) (eZ (λev=>[ev]) (zP hc0)) lt Z'
  | back i c0 hi hc0 h1 h2=>obtain⟨i,rfl⟩:=ze hi;have lt:=(dv.mp hc0).1;exact one (.talks i c0.ms) (.back x i c0 hc0) (eZ (λev=>[ev]) (zP hc0)) ⟨lt,(cu.sz.cs c0 (rg hc0)).2.2⟩ Z'
  | two _ i j c0 d0 hi hj hw hc0 hd0 h1 h2=>
   obtain⟨i,rfl⟩:=ze hi;obtain⟨j,rfl⟩:=ze hj;have lt:=(dv.mp hc0).1;have lt':=(dv.mp hd0).1;have YM:=(JN (w:=wd) wf hc0 hd0 h1 h2).1;have k0:=wf.ok _ c0 hc0;have k1:=wf.ok _ d0 hd0;obtain⟨_,u2,u3,_⟩:=FP k0 h1;obtain⟨_,v2,v3⟩:=AB.mp h2;have sg:=Rq.two (l:=l) wd x i j c0 d0 YM hw hc0 hd0 (Js k0.mn u2 u3) (Js k1.mn v3 v2);have ok:(Ev.merge i j (if (wd=="hand")=pc then[qI c0 x,qI d0 x]else[x,qI c0 x,qI d0 x])).ok V:=⟨lt,lt',YM,by split;exact(by decide:2<=100);exact(by decide:3<=100)⟩;have he:xB l V (.num wd x [(i:Int),(j:Int)])=[.merge i j (if (wd=="hand")=pc then[qI c0 x,qI d0 x]else[x,qI c0 x,qI d0 x])]:=eZ (λev=>[ev]) (IP hc0 hd0);rcases hw with rfl|rfl
   .exact one _ sg he ok Z'
   .exact one _ sg he ok Z'
def KA:xK P w K mg base (C9 P w) 1 a.I.f a.I.d a.I.p (wR K "word"):=
 Mr G.I.toDG CC λX1 A outer s H E=>EG (O9 (pv 0) (pv 1))
def U6:WW P w K mg base 13 a.L (UL a):=by
 refine VR G.L.toDG IM (by walk_at "m") (λ_ _ _ _ _ _ R hr hR=>⟨_,(pF (pU 2 IM (pP (Cz G) hr G.ad (rQ v0 U1)))
 (pF (pV (pN (Xr hr) U2 rb)
 (pG (KU G.ci (KA G) (hr.mono (by first|decide|lia)) G.I.b G.cj G.I.at_ Z' G.b8 hR (qz U2)))
 pO)
 (pF (pU 3 IM (qa qD Z' G.g qB (qz (pK v0))))
 (pF (pY (pP (RQ G) hr G.bf (rQ v0 U1)))
 (pG (pL (sy (pK v0) (sT U3) tL))))))),?_⟩)
 .rintro ds M Q ⟨M0,b,A,V,l,c,n,e,rfl,cu,hc,hn,wf,hf,q,rr⟩
  refine⟨A,V,l,e,by rw[cu.b],cu.rd (by lia) wf,hf,?_⟩;cases er:wu l V e with
  | some w0=>exact⟨_,Z',rr w0 er⟩
  | none=>
   refine pH cu.at_ (i' Z' (i' cu.bd.lo ?_));refine⟨M0,b,A,V,l,c,n,e,Z',cu,hc,hn,wf,hf,er,λM' A' c1 st=>?_⟩;refine pH c1.at_ (i' Z' (i' c1.bd.lo λp hp=>?_));have hcut:L3.uu ((qS V (xB l V e)).log.map Ev.d) (Fa (((V.log.map Ev.d).length:Nat):Int)) Db=(xB l V e).map Ev.d:=by rw[JY,dZ,Iy _ _ (by rw[dq];lia),List.drop_left]
   rw[hcut];exact⟨_,.refl,q er M' A' p c1 st hp⟩
noncomputable def vZ(g:uE):Bool:=g.2.1==("turns":Str)
def vo(l:pR):T0 (Str×Int):=(l.groups.filter vZ).map λg=>(g.1,0)
def V0(p:Uf)(h:Int)(l:pR)(F:QXQ):qH:=⟨p,h,0,[],[],vo l,l.mU.map (·.1),[],F⟩
def E1(a:Ad):rB:=λds M Q=>FV λb p h F (l:pR)=>ds=[.ref b,.ref p,.int h]/\M b=Fa (.ins a.c [])/\tW a M p l/\sj l/\p≠b/\(∀x∈F,∃c,M x=Fa c)/\∀M' A,A.b=b->sJ b M M'->(∀x∈A.foot,x=b\/M x=Db)->pX a M' A (V0 p h l F)->Q .mY M'
noncomputable def NN(g:D):Bool:=match g with
 | .tup (_::.str m::_)=>m=="turns"
 | _=>lf
def Rj(d:D):D:=.tup [Bg d,.int 0]
def Ij(gs:List uE):((gs.map rL).filter NN).map Rj=(gs.filter vZ).map λg=>D.tup [.str g.1,.int 0]:=by rw[gK,eG];rfl
def KL(l:pR):((l.groups.filter vZ).map λg=>((Sum.inr g.1:rm),D.int 0))=ua (vo l):=by unfold ua vo;rw[eG];rfl
noncomputable def bF(p:Uf)(h:Int)(ca le nx Zn:Uf)(k:Nat):T0 (Str×D):=List.take (α:=Str×D) k [("plan",.ref p),("hour",.int h),("turn",.int 0),("calls",.ref ca),("legs",.ref le),("nexts",.ref nx),("on",.ref Zn)]
def Ob:Fq P w K mg base 1 a.ao (E1 a):=by
 refine fq G.ao.toDG Dw (λr u=>⟨_,(pF (qr v0 U1)
 (pF (qr v0 U2)
 (pF (qr v0 pI)
 (pF (qr v0 (qW tI))
 (pF (qr v0 (qW tI))
 (pF (qr v0 (qp (FZ Z') Z' G.b3 FX (qz (qP Z' (yh (ix:=[Db]) (N':=["group"])) (qL (pK U1)) (qM 0) (vI (pN u (pS v0 pI) pJ)) (pW (rQ (pS v0 pI) pI))))))
 (pF (qr v0 (qp tO Z' G.z tK (qz (pK U1))))
 (pG (qr v0 (qW tI)))))))))),?_⟩)
 rintro ds M Q ⟨b,p,h,F,l,rfl,hb,⟨ph,gr,ws,on,pr,gd,rs,i1,i2,i3,i4,i5,i6,i7,i8⟩,ok,nbp,hF,q⟩
 have hz:=dR;have l2:=ok.g3;refine pH hb ⟨(G.F "plan" Z'),by show 0<1000;decide,?_⟩;have k1:sJ b M (pQ M b (.ins a.c [("plan",.ref p)])):=.put;have b1:pQ M b (.ins a.c [("plan",.ref p)]) b=Fa (.ins a.c [("plan",.ref p)]):=pZ;show uR _ _ _ _ (pQ M b (.ins a.c [("plan",.ref p)]));generalize pQ M b (.ins a.c [("plan",.ref p)])=N1 at k1 b1 ⊢;refine pH b1 ⟨(G.F "hour" Z'),by show 1<1000;decide,?_⟩;have k2:=k1.trans (sJ.put (p:=b) (c:=.ins a.c [("plan",.ref p),("hour",.int h)]));have b2:pQ N1 b (.ins a.c [("plan",.ref p),("hour",.int h)]) b=Fa (.ins a.c [("plan",.ref p),("hour",.int h)]):=pZ;show uR _ _ _ _ (pQ N1 b (.ins a.c [("plan",.ref p),("hour",.int h)]));generalize pQ N1 b (.ins a.c [("plan",.ref p),("hour",.int h)])=N2 at k2 b2 ⊢;refine pH b2 ⟨(G.F "turn" Z'),by show 2<1000;decide,?_⟩;have k3:=k2.trans (sJ.put (p:=b) (c:=.ins a.c (bF p h 0 0 0 0 3)));have b3:pQ N2 b (.ins a.c (bF p h 0 0 0 0 3)) b=Fa (.ins a.c (bF p h 0 0 0 0 3)):=pZ;show uR _ _ _ _ (pQ N2 b (.ins a.c (bF p h 0 0 0 0 3)));generalize pQ N2 b (.ins a.c (bF p h 0 0 0 0 3))=N3 at k3 b3 ⊢;clear k1 k2 b1 b2;refine⟨pD Z',λca hca=>?_⟩;obtain⟨n4,e4,k4,c4,b4⟩:=tJ (fs':=(bF p h ca 0 0 0 4)) (c:=.lst []) b3 hca;refine pH e4 ⟨(G.F "calls" Z'),by show 3<1000;decide,?_⟩;show uR _ _ _ _ (pQ (pQ N3 ca (.lst [])) b (.ins a.c (bF p h ca 0 0 0 4)));generalize pQ (pQ N3 ca (.lst [])) b (.ins a.c (bF p h ca 0 0 0 4))=N4 at k4 c4 b4 ⊢;have ZQ:=k3.trans k4;have z1:M ca=Db:=rR k3 b3 hca;have lc4:oN N4 ca=Fa []:=tD c4;refine⟨pD Z',λle hle=>?_⟩;obtain⟨n5,e5,k5,c5,b5⟩:=tJ (fs':=(bF p h ca le 0 0 5)) (c:=.lst []) b4 hle;refine pH e5 ⟨(G.F "legs" Z'),by show 4<1000;decide,?_⟩;show uR _ _ _ _ (pQ (pQ N4 le (.lst [])) b (.ins a.c (bF p h ca le 0 0 5)));generalize pQ (pQ N4 le (.lst [])) b (.ins a.c (bF p h ca le 0 0 5))=N5 at k5 c5 b5 ⊢;have ZR:=ZQ.trans k5;have z2:M le=Db:=rR ZQ b4 hle;have le5:oN N5 le=Fa []:=tD c5;have mcl:le≠ca:=λz=>by rw[z,qE lc4]at hle;cases hle
 have lc5:=k5.lst (qd lc4 b4) lc4;have p5:=ZR _ _ nbp i1;have g5:=ZR.lst (qd i3 hb) i3;clear k3 k4 k5 ZQ lc4 c4 c5 e4 e5 b3 b4;refine pH p5 (i' Z' (i' g5 ?_));refine tG (f:=Rj) (t:=NN) g5 _ [] _ (by rw[de];simp only[dS];lia) (λd hd k hk=>?_) (λd hd _ k hk=>?_) λq1 YR=>?_
 .obtain⟨v,_,rfl⟩:=dJ.mp hd;exact hk
 .obtain⟨v,_,rfl⟩:=dJ.mp hd;exact⟨pD Z',hk⟩
 rw[eB,Ij];have sq1:=qO.new (c:=.lst ((l.groups.filter vZ).map λg=>D.tup [.str g.1,.int 0])) YR;refine i' pT (i' (wX (λg:uE=>g.1) (λ_=>D.int 0) _) ⟨za (iN (List.Sublist.map _ gh) (iN (jP _ _) ok.nd)),λnx X0=>?_⟩);have z3:M nx=Db:=rR ZR b5 (sq1.none X0);obtain⟨n6,e6,k6,c6,b6⟩:=tJ (fs':=(bF p h ca le nx 0 6)) (c:=.dk ((l.groups.filter vZ).map λg=>((Sum.inr g.1:rm),D.int 0))) (sq1 _ _ b5) X0;refine pH e6 ⟨(G.F "nexts" Z'),by show 5<1000;decide,?_⟩;have k6:=sq1.keep.trans k6;have ZH:wj "nexts" (.ref nx) (bF p h ca le 0 0 5)=(bF p h ca le nx 0 6):=rfl;rw[ZH];generalize pQ (pQ (pQ N5 q1 (.lst ((l.groups.filter vZ).map λg=>D.tup [.str g.1,.int 0]))) nx (.dk ((l.groups.filter vZ).map λg=>((Sum.inr g.1:rm),D.int 0)))) b (.ins a.c (bF p h ca le nx 0 6))=N6 at k6 b6 c6 ⊢;have x6:zr N6 nx=Fa ((l.groups.filter vZ).map λg=>((Sum.inr g.1:rm),D.int 0)):=Ew c6;have kk6:=ZR.trans k6;have lc6:=k6.lst (qd lc5 b5) lc5;have le6:=k6.lst (qd le5 b5) le5;have p6:=kk6 _ _ nbp i1;have o6:=kk6.lst (qd i5 hb) i5;clear ZR k6 lc5 p5 g5 e6 c6;refine pH p6 (i' Z' (i' o6 λZn hon=>?_));have z4:M Zn=Db:=rR kk6 b6 hon;obtain⟨n7,e7,k7,c7,b7⟩:=tJ (fs':=(bF p h ca le nx Zn 7)) (c:=.lst (l.mU.map λw=>D.bl w.1)) b6 hon;refine pH e7 ⟨(G.F "on" Z'),by show 6<1000;decide,?_⟩;have ZH:wj "on" (.ref Zn) (bF p h ca le nx 0 6)=(bF p h ca le nx Zn 7):=rfl;rw[ZH];generalize pQ (pQ N6 Zn (.lst (l.mU.map λw=>D.bl w.1))) b (.ins a.c (bF p h ca le nx Zn 7))=N7 at k7 b7 c7 ⊢;have kk7:=kk6.trans k7;have lc7:=k7.lst (qd lc6 b6) lc6;have le7:=k7.lst (qd le6 b6) le6;have x7:=k7.dk (C5 x6 b6) x6;have lo7:oN N7 Zn=Fa ((l.mU.map (·.1)).map D.bl):=by rw[eG];exact tD c7
 refine⟨pD Z',λlg hlg=>?_⟩;obtain⟨n8,e8,k8,c8,b8⟩:=tJ (fs':=ui (.ref p) h 0 ca le nx Zn lg) (c:=.lst []) b7 hlg;refine pH e8 ⟨(G.F "log" Z'),by show 7<1000;decide,_,.refl,?_⟩;have apart:∀{N:Mp} {x y:Uf} {ds:T0 D},N x=Db->oN N y=Fa ds->x≠y:=λ{N x y ds} h1 h2 z=>by have:=qE h2;rw[<-z,h1]at this;cases this
 have y5:=rR kk7 b7 hlg;refine q _ ⟨b,ca,le,nx,Zn,lg,[]⟩ Z' (kk7.trans k8) (λx hx=>?_) ⟨b8,k8.lst (qd lc7 b7) lc7,k8.lst (qd le7 b7) le7,?_,k8.lst (qd lo7 b7) lo7,tD c8,Z',λi k c e=>by simp at e,?_,d6.mpr ⟨dQ,eU⟩,λx hx=>?_⟩
 rotate_right
 .by_cases z:x=b
  .exact⟨_,by rw[z];exact b8⟩
  .obtain⟨c,e⟩:=hF x hx;exact⟨c,(kk7.trans k8) x c z e⟩
 .have hx:x∈[b,nx,ca,le,Zn,lg]:=by
   unfold tP.foot tP.lists at hx
   simpa using hx
  simp only[dC,dQ,fv]at hx;rcases hx with rfl|rfl|rfl|rfl|rfl|rfl
  .exact .inl Z'
  .exact .inr z3
  .exact .inr z1
  .exact .inr z2
  .exact .inr z4
  .exact .inr y5
 .show zr _ nx=Fa (ua (vo l));rw[<-KL];exact k8.dk (C5 x7 b7) x7
 .have m1:=apart hlg lc7;have m2:=apart hlg le7;have m3:=apart hlg lo7;have m4:=apart hon lc6;have m5:=apart hon le6;show[ca,le,Zn,lg].Nodup;simp only[d6,dC,dQ,fv,fV,not_false_eq_true,eU,and_true];exact⟨⟨dW mcl,dW m4,dW m1⟩,⟨dW m5,dW m2⟩,dW m3⟩
def WI{p:Uf}{F:QXQ}(ok:sj l):WF l (V0 p h l F):=by
 refine⟨λi c e=>by simp[V0]at e,λi j ci cj x e=>by simp[V0]at e,λx hx=>?_,λi j ci cj x e=>by simp[V0]at e,λz hz ht=>?_⟩
 .show((0:Nat):Int)<=wm l x;unfold wm;cases e:l.nB x with
  | none=>exact Int.le_refl _
  | some v=>have:=(ok.po v (gv e)).l1;show(0:Int)<=v.2.1;lia
 .show ∃v,(vo l).find? (λp=>decide (p.1=z))=Fa v/\_;unfold pR.m9 at ht;cases e:l.group z with
  | none=>rw[e]at ht;exact absurd ht (by decide)
  | some g=>
   rw[e]at ht;have hg:=gv e;have hn:g.1=z:=by simpa using my e
   have hm:((g.1,0):Str×Int)∈vo l:=dJ.mpr ⟨g,fM.mpr ⟨hg,ht⟩,Z'⟩;cases q:(vo l).find? (λp=>decide (p.1=z))with
   | none=>exact absurd (ic.mp q _ hm) (by simp[hn])
   | some v=>refine⟨v,Z',?_⟩;obtain⟨g',_,rfl⟩:=dJ.mp (gv q);exact⟨Int.le_refl _,Int.natCast_nonneg _⟩
def Gu(c:pM):D:=.tup [.str c.st,.str c.cr,.tup (c.way.map D.str),.tup (c.at_.map D.str),.tup (c.ms.map D.str),wC c.hd,.int c.si,wC c.wd]
def Bd(V:qH):D:=.tup [.int V.t,.tup (V.calls.map Gu),.tup ((tR V.ps).map AQ),.tup (V.on.map D.bl)]
def PM(a:Ad):rB:=λds M Q=>Di λL k c=>ds=[.ref k.p]/\sf a M L k c/\Q (Gu c) M
def HW(a:Ad):rB:=λds M Q=>z9 λA V=>ds=[.ref A.b]/\pX a M A V/\V.calls.length<=10000/\V.ps.length<=3/\Q (Bd V) M
def D9(ok:sj l):(vo l).length<=3:=by unfold vo;rw[de];exact eE (gL _ _) ok.g3
def Pz:Fq P w K mg base 1 a.bi (PM a):=by
 refine fq G.bi.toDG xE (λr u=>⟨_,(pF (pU 1 xE (pW (rc (qp sO Z' G.A sI (qz (pK v0))) (qp sO Z' G.A sI (qz (pK v0))) (qp sO Z' G.A sI (qz (pK v0))))))
 (pG (pL (qe (qe (pW (rQ (pK v0) (pK v0))) U1) (pW (rc (pK v0) (pK v0) (pK v0))))))),?_⟩)
 rintro ds M Q ⟨L,k,c,rfl,⟨ad,md,h1,h2,h3,h4,_⟩,q⟩
 have hz:=dR;refine pH h1 (i' Z' (i' h2 (pH h1 (i' Z' (i' h3 (pH h1 (i' Z' (i' h4 ⟨pD Z',?_⟩))))))));refine pH h1 (i' Z' (pH h1 (i' Z' ⟨pD Z',fF _ _,by show 2+3<=Ch;lia,?_⟩)));exact pH h1 (i' Z' (pH h1 (i' Z' (pH h1 (i' Z' ⟨pD Z',fF _ _,by show 5+3<=Ch;lia,M,.refl,q⟩)))))
def zb:Fq P w K mg base 2 a.N (HW a):=by
 refine fq G.N.toDG BR (λr u=>⟨_,(pF (pU 1 BR (qp sO Z' G.A sI (qz (qP Z' (yh (ix:=[Db]) (N':=["call"])) (qL (pK v0)) (qM 0) se (pP (Pz G) r G.bi (qz v0))))))
 (pG (pL (pW (qg (pK v0) (rc U1 (qp sO Z' G.A sI (qz (EY Z' (pK v0) Z' G.cX))) (qp sO Z' G.A sI (qz (pK v0))))))))),?_⟩)
 rintro ds M Q ⟨A,V,rfl,bd,Yk,h3,q⟩
 have hz:=dR;refine pH bd.at_ (i' Z' (i' bd.ca ?_));refine BH (A.cs.map λk=>D.ref k.p) (λpre acc U M'=>M=M'/\acc=(V.calls.take pre.length).map Gu/\∃y,U=[y]) (λ_ _ _ M' j=>by rw[<-j.1];exact bd.ca) _ [] [] _ _ Z' ?_ ⟨Z',Z',Db,Z'⟩ ?_ ?_
 .rw[de,bd.len];simp only[dS];lia
 .rintro pre d post e acc U M' ⟨rfl,rfl,y,rfl⟩ k hk
  obtain⟨ka,c,e1,e2,rfl,hc,et⟩:=ym bd e;refine⟨_,ka,c,Z',hc,hk _ _ _ ⟨Z',?_,_,Z'⟩⟩;rw[dq,dX,et,dZ];rfl
 .rintro acc U M' ⟨rfl,rfl,y,rfl⟩ p1 Y8
  rw[de,bd.len,fA];refine i' pT ?_;obtain⟨M1,e0,s1,_⟩:=xl (ds:=V.calls.map Gu) Y8;rw[<-e0];refine pH (s1 _ _ bd.at_) (i' Z' (pH (s1 _ _ bd.at_) (i' Z' ⟨V.ps,s1.dk bd.nx,h3,λS hS=>i' pT ?_⟩)));have s2:=s1.trans (qO.new (c:=.lst ((tR V.ps).map AQ)) hS);generalize pQ M1 S (.lst ((tR V.ps).map AQ))=M2 at s2 ⊢;exact pH (s2 _ _ bd.at_) (i' Z' (i' (s2.lst bd.on) ⟨pD Z',M,s2,q⟩))
def Ev.noT:Ev->Prop
 | .turn=>False
 | .sw _ _=>False
 | _=>True
def Ev.noN:Ev->Prop
 | .next _ _=>False
 | _=>True
theorem FY:∀{es:T0 Ev} {V:qH},(∀e∈es,e.noN)->(qS V es).ps=V.ps
 | [],_,_=>rfl
 | e::r,V,h=>(FY (es:=r) (V:=qy V e) λx hx=>h x (dN _ hx)).trans (by have:=h e dY;cases e<;>first|rfl|cases this)
theorem CZ(i:Nat):∀(st:tX) (q:Option Str),∀e∈rS i q st,e.noT/\e.noN
 | [],_,e,h=>by unfold rS at h;cases h
 | (y,gs)::r,Db,e,h=>by
  rcases dC.mp (show e∈Ev.asks i y gs::rS i (Fa y) r from h)with rfl|h
  .exact⟨trivial,trivial⟩
  .exact CZ i r _ e h
 | (y,gs)::r,Fa u,e,h=>by
  rcases dC.mp (show e∈Ev.leg ⟨i,u,y,u⟩::Ev.asks i y gs::rS i (Fa y) r from h)with rfl|h
  .exact⟨trivial,trivial⟩
  rcases dC.mp h with rfl|h
  .exact⟨trivial,trivial⟩
  .exact CZ i r _ e h
def Q3{st:tX}:∀e∈ux i st en,e.noT/\e.noN:=λe h=>by
 unfold ux at h;cases en with
 | ring ns=>
  dsimp only at h;cases q:st.getLast? with
  | none=>rw[q]at h;cases h
  | some s0=>rw[q]at h;rw[dI.mp h];exact⟨trivial,trivial⟩
 | _=>cases h
def Qf{ps:T0 (Str×Int)}{z:Str}{n:Int}(h:ps.any (λp=>decide (p.1=z))=pc):(CN ps z n).length=ps.length:=by unfold CN;rw[dw h,de]
def SS{V V1:qH}(nx:uF l V1)(he:GO l V i en):(qS V1 (tY l V i en)).ps.length=V1.ps.length:=by
 cases en with
 | rings z ps=>
  show(qS V1 ((if (l.m9 z=="turns")=pc then[Ev.next z (Rz (l.mS z) (ps.headD Str.empty))]else[])++[.rings i ps])).ps.length=_;rw[rW];by_cases ht:(l.m9 z=="turns")=pc
  .rw[dw ht];refine Qf ?_;obtain⟨v,e,_⟩:=nx z he.1 ht;exact fY.mpr ⟨v,gv e,by simpa using my e⟩
  .rw[dh ht];rfl
 | breaks z=>
  unfold tY;dsimp only;split
  .rfl
  .rfl
 | waits z=>rfl
 | engaged z=>rfl
 | barred=>rfl
 | ring ns=>rfl
def Rv{V:qH}{i:Nat}{k:pM}(ok:sj l)(wf:Ae l V (Fa i))(hk:V.calls[i]?=Fa k):(qS V (xG l V i)).ps.length=V.ps.length:=by
 have YT:=wf.ok i k hk;unfold xG;rw[hk];dsimp only[Option.elim];obtain⟨z,hz⟩:∃z,k.way.getLast?=Fa z:=by
  cases e:k.way.getLast? with
  | none=>exact absurd (gS.mp e) YT.wy.1
  | some z=>exact⟨z,Z'⟩
 rw[show k.way.getLastD Str.empty=z by rw[iE,hz];rfl];have ro:yk l V k.cr (l.nm.length+1) [] (vh l V k.cr z k.way.dropLast):=zC ok _ _ _ _ (YT.wy.2 z (jo hz)) λx hx=>YT.wy.2 x (jp _ hx);have eo:=Nn ok wf hk ro.e;generalize vh l V k.cr z k.way.dropLast=R at eo;obtain⟨e,st⟩:=R;have e1:(qS (qS V (rS i Db st)) (ux i st e)).ps=V.ps:=(FY λx hx=>(Q3 x hx).2).trans (FY λx hx=>(CZ i st Db x hx).2);rw[rW,rW];refine(SS (λz hz ht=>?_) eo).trans (eZ List.length e1);rw[e1];exact wf.nx z hz ht
theorem Je(ok:sj l):∀(is:T0 Nat) {V:qH},WF l V->(qS V (so l is V)).ps.length=V.ps.length
 | [],V,_=>by unfold so;rfl
 | i::r,V,wf=>by
  unfold so;rw[rW];refine(Je ok r (JC ok wf)).trans ?_;have d:=II (V:=V) (i:=i) ok;generalize zM l V i=fs at d;cases d with
  | no=>rfl
  | on c k r b x y n hc hs hk hw hy=>rw[Al hk,rW];exact Rv ok (Fo wf hc hs hy) (Ge hc)
def Ve{V:qH}{e:tE}(ok:sj l)(wf:WF l V)(f:e.nC)(h:wu l V e=Db):(qS V (xB l V e)).ps.length=V.ps.length:=by
 cases e with
 | call y z=>obtain⟨h1,h2,h3,h4⟩:=FM h;obtain⟨k,hk⟩:=NC (V:=V) (y:=y) (z:=z);show(qS V (_++xG l _ _)).ps.length=_;rw[rW];exact Rv ok (IV wf h1 h2 h3 h4) hk
 | turn=>exact Je ok _ (F7 wf)
 | sw b i=>rfl
 | num w x ns=>
  refine eZ List.length (FY λev hev=>?_);obtain⟨_,n⟩:=IL f h;cases n with
  | answer i c hi hc h1 h2 h3=>rw[dI.mp (show ev∈[FL V "answer" x i.toNat]from hev),zP hc];trivial
  | hang i c hi hc h1=>
   have hev:ev∈xc V x i.toNat:=hev;unfold xc at hev;rw[hc]at hev;dsimp only[Option.elim]at hev;split at hev
   .rw[dI.mp hev];trivial
   split at hev
   .rcases dC.mp hev with rfl|hev
    .trivial
    split at hev
    .rw[dI.mp hev];trivial
    .cases hev
   split at hev
   .rw[dI.mp hev];trivial
   .rw[dI.mp hev];trivial
  | hold i c hi hc h1=>rw[dI.mp (show ev∈[FL V "hold" x i.toNat]from hev),zP hc];trivial
  | back i c hi hc h1 h2=>rw[dI.mp (show ev∈[FL V "back" x i.toNat]from hev),zP hc];trivial
  | two _ i j c d hi hj hw hc hd h1 h2=>rw[dI.mp (show ev∈[G2 V w x i.toNat j.toNat]from hev),IP hc hd];trivial
theorem Aw(n:Nat):∀ss:QQQ,(ss.map D.str).all (tM n)=pc
 | []=>rfl
 | s::r=>by rw[eh,eL,Aw n r];cases n<;>rfl
theorem DZ(n:Nat):∀ss:T0 Nat,(ss.map λi=>D.int (i:Nat)).all (tM n)=pc
 | []=>rfl
 | s::r=>by rw[eh,eL,DZ n r];cases n<;>rfl
theorem Gv(n:Nat):∀ss:T0 Bool,(ss.map D.bl).all (tM n)=pc
 | []=>rfl
 | s::r=>by rw[eh,eL,Gv n r];cases n<;>rfl
def P9(e:Ev):tM 6 e.d=pc:=by
 have t:∀ss:QQQ,tM 5 (names ss)=pc:=λss=>Aw 4 ss;have u:∀ss:T0 Nat,tM 5 (wU ss)=pc:=λss=>DZ 4 ss;cases e with
 | asks i z ns=>show([D.str "asks",.int (i:Nat),.str z,wU ns].all (tM 5))=pc;simp only[eL,u];rfl
 | merge i j ms=>show([D.str "merge",.int (i:Nat),.int (j:Nat),names ms].all (tM 5))=pc;simp only[eL,t];rfl
 | rings i ps=>show([D.str "rings",.int (i:Nat),names ps].all (tM 5))=pc;simp only[eL,t];rfl
 | talks i ps=>show([D.str "talks",.int (i:Nat),names ps].all (tM 5))=pc;simp only[eL,t];rfl
 | _=>rfl
def Ou{n:Nat}(V:qH):tM (n+4) (Bd V)=pc:=by
 have c1:∀c∈V.calls,tM (n+2) (Gu c)=pc:=λc hc=>by
  have h0:∀o:Option Str,tM (n+1) (wC o)=pc:=λo=>by cases o<;>rfl
  have t:∀ss:QQQ,tM (n+1) (.tup (ss.map D.str))=pc:=λss=>Aw n ss;show([D.str c.st,.str c.cr,.tup (c.way.map D.str),.tup (c.at_.map D.str),.tup (c.ms.map D.str),wC c.hd,.int c.si,wC c.wd].all (tM (n+1)))=pc;simp only[eL,t,h0];rfl
 have c2:tM (n+3) (.tup (V.calls.map Gu))=pc:=by show(V.calls.map Gu).all (tM (n+2))=pc;rw[j3,eV];exact c1
 have c3:tM (n+3) (.tup ((tR V.ps).map L3.AQ))=pc:=by show((tR V.ps).map L3.AQ).all (tM (n+2))=pc;rw[j3,eV];exact λx _=>rfl
 have c4:tM (n+3) (.tup (V.on.map D.bl))=pc:=Gv (n+2) _;show([D.int V.t,.tup (V.calls.map Gu),.tup ((tR V.ps).map L3.AQ),.tup (V.on.map D.bl)].all (tM (n+3)))=pc;simp only[eL,c2,c3,c4];rfl
noncomputable def BB(c:pM):QQQ:=if (c.st=="talks"||c.st=="held")=pc then c.ms else c.cr::c.at_
def KJ(a:Ad):rB:=λds M Q=>Di λL k c=>ds=[.ref (rT.p k)]/\sf a M L k c/\c.at_.length<=100/\∀r M',qO M M'->oN M' r=Fa ((BB c).map D.str)->Q (.ref r) M'
def MV(V:qH)(YW:QQQ):T0 Nat:=(List.range V.calls.length).filter λi=>(V.calls[i]?).elim lf λc=>hasS YW c.st
def OH(a:Ad):rB:=λds M Q=>Au λA V l YW=>ds=[.ref A.b,.tup (List.map D.str YW)]/\Rd a M A V l/\∀r M',qO M M'->oN M' r=Fa ((MV V YW).map λn=>D.int (n:Nat))->Q (.ref r) M'
def SU(V:qH)(YW:QQQ):D->Bool
 | .int n=>(V.calls[n.toNat]?).elim lf λc=>hasS YW c.st
 | _=>lf
def Ke:Fq P w K mg base 1 a.bu (KJ a):=by
 refine fq G.bu.toDG DU (λr u=>⟨_,(pF (pV (W3.b3 (ut (pN u (pK v0) pJ) (tH (pN u (pK v0) pJ))))
 (pG (pL (qp tO Z' G.z tK (qz (pK v0)))))
 pO)
 (pG (pL (qe (qW (qz (pK v0))) (qp tO Z' G.z tK (qz (pK v0))))))),?_⟩)
 rintro ds M Q ⟨L,k,c,rfl,⟨ad,md,h1,h2,h3,h4,_⟩,ha,q⟩
 have hz:=dR;unfold BB at q;refine pH h1 (i' Z' (qv (c:=c.st=="talks") (λg=>?_) (λg=>?_)))
 .rw[g,gU,dw Z']at q;exact pH h1 (i' Z' (i' h4 λr hr=>⟨_,.refl,q r _ (.new hr) pT⟩))
 rw[dB.mpr g,fK]at q;refine pH h1 (i' Z' (qv (c:=c.st=="held") (λg=>?_) (λg=>?_)))
 .rw[dw g]at q;exact pH h1 (i' Z' (i' h4 λr hr=>⟨_,.refl,q r _ (.new hr) pT⟩))
 rw[dh g]at q;refine pH h1 (i' Z' ⟨pD Z',λr1 YA=>?_⟩);obtain⟨M1,e0,t1,l1⟩:=xl (ds:=[D.str c.cr]) YA;rw[<-e0];show AA (M1 k.p) _;refine pH (t1 _ _ h1) (i' Z' (i' (t1.lst h3) λr2 Zu=>?_));have t2:=qO.new (c:=.lst (c.at_.map D.str)) Zu;refine i' (t2.lst l1) (i' pT ⟨?_,λr3 hr3=>⟨_,.refl,q r3 _ (t1.trans (t2.trans (.new hr3))) pT⟩⟩);rw[de];show 1+c.at_.length<=Ch;lia
def Pk:Fq P w K mg base 1 a.bv (OH a):=by
 refine fq G.bv.toDG Bx (λr u=>⟨_,(pG (pL (qP Z' (yh (ix:=[Db,Fa 0,Fa 1]) (N':=["_law_k","_law_board","_law_states"])) (wN Z' G.aV (qz (qa qD Z' G.g qB (qz (pK v0))))) (qM 0) (vI (pN u (pK (pS (pK U1) v0)) U2)) v0))),?_⟩)
 rintro ds M Q ⟨A,V,l,YW,rfl,rd,q⟩
 have hz:=dR;have lc:((A.cs.map λk=>D.ref k.p).length:Int)=(V.calls.length:Nat):=by rw[de,rd.bd.len]
 have hb:=rd.k;refine pH rd.bd.at_ (i' Z' (i' rd.bd.ca ?_));rw[lc];refine⟨Z',⟨by lia,by lia⟩,?_⟩;refine tG (f:=id) (t:=SU V YW) trivial _ [] _ (by rw[de,eM];simp only[dS];lia) (λd hd k hk=>?_) (λd hd _ k hk=>?_) λr hr=>?_
 .obtain⟨i,hi,rfl⟩:=dJ.mp hd;rw[gp]at hi;have hi:i<V.calls.length:=by lia
  obtain⟨k',ek,⟨ad,md,h1,_⟩⟩:=rd.call (dg hi);have ea:wO (A.cs.map λk=>D.ref k.p) (0+(i:Nat))=Fa (.ref k'.p):=by rw[mK];exact qX ek
  refine pH rd.bd.at_ (i' Z' (i' Z' (i' rd.bd.ca (i' ea (pH h1 (i' Z' (i' Z' ⟨Z',qm _,?_⟩)))))));show k (inD (.str V.calls[i].st) (YW.map D.str)) M;rw[rh];have e1:SU V YW (.int (0+(i:Nat)))=hasS YW V.calls[i].st:=by show(V.calls[(0+(i:Int)).toNat]?).elim lf _=_;rw[show(0+(i:Int)).toNat=i by lia,dg hi];rfl
  show k (hasS YW V.calls[i].st) M;rw[<-e1];exact hk
 .exact hk
 .refine⟨_,.refl,q r _ (.new hr) (pT.trans (eZ Fa ?_))⟩;rw[eB,jz,gK,show(((V.calls.length:Nat):Int)).toNat=V.calls.length from rfl];unfold MV;have e1:(SU V YW∘λi:Nat=>D.int (0+(i:Nat)))=λi=>(V.calls[i]?).elim lf λc=>hasS YW c.st:=funext λi=>by show(V.calls[(0+(i:Int)).toNat]?).elim lf _=_;rw[show(0+(i:Int)).toNat=i by lia]
  rw[e1];exact gC λi _=>by rw[mK]
noncomputable def GL:Str->QQQ:=λw=>if (w=="answer")=pc then["rings","waits"]else if (w=="hold")=pc then["talks"]else if (w=="hang")=pc then["rings","waits","talks","held"]else["held"]
def T6(w:Str):Prop:=w="answer"\/w="hang"\/w="hold"\/w="back"\/w="hand"\/w="join"
def KP(a:Ad):rB:=λds M Q=>FV λA V l c w=>ds=[.ref A.b,.int c,.str w,.tup ((GL w).map D.str)]/\Rd a M A V l/\WF l V/\(∀k∈V.calls,k.at_.length<=100)/\T6 w/\∀M',qO M M'->Q .mY M'/\∀e:tE,e.nC->Q e.d M'
def SZ{n:Nat}{a b:Uf}{ds:T0 D}(ha:oN M a=Fa ds)(hb:oN M b=Fa []):xA M (n+1) (.ref a) (.ref b)=Fa ds.isEmpty:=by
 show(oN M a).bind (λi=>(oN M b).bind λj=>if i.length=j.length then sQ (xA M n) i j else Fa lf)=_;rw[ha,hb];cases ds with
 | nil=>rfl
 | cons x r=>rfl
def uZ{α:Type}(f:α->D){xs:List α}(h:xs≠[])(c k:Int):(0:Int)<((xs.map f).length:Nat)/\∃x∈xs,wO (xs.map f) (draw c k ((xs.map f).length:Nat))=Fa (f x):=by
 have hp:(0:Int)<((xs.map f).length:Nat):=by have:=fG.mpr h;rw[de];lia
 have d0:=rj (c:=c) (f:=k) hp;have d1:=qU (c:=c) (f:=k) hp;obtain⟨n,e⟩:=eI d0;rw[e]at d1 ⊢;have hn:n<xs.length:=by rw[de]at d1;lia
 exact⟨hp,xs[n],iw hn,u9 (by rw[dM,dg hn];rfl)⟩
def S7{V:qH}{i:Nat}(h:i∈MV V YW):∃c,V.calls[i]?=Fa c/\c.st∈YW:=by
 have h:=(fM.mp h).2;cases e:V.calls[i]? with
 | none=>rw[e]at h;cases h
 | some c=>rw[e]at h;exact⟨c,Z',qN.mp h⟩
def Eh{c:pM}(k:wn l lf c)(h:c.st≠"over"):BB c≠[]:=by
 unfold BB;split
 .rename_i g;rcases k.sh with z|⟨_,z|z|⟨_,z⟩|z⟩
  .rw[z.1]at g;exact absurd g (by decide)
  .rw[z.1]at g;exact absurd g (by decide)
  .intro y;rw[y]at z;rcases z.2.1 with u|u<;>cases u
  .intro y;rw[y]at z;cases z.2.1
  .exact absurd z.1 h
 .exact fF _ _
def U5{c:pM}(k:wn l lf c)(h:c.st∈GL "answer"):c.at_≠[]:=by
 have h:c.st="rings"\/c.st="waits":=by
  rcases dC.mp h with g|g
  .exact .inl g
  .exact .inr (dI.mp g)
 rcases k.sh with z|⟨_,z|z|⟨_,z⟩|z⟩
 .exact z.2.2.2.2.2 Z'
 .intro y;rw[y]at z;cases z.2.2.2.2
 all_goals(rw[z.1]at h;exact absurd h (by decide))
def Jr{c:pM}(k:wn l lf c)(h:c.st="held"):∃x,c.hd=Fa x:=by
 rcases k.sh with z|⟨_,z|z|⟨x,z⟩|z⟩
 .rw[h]at z;exact absurd z.1 (by decide)
 .rw[h]at z;exact absurd z.1 (by decide)
 .rw[h]at z;exact absurd z.1 (by decide)
 .exact⟨x,z.2.2.1⟩
 .rw[h]at z;exact absurd z.1 (by decide)
def KI:Fq P w K mg base 4 a.bw (KP a):=by
 refine fq G.bw.toDG rO (λr u=>⟨_,(pF (pU 4 rO (pP (Pk G) r G.bv (rQ v0 U3)))
 (pF (pV (pN u v4 (qW tI))
 (pG (pL rb))
 pO)
 (pF (pU 5 rO (pS v4 (pP (qR G) r G.i (rc U1 pI (qa qD Z' G.g qB (qz v4))))))
 (pF (pU 6 rO (pP (Ke G) r G.bu (qz (pS (pK v0) v5))))
 (pF (pV (pN u U2 pJ)
 (pG (pU 6 rO (qp tO Z' G.z tK (qz (pK (pS (pK v0) v5))))))
 pO)
 (pF (pV (W3.b3 (ut (pN u U2 pJ) (ut (pN u U2 pJ) (tH (pN u U2 pJ)))))
 (pG (pU 6 rO (qW (qz (pK (pS (pK v0) v5))))))
 pO)
 (pF (pU 7 rO (pS v6 (pP (qR G) r G.i (rc U1 pI (qa qD Z' G.g qB (qz v6))))))
 (pF (pV (W3.b3 (ut (pN u U2 pJ) (tH (pN u U2 pJ))))
 (pF (pU 8 rO (qh v0 G.c.toCls G.U (yZ G) r (qz v7)))
 (pG (pL (pW (qg U2 (rc v7 v5 (Ro (pN u v8 rb) pI v8)))))))
 pO)
 (pG (pL (pW (rc U2 v7 v5)))))))))))),?_⟩)
 rintro ds M Q ⟨A,V,l,c,wd,rfl,rd,wf,ha,ho,q⟩
 have hz:=dR;refine⟨A,V,l,GL wd,Z',rd,λr M1 s1 lr=>?_⟩;refine⟨pD Z',λr0 hr0=>?_⟩;have t2:=qO.new (c:=.lst []) hr0;have lr2:=t2.lst lr;refine i' (SZ lr2 pT) ?_;have s2:=s1.trans t2;generalize pQ M1 r0 (.lst [])=M2 at s2 lr2 ⊢;clear t2 lr hr0 s1;refine qv (c:=((MV V (GL wd)).map λn=>D.int (n:Nat)).isEmpty) (λ_=>⟨M2,.refl,(q M2 s2).1⟩) (λg=>?_);have gne:MV V (GL wd)≠[]:=λz=>g (by rw[z];rfl);obtain⟨hp,i,hi,ei⟩:=uZ (λn:Nat=>D.int (n:Nat)) gne c 40692;obtain⟨cv,hc,hs⟩:=S7 hi;have Z9:=rd.sub s2;obtain⟨k,ek,ca⟩:=Z9.call hc;have ca0:=ca;obtain⟨ad,md,h1,h2,h3,h4,_⟩:=ca0;have YT:=wf.ok i cv hc;refine i' lr2 ⟨c,_,_,Z',hp,i' lr2 (i' ei ?_)⟩;refine pH Z9.bd.at_ (i' Z' (i' Z' (i' Z9.bd.ca (i' (qX ek) ?_))));refine⟨_,k,cv,Z',ca,ha cv (rg hc),λr3 M3 s3 lr3=>?_⟩;have Yz:=s3 _ _ h1;have q3:=λM' (s:qO M3 M')=>q M' (s2.trans (s3.trans s));have rd3:=Z9.sub s3;have h3':=s3.lst h3;clear q lr2 s2 h1 h2 h3 h4 ca;rcases ho with rfl|rfl|rfl|rfl|rfl|rfl
 .
  refine pH rd3.bd.at_ (i' Z' (i' Z' (i' rd3.bd.ca (i' (qX ek) (pH Yz (i' Z' (i' h3' λr4 hr4=>?_)))))));obtain⟨X2,x,hx,ex⟩:=uZ D.str (U5 YT hs) c 742938285;refine i' pT ⟨c,_,_,Z',X2,i' pT (i' ex ?_)⟩;exact⟨pD Z',_,.refl,(q3 _ (.new hr4)).2 (.num "answer" x [(i:Nat)]) (.inl ⟨.inl Z',Z'⟩)⟩
 .
  obtain⟨X2,x,hx,ex⟩:=uZ D.str (Eh YT (λz=>by rw[z]at hs;exact absurd hs (by decide))) c 742938285;refine i' lr3 ⟨c,_,_,Z',X2,i' lr3 (i' ex ?_)⟩;exact⟨pD Z',_,.refl,(q3 _ .refl).2 (.num "hang" x [(i:Nat)]) (.inl ⟨.inr (.inl Z'),Z'⟩)⟩
 .
  obtain⟨X2,x,hx,ex⟩:=uZ D.str (Eh YT (λz=>by rw[z]at hs;exact absurd hs (by decide))) c 742938285;refine i' lr3 ⟨c,_,_,Z',X2,i' lr3 (i' ex ?_)⟩;exact⟨pD Z',_,.refl,(q3 _ .refl).2 (.num "hold" x [(i:Nat)]) (.inl ⟨.inr (.inr (.inl Z')),Z'⟩)⟩
 .
  obtain⟨y,hy⟩:=Jr YT (dI.mp hs);refine pH rd3.bd.at_ (i' Z' (i' Z' (i' rd3.bd.ca (i' (qX ek) (pH Yz (i' Z' ⟨pD Z',λr4 hr4=>?_⟩))))));rw[show wC cv.hd=.str y by rw[hy];rfl];obtain⟨X2,x,hx,ex⟩:=uZ D.str (fF y []) c 742938285;refine i' pT ⟨c,_,_,Z',X2,i' pT (i' ex ?_)⟩;exact⟨pD Z',_,.refl,(q3 _ (.new hr4)).2 (.num "back" x [(i:Nat)]) (.inl ⟨.inr (.inr (.inr Z')),Z'⟩)⟩
 all_goals
  obtain⟨y,hy⟩:=Jr YT (dI.mp hs);refine pH rd3.bd.at_ (i' Z' (i' Z' (i' rd3.bd.ca (i' (qX ek) (pH Yz (i' Z' ⟨pD Z',λr4 hr4=>?_⟩))))));rw[show wC cv.hd=.str y by rw[hy];rfl];obtain⟨X2,x,hx,ex⟩:=uZ D.str (fF y []) c 742938285;refine i' pT ⟨c,_,_,Z',X2,i' pT (i' ex ?_)⟩;have t4:=qO.new (c:=.lst [D.str y]) hr4;refine pH (t4 _ _ rd3.bd.at_) ⟨Z',_,⟨Z',Z'⟩,A,V,x,Z',rd3.bd.sub t4,rd3.k,?_⟩;unfold AX;cases vY V x with
  | none=>first|exact⟨pD Z',_,.refl,(q3 _ t4).2 (.num "hand" x [(i:Nat),(0:Nat)]) (.inr ⟨.inl Z',Z'⟩)⟩|exact⟨pD Z',_,.refl,(q3 _ t4).2 (.num "join" x [(i:Nat),(0:Nat)]) (.inr ⟨.inr Z',Z'⟩)⟩
  | some j=>first|exact⟨pD Z',_,.refl,(q3 _ t4).2 (.num "hand" x [(i:Nat),(j:Nat)]) (.inr ⟨.inl Z',Z'⟩)⟩|exact⟨pD Z',_,.refl,(q3 _ t4).2 (.num "join" x [(i:Nat),(j:Nat)]) (.inr ⟨.inr Z',Z'⟩)⟩
def JG:rB:=λds M Q=>IS λc o n own nm m=>ds=[.int c,.ref o,.ref n,.int ((m:Nat):Int)]/\oN M o=Fa (List.map D.str own)/\oN M n=Fa (List.map D.str nm)/\own.length<=100/\nm.length<=100/\m<=1000000/\∀M' (e:tE),qO M M'->e.nC->Q e.d M'
def Oh(a:Ad):rB:=λds M Q=>Uh λA V l c o n own nm=>ds=[.ref A.b,.int c,.ref o,.ref n]/\Rd a M A V l/\WF l V/\(∀k∈V.calls,k.at_.length<=100)/\oN M o=Fa (List.map D.str own)/\oN M n=Fa (List.map D.str nm)/\own≠[]/\nm≠[]/\own.length<=100/\nm.length<=100/\∀M' (e:tE),qO M M'->e.nC->Q e.d M'
def JL{α:Type}(f:α->D){xs:List α}(h:xs≠[]){m:Int}(hm:m=(xs.length:Nat))(c k:Int):(0:Int)<m/\∃x∈xs,wO (xs.map f) (draw c k m)=Fa (f x):=by have:=uZ f h c k;rw[de,<-hm]at this;exact this
def Q6{α:Type}(xs:List α)(x:α):xs++[x]≠[]:=by simp
noncomputable def Iz:QQQ:=["call","call","call","call","call","answer","answer","answer","answer","answer","hang","hang","hold","hold","hold","back","hand","join","turn","turn","turn"]
theorem EA(d:D):∀n:Nat,(List.replicate n [d]).flatten=List.replicate n d
 | 0=>rfl
 | n+1=>by rw[eQ,fT,EA d n,eQ];rfl
noncomputable def zz:Str:="zzzzzz"
noncomputable def M9(a b:Str)(k m:Int):List tE:=[.call a b,.num "answer" a [k],.num "hang" a [k],.num "hold" a [k],.num "back" a [k],.num "hand" a [k,m],.num "join" a [k,m],.turn,.sw pc k,.sw lf k]
def Nu{a b:Str}{k m:Int}{e:tE}(h:e∈M9 a b k m):e.nC:=by
 unfold M9 at h;simp only[dC,dQ,fv]at h;rcases h with rfl|rfl|rfl|rfl|rfl|rfl|rfl|rfl|rfl|rfl
 .trivial
 .exact .inl ⟨.inl Z',Z'⟩
 .exact .inl ⟨.inr (.inl Z'),Z'⟩
 .exact .inl ⟨.inr (.inr (.inl Z')),Z'⟩
 .exact .inl ⟨.inr (.inr (.inr Z')),Z'⟩
 .exact .inr ⟨.inl Z',Z'⟩
 .exact .inr ⟨.inr Z',Z'⟩
 .trivial
 .trivial
 .trivial
def J7:Fq P w K mg base 2 a.aj JG:=by
 refine fq G.aj.toDG uV (λr u=>⟨_,(pF (pU 4 uV (pS (qe U2 (qW (qz pJ))) (pP (qR G) r G.i (rc v0 pI (qe (qa qD Z' G.g qB (qz U2)) pI)))))
 (pF (pU 5 uV (pS (qe U2 (qW (qz pJ))) (pP (qR G) r G.i (rc v0 pI (qe (qa qD Z' G.g qB (qz U2)) pI)))))
 (pF (pU 6 uV (qe (pP (qR G) r G.i (rc v0 pI (qe U3 pI))) pI))
 (pF (pU 7 uV (qe (pP (qR G) r G.i (rc v0 pI (qe U3 pI))) pI))
 (pF (pU 8 uV (qW (qg (pW (rc pJ v4 v5)) (qg (pW (rc pJ v4 v6)) (qg (pW (rc pJ v4 v6)) (rc (pW (rc pJ v4 v6)) (pW (rc pJ v4 v6)) (pW (qg pJ (rc v4 v6 v7)))))))))
 (pG (pL (pS (qe v8 (qW (qg (pW (qg pJ (rc v4 v6 v7))) (rc (pW (qz pJ)) (pW (rQ pJ v6)) (pW (rQ pJ v6)))))) (pP (qR G) r G.i (rc v0 pI pI)))))))))),?_⟩)
 rintro ds M Q ⟨c,o,n,own,nm,m,rfl,ho,hn,ol,nl,ml,q⟩
 have hz:=dR;have add:∀{M1:Mp} {p:Uf} {xs:QQQ} (f:Int) (nx:DK),qO M M1->oN M1 p=Fa (xs.map D.str)->xs.length<=100->(∀x M',qO M M'->nx (.str x) M')->∀r1,M1 r1=Db->(oN (pQ M1 r1 (.lst [D.str zz])) p).elim False λi=>(oN (pQ M1 r1 (.lst [D.str zz])) r1).elim False λj=>i.length+j.length<=Ch/\∀r2,pQ M1 r1 (.lst [D.str zz]) r2=Db->(oN (pQ (pQ M1 r1 (.lst [D.str zz])) r2 (.lst (i++j))) p).elim False λys=>Jf [.int c,.int f,.int ((ys.length:Nat)+1)] (pQ (pQ M1 r1 (.lst [D.str zz])) r2 (.lst (i++j))) λy M2=>match y with
  | .int n=>(oN M2 r2).elim False λzs=>(wO zs n).elim False λd=>nx d M2
  | _=>False:=λ{M1 p xs} f nx s hx lx X0 r1 YA=>by
  have t1:=qO.new (c:=.lst [D.str zz]) YA;refine i' (t1.lst hx) (i' pT ⟨by rw[de];show xs.length+1<=Ch;lia,λr2 Zu=>?_⟩);have t2:=qO.new (c:=.lst (xs.map D.str++[D.str zz])) Zu;obtain⟨hp,x,_,ex⟩:=JL D.str (Q6 xs zz) (m:=((xs.map D.str).length:Nat)+1) (by rw[de,dq];rfl) c f;rw[dZ]at ex;exact i' ((t1.trans t2).lst hx) ⟨c,f,_,Z',hp,i' pT (i' ex (X0 x _ (s.trans (t1.trans t2))))⟩
 refine⟨pD Z',add 16807 _ .refl hn nl λx M1 s1=>⟨pD Z',add 39373 _ s1 (s1.lst hn) nl λy M2 s2=>?_⟩⟩;refine⟨c,_,_,Z',by show(0:Int)<(m:Nat)+2;lia,⟨c,_,_,Z',by show(0:Int)<(m:Nat)+2;lia,?_⟩⟩;generalize draw c 69621 ((m:Nat)+2) - 1=k0;refine⟨pD Z',pD Z',pD Z',pD Z',pD Z',pD Z',pD Z',λr8 hr8=>⟨pD Z',pD Z',pD Z',pD Z',pD Z',λr9 hr9=>?_⟩⟩;have t8:=qO.new (c:=.lst (((M9 x y k0 (draw c 22695477 ((m:Nat)+2) - 1)).take 6).map tE.d)) hr8;have t9:=qO.new (c:=.lst (((M9 x y k0 (draw c 22695477 ((m:Nat)+2) - 1)).drop 6).map tE.d)) hr9;refine i' (t9.lst pT) (i' pT ⟨by show 6+4<=Ch;lia,λr10 hr10=>?_⟩);obtain⟨hp,e,he,ee⟩:=JL tE.d (xs:=M9 x y k0 (draw c 22695477 ((m:Nat)+2) - 1)) (fF _ _) (m:=10) Z' c 1664525;exact⟨c,_,_,Z',hp,i' pT (i' ee ⟨_,.refl,q _ e (s2.trans (t8.trans (t9.trans (.new hr10)))) (Nu he)⟩)⟩
def MS:Fq P w K mg base 5 a.bx (Oh a):=by
 refine fq G.bx.toDG rP (λr u=>⟨_,(pF (pU 4 rP (qe (qe (qe (qe (qe (Ce (qW (qz pJ)) pI) (Ce (qW (qz pJ)) pI)) (Ce (qW (qz pJ)) pI)) (Ce (qW (qz pJ)) pI)) (qW (rc pJ pJ pJ))) (Ce (qW (qz pJ)) pI)))
 (pF (pU 4 rP (pS v4 (pP (qR G) r G.i (rc U1 pI (qa qD Z' G.g qB (qz v4))))))
 (pF (pU 5 rP (pW (qg pJ (rc pJ pJ pJ))))
 (pF (pV (pN u v4 pJ)
 (pG (pU 5 rP (pW (rQ pJ pJ))))
 pO)
 (pF (pV (pN u v4 pJ)
 (pG (pU 5 rP (pW (qz pJ))))
 pO)
 (pF (pV (W3.b3 (ut (pN u v4 pJ) (ut (pN u v4 pJ) (tH (pN u v4 pJ)))))
 (pG (pU 5 rP (pW (qz pJ))))
 pO)
 (pF (pV (pN u v4 pJ)
 (pG (pL (pW (qz pJ))))
 pO)
 (pF (pV (pN u (pP (qR G) r G.i (rc U1 pI pI)) pI)
 (pG (pL (pP (J7 G) r G.aj (qg U1 (rc U2 U3 (qa qD Z' G.g qB (qz (pK v0))))))))
 pO)
 (pF (pU 6 rP rb)
 (pF (pV (pN u v4 pJ)
 (pG (pU 6 rP (pP (KI G) r G.bw (qg v0 (rc U1 v4 v5)))))
 pO)
 (pF (pV (pN u v6 rb)
 (pF (pU 7 rP (pS U2 (pP (qR G) r G.i (rc U1 pI (qa qD Z' G.g qB (qz U2))))))
 (pG (pU 6 rP (pW (rc pJ v7 (pS U3 (pP (qR G) r G.i (rc U1 pI (qa qD Z' G.g qB (qz U3))))))))))
 pO)
 (pG (pL v6))))))))))))),?_⟩)
 rintro ds M Q ⟨A,V,l,c,o,n,own,nm,rfl,rd,wf,ha,ho,hn,one,nne,ol,nl,q⟩
 have hz:=dR;refine P7 (t:=CU _ _) (λU M'=>qO M M'/\∃r,oN M' r=Fa (Iz.map D.str)/\U=[Fa (.ref A.b),Fa (.int c),Fa (.ref o),Fa (.ref n),Fa (.ref r),Db,Db,Db]) (λnx h=>?_) ?_
 .have ZJ:∀{N:Mp} {U:vq} (w0:Str) (m:Int) (nx:DK),qO M N->(0<=m/\m<=10)->(∀r N',qO M N'->qO N N'->oN N' r=Fa ((List.replicate m.toNat w0).map D.str)->nx (.ref r) N')->UQ (VQ (vB (L3.c3 (.str w0)) xH)) (L3.c3 (.int m)) U N nx:=λ{N U} w0 m nx sn hm X0=>by refine⟨pD Z',λr1 YA=>?_⟩;refine i' pT ⟨⟨by lia,by lia,by show 1<=1000;decide⟩,λr2 Zu=>?_⟩;have t:=(qO.new (c:=.lst [D.str w0]) YA).trans (qO.new (c:=.lst (List.replicate m.toNat [D.str w0]).flatten) Zu);refine X0 r2 _ (sn.trans t) t (pT.trans (eZ Fa ?_));rw[List.map_replicate];exact EA _ _
  have YX:∀{N:Mp} {p r:Uf} {xs ys:QQQ} (nx:DK),qO M N->oN N p=Fa (xs.map D.str)->oN N r=Fa (ys.map D.str)->xs.length+ys.length<=100->(∀r N',qO M N'->oN N' r=Fa ((xs++ys).map D.str)->nx (.ref r) N')->V9 .Add (.ref p) (.ref r) N nx:=λ{N p r xs ys} nx sn hx hy hl X0=>by refine i' hx (i' hy ⟨by rw[de,de];lia,λr2 Zu=>?_⟩);refine X0 r2 _ (sn.trans (.new Zu)) (pT.trans (eZ Fa ?_));rw[dZ]
  dsimp only[CU,o3];refine ZJ "call" 5 _ .refl (by decide) λp1 N1 s1 _ l1=>ZJ "answer" 5 _ s1 (by decide) λq2 N2 s2 t2 l2=>YX _ s2 (t2.lst l1) l2 (by decide) λp2 N3 s3 l3=>ZJ "hang" 2 _ s3 (by decide) λq4 N4 s4 t4 l4=>YX _ s4 (t4.lst l3) l4 (by decide) λp5 N5 s5 l5=>ZJ "hold" 3 _ s5 (by decide) λq6 N6 s6 t6 l6=>YX _ s6 (t6.lst l5) l6 (by decide) λp7 N7 s7 l7=>⟨pD Z',λr8 hr8=>?_⟩;have t8:=qO.new (c:=.lst ((["back","hand","join"]:QQQ).map D.str)) hr8;exact YX (ys:=["back","hand","join"]) _ (s7.trans t8) (t8.lst l7) pT (by decide) λp9 N9 s9 l9=>ZJ "turn" 3 _ s9 (by decide) λq10 N10 s10 t10 l10=>YX _ s10 (t10.lst l9) l10 (by decide) λp11 N11 s11 l11=>h _ _ ⟨s11,p11,l11,Z'⟩
 rintro U M1 ⟨s1,r,lr,rfl⟩
 have s1n:=s1.lst hn;have s1o:=s1.lst ho;obtain⟨hp,w0,hw,ew⟩:=uZ D.str (show Iz≠[]from fF _ _) c 48271;refine i' lr ⟨c,_,_,Z',hp,i' lr (i' ew ?_)⟩;obtain⟨Y8,x1,hx1,ex1⟩:=uZ D.str one c 16807;obtain⟨X2,x2,hx2,ex2⟩:=uZ D.str nne c 39373;have Y9:=rd.sub s1;have lc:((A.cs.map λk=>D.ref k.p).length:Int)=(V.calls.length:Nat):=by rw[de,rd.bd.len]
 clear lr hp ew;have hw:w0="call"\/w0="turn"\/T6 w0:=by unfold Iz at hw;simp only[dC,dQ,fv]at hw;unfold T6;rcases hw with h|h|h|h|h|h|h|h|h|h|h|h|h|h|h|h|h|h|h|h|h<;>simp[h]
 have XX:∀M' (e:tE),qO M1 M'->e.nC->∃XU,qO XU M'/\Q e.d XU:=λM' e s f=>⟨M',.refl,q M' e (s1.trans s) f⟩;rcases hw with rfl|rfl|hw
 .refine⟨pD Z',c,_,_,Z',by decide,qv (c:=draw c 950706376 9==0) (λ_=>pH Y9.bd.at_ (i' Z' (i' Y9.bd.ca ?_))) (λ_=>?_)⟩
  .rw[lc];exact⟨c,o,n,own,nm,V.calls.length,Z',s1o,s1n,ol,nl,rd.k,XX⟩
  exact i' s1o ⟨c,_,_,Z',Y8,i' s1o (i' ex1 (i' s1n ⟨c,_,_,Z',X2,i' s1n (i' ex2 ⟨pD Z',XX M1 (.call x1 x2) .refl trivial⟩)⟩))⟩
 .exact⟨pD Z',pD Z',XX M1 .turn .refl trivial⟩
 have lany:JG [.int c,.ref o,.ref n,.int ((V.calls.length:Nat):Int)] M1 λd M'=>∃XU,qO XU M'/\Q d XU:=⟨c,o,n,own,nm,V.calls.length,Z',s1o,s1n,ol,nl,rd.k,XX⟩;have hw':=hw;rcases hw with rfl|rfl|rfl|rfl|rfl|rfl
 all_goals
  first
   | refine⟨pD rfl,pD rfl,c,_,_,rfl,by decide,qv (c:=draw c 950706376 9==0) (λ_=>pH Y9.bd.at_ (i' rfl (i' Y9.bd.ca ?_))) (λ_=>⟨A,V,l,c,_,rfl,Y9,wf,ha,hw',λM' s=>⟨?_,λe f=>?_⟩⟩)⟩
   | refine⟨pD rfl,c,_,_,rfl,by decide,qv (c:=draw c 950706376 9==0) (λ_=>pH Y9.bd.at_ (i' rfl (i' Y9.bd.ca ?_))) (λ_=>⟨A,V,l,c,_,rfl,Y9,wf,ha,hw',λM' s=>⟨?_,λe f=>?_⟩⟩)⟩
  .rw[lc];exact lany
  .exact i' (s.lst s1o) ⟨c,_,_,Z',Y8,i' (s.lst s1o) (i' ex1 (i' (s.lst s1n) ⟨c,_,_,Z',X2,i' (s.lst s1n) (i' ex2 ⟨pD Z',XX M' (.call x1 x2) s trivial⟩)⟩))⟩
  .cases e with
   | call y z=>exact XX M' (.call y z) s f
   | num v y ns=>exact XX M' (.num v y ns) s f
   | turn=>exact XX M' .turn s f
   | sw b i=>exact XX M' (.sw b i) s f
def Kp{x:Uf}{c:vd}(st:rf A M A' M')(h:x∉A.foot)(hx:M x=Fa c):x∉A'.foot:=λz=>by
 rcases st.2.1 x z with y|y
 .exact h y
 .rw[hx]at y;cases y
noncomputable def Nb(A:tP)(M:Mp):Mp:=λx=>if x∈A.foot then Db else M x
def EZ{A:tP}{x:Uf}{ds:T0 D}(h:oN M x=Fa ds)(n:x∉A.foot):oN (Nb A M) x=Fa ds:=tD (by unfold Nb;rw[dh n];exact qE h)
structure Lp(a:Ad)(M0 N M:Mp)(b:Uf)(A:tP)(V:qH)(l:pR)(m:Nat):Prop where
 cu:uQ a M0 M b A V l (1+m) (3+4300*m)
 wf:WF l V
 ps:V.ps.length<=3
 own:∀x c,N x=Fa c->M x=Fa c/\x∉A.foot
variable {N:Mp}{m:Nat}
def Lp.s(g:Lp a M0 N M b A V l m):qO N M:=λx c e=>(g.own x c e).1
def Lp.sub(g:Lp a M0 N M b A V l m)(s:qO M M'):Lp a M0 N M' b A V l m:=⟨g.cu.sub s,g.wf,g.ps,λx c e=>⟨s x c (g.own x c e).1,(g.own x c e).2⟩⟩
def Lp.nG(g:Lp a M0 N M b A V l m):Lp a M0 N M b A V l (m+1):=⟨g.cu.mono (by lia) (by lia),g.wf,g.ps,g.own⟩
def Lp.after{e:tE}(g:Lp a M0 N M b A V l m)(hm:m<=127)(f:e.nC)(hr:wu l V e=Db)(cu:uQ a M0 M' b A' (qS V (xB l V e)) l (1+m+1) (3+4300*m+40+33*(1+m)))(st:rf A M A' M'):Lp a M0 N M' b A' (qS V (xB l V e)) l (m+1):=⟨cu.mono (by lia) (by lia),Ux g.cu.ok g.wf f hr,by rw[Ve g.cu.ok g.wf f hr];exact g.ps,λx c h=>⟨st.1 x c (g.own x c h).2 (g.own x c h).1,Kp st (g.own x c h).2 (g.own x c h).1⟩⟩
def Lp.rd(g:Lp a M0 N M b A V l m)(hm:m<=128):Rd a M A V l:=g.cu.rd (by lia) g.wf
def Lp.mk0(cu:uQ a M0 M b A V l 1 3)(wf:WF l V)(ps:V.ps.length<=3):Lp a M0 (Nb A M) M b A V l 0:=⟨cu,wf,ps,λx c e=>by
 unfold Nb at e;split at e
 .cases e
 .rename_i h;exact⟨e,h⟩⟩
def Lp.start{b p:Uf}{A:tP}(ok:sj l)(pl:tW a M0 p l)(hb:M0 b=Db)(eb:A.b=b)(kp:sJ b (pQ M0 b (.ins a.c [])) M)(fr:∀x∈A.foot,x=b\/pQ M0 b (.ins a.c []) x=Db)(bd:pX a M A (V0 p h l [])):uQ a M0 M b A (V0 p h l []) l 1 3/\WF l (V0 p h l [])/\(V0 p h l []).ps.length<=3:=by
 have t:=qO.new (c:=.ins a.c []) hb;refine⟨⟨bd,pl,λx c e=>kp x c (PH e hb) (t x c e),λx hx=>?_,eb,⟨eX _,eX _,eX _,D9 ok,λk hk=>by cases hk⟩,ok,de ..⟩,WI ok,D9 ok⟩;rcases fr x hx with z|z
 .rw[z];exact hb
 .exact t.none z
def Ih{m:Int}(h2:2<=m)(h:m<=100):2<=(vF ns m).mV.length:=by have:=(xo (s:=cell ns 0) h2 h).2;show 2<=((List.range (rV (cell ns 0) m)).map _).length;rw[de,eM];exact this
def SQ(a:Ad):rB:=λds M Q=>z9 λns m=>ds=[.rl (List.map D.int ns),.int m]/\2<=m/\m<=8/\∀M0 M' A p h,qO M M0->uQ a M0 M' A.b A (V0 p h (vF ns m) []) (vF ns m) 1 3->WF (vF ns m) (V0 p h (vF ns m) [])->(V0 p h (vF ns m) []).ps.length<=3->Q (.ref A.b) M'
def K8(a:Ad):rB:=λds M Q=>Di λA V l=>ds=[.ref (tP.b A)]/\Rd a M A V l/\∀M' r ro rn,qO M M'->M ro=Db->M rn=Db->oN M' r=Fa [.ref ro,.ref rn]->oN M' ro=Fa (l.pn.map D.str)->oN M' rn=Fa (l.nm.map D.str)->Q (.ref r) M'
def Tz:Fq P w K mg base 10 a.bz (SQ a):=by
 refine fq G.bz.toDG we (λr u=>⟨_,(pF (EU (pP (Nj G) r G.bt (rQ v0 U1)) (ve (n:=3) Z' (qF (rC 2 we) (qF (rC 3 we) (qF (rC 4 we) ub)))))
 (pG (pL (vD (Ob G) r G.c G.cl G.ao.toDG (rQ (vD (QZ G) r G.h G.cm G.ap.toDG (rc U2 U3 v4)) (pP (qR G) r G.i (rc (pP (ME G) r G.Q (rQ v0 pI)) pI pI))))))),?_⟩)
 rintro ds M Q ⟨ns,m,rfl,h2,h8,q⟩
 have ok:sj (vF ns m):=QJ h2 h8;refine⟨ns,m,Z',h2,h8,λr1 r2 r3 M1 s1 e1 e2 e3=>⟨Z',?_⟩⟩;generalize vF ns m=l at e1 e2 e3 ok q;refine λp hp=>?_;have t2:=qO.new (c:=.ins a.h []) hp;refine⟨p,r1,r2,r3,l,Z',pZ,t2.lst e1,t2.lst e2,t2.lst e3,ok,λM2 kp pa _=>⟨Z',?_⟩⟩;have s2:qO M1 M2:=λx c e=>kp x c (PH e hp) (t2 x c e);refine⟨ns,0,Z',_,_,_,Z',by decide,λb hb=>?_⟩;have t5:=qO.new (c:=.ins a.c []) hb;have npb:p≠b:=λz=>by obtain⟨ph,gr,ws,Zg,pr,gd,rs,i1,_⟩:=pa;rw[z,hb]at i1;cases i1
 refine⟨b,p,_,[],l,Z',pZ,pa.sub t5,ok,npb,(λx hx=>by cases hx),λM5 A eb kp fr bd=>⟨Z',M5,.refl,?_⟩⟩;obtain⟨cu,wf,ps⟩:=Lp.start ok pa hb eb kp fr bd;subst eb;exact q M2 M5 A p _ (s1.trans s2) cu wf ps
def Ks:Fq P w K mg base 1 a.bA (K8 a):=by
 refine fq G.bA.toDG zw (λr u=>⟨_,(pF (vH (i:=1) zw.nd Z' (Or.inl Z') Z' (yh (ix:=[Db]) (N':=["_law_phone"])) (qL (pK (pK v0))) (qM 0) se (pS v0 pI))
 (pG (pL (qW (rQ U1 (qe U1 (qP Z' (yh (ix:=[Db]) (N':=["_law_group"])) (qL (pK (pK v0))) (qM 0) se (pS v0 pI)))))))),?_⟩)
 rintro ds M Q ⟨A,V,l,rfl,rd,q⟩
 have hz:=dR;have p8:=rd.ok.p8;have g3:=rd.ok.g3;have pl:l.pn.length=l.mV.length:=de ..;obtain⟨ph,gr,ws,Zg,pr,gd,rs,i1,i2,i3,_⟩:=rd.pl;refine pH rd.bd.at_ (i' Z' (pH i1 (i' Z' (i' i2 (rA (f:=Bg) i2 _ [] _ (by rw[de];simp only[dS];lia) (λd hd k hk=>?_) λro hro=>?_)))))
 .obtain⟨x,_,rfl⟩:=dJ.mp hd;exact hk
 rw[eB,xn];obtain⟨M3,e0,t3,lo⟩:=xl (ds:=(l.mV.map (·.1)).map D.str) hro;rw[<-e0];have lo:oN M3 ro=Fa (l.pn.map D.str):=lo;show AA (M3 A.b) _;refine pH (t3 _ _ rd.bd.at_) (i' Z' (pH (t3 _ _ i1) (i' Z' (i' (t3.lst i3) (rA (f:=Bg) (t3.lst i3) _ [] _ (by rw[de];simp only[dS];lia) (λd hd k hk=>?_) λp hp=>?_)))))
 .obtain⟨x,_,rfl⟩:=dJ.mp hd;exact hk
 rw[eB,xq];have t:=qO.new (c:=.lst ((l.groups.map (·.1)).map D.str)) hp;refine i' (t.lst lo) (i' pT ⟨by rw[de,de,de];lia,λrn hrn=>⟨pD Z',λr hr=>?_⟩⟩);have t2:=t.trans (.new (c:=.lst (l.pn.map D.str++(l.groups.map (·.1)).map D.str)) hrn);have t3':=t2.trans (.new (c:=.lst [D.ref ro,.ref rn]) hr);refine⟨_,.refl,q _ r ro rn (t3.trans t3') hro ((t3.trans t).none hrn) pT (t3'.lst lo) ((qO.new hr).lst ?_)⟩;rw[pT,<-dZ];rfl
def DI(V:qH)(k:Int):Option pM:=if wV V.calls.length k=pc then V.calls[k.toNat]? else Db
def LV(a:Ad):rB:=λds M Q=>Au λA V l x=>ds=[.ref (tP.b A),.str x]/\Rd a M A V l/\WF l V/\Q (wC (rM V x)) M
def NJ(a:Ad):rB:=λds M Q=>Au λA V l x=>ds=[.ref (tP.b A),.str x]/\Rd a M A V l/\WF l V/\x∈l.pn/\Q (.bl (sD l V x)) M
def S8(a:Ad):rB:=λds M Q=>FV λA V l k s=>ds=[.ref (tP.b A),.int k,.str s]/\Rd a M A V l/\Q (.bl ((DI V k).elim lf λc=>c.st==s)) M
def JH(f:pM->Str->Bool)(a:Ad):rB:=λds M Q=>FV λA V l x k=>ds=[.ref (tP.b A),.str x,.int k]/\Rd a M A V l/\WF l V/\Q (.bl ((DI V k).elim lf λc=>f c x)) M
def Jm(w:Str)(a:Ad):rB:=λds M Q=>FV λA V l x k=>ds=[.ref (tP.b A),.str x,.int k]/\Rd a M A V l/\WF l V/\x∈l.pn/\Q (wC (Br l V w x [k])) M
noncomputable def UA:D->D
 | .tup [_,d,_]=>d
 | d=>d
noncomputable def Xh(x:Str):D->Bool
 | .tup (.str y::_)=>y==x
 | _=>lf
def Ri(M:Mp)(o:Option Str)(x:Str):xA M 9 (wC o) (.str x)=Fa (o==Fa x):=by cases o<;>rfl
def Pj(V:qH)(x:Str):rM V x=(if V.calls.any (·.nk x)=pc then Fa "bound" else if V.calls.any (·.ng x)=pc then Fa "calls" else Db:Option Str):=by unfold rM CB GV;rw[kO,kO]
def PY{c:pM}{x:Str}(sh:AO lf c):c.nk x=(hasS c.ms x&&((c.st=="talks")||!(c.hd==Fa x))):=by obtain⟨st,cr,way,at_,ms,hd,si,wd⟩:=c;unfold AO at sh;dsimp only at sh;rcases sh with⟨rfl,rfl,_⟩|⟨_,⟨rfl,rfl,_⟩|⟨rfl,_⟩|⟨y,rfl,_⟩|⟨rfl,rfl,_⟩⟩<;>first|rfl|exact(kW _).symm
def SR{c:pM}{x:Str}(sh:AO lf c):c.hasB x=((hasS c.ms x||((c.st=="rings")&&hasS c.at_ x))||((c.st=="rings"||c.st=="waits")&&(c.cr==x))):=by
 obtain⟨st,cr,way,at_,ms,hd,si,wd⟩:=c;unfold AO at sh;dsimp only at sh;unfold pM.hasB;rw[mL (a:=cr)];rcases sh with⟨rfl,rfl,_⟩|⟨_,⟨rfl,rfl,_⟩|⟨rfl,_⟩|⟨y,rfl,_⟩|⟨rfl,rfl,_⟩⟩
 .exact Bool.or_comm ..
 .rfl
 .exact((gy _).trans (gy _)).symm
 .exact((gy _).trans (gy _)).symm
 .rfl
def yl{V:qH}{k:Int}(h:wV V.calls.length k=pc):∃(n:Nat) (c:pM),k=(n:Int)/\V.calls[n]?=Fa c/\DI V k=Fa c:=by
 have hh:(decide (0<=k)&&decide (k<V.calls.length))=pc:=h;rw[d9,eC,eC]at hh;obtain⟨n,rfl⟩:=eI hh.1;have hn:n<V.calls.length:=by lia
 exact⟨n,_,Z',dg hn,(dw h).trans (dg hn)⟩
def y0{V:qH}{k:Int}(h:¬wV V.calls.length k=pc):DI V k=Db:=dh h
def zZ{V:qH}{k:Int}{c:pM}(h:DI V k=Fa c):∃n:Nat,k=(n:Int)/\V.calls[n]?=Fa c:=by
 by_cases g:wV V.calls.length k=pc
 .obtain⟨n,c',e1,e2,e3⟩:=yl g;cases e3.symm.trans h;exact⟨n,e1,e2⟩
 .cases(dh g).symm.trans h
def RG{c:pM}(sh:AO lf c)(h:¬(c.st=="held")=pc):c.hd=Db:=by
 rcases sh with⟨_,_,e,_⟩|⟨_,⟨_,_,e,_⟩|⟨_,_,e,_⟩|⟨_,e,_⟩|⟨_,_,e,_⟩⟩
 .exact e
 .exact e
 .exact e
 .exact absurd (by rw[e];rfl) h
 .exact e
def P6(l:pR)(V:qH)(w x:Str)(k:Int):Br l V w x [k]=((DI V k).elim (Fa "call") λc=>if D3 w x [c]=lf then Fa "call" else if (w=="answer"||w=="back")=lf then Db else if ((rM V x).isNone&&(c.mZ x&&!(sD l V x)))=pc then Fa "full" else rM V x:Option Str):=by
 unfold Br;by_cases g:wV V.calls.length k=pc
 .obtain⟨n,c,rfl,e1,e2⟩:=yl g;have ec:tw V [(n:Int)]=[c]:=gX (f:=λi:Int=>V.calls[i.toNat]?) (show V.calls[(n:Int).toNat]?=Fa c from e1);rw[eL,mM,g,ec,e2];rfl
 .rw[y0 g,eL,dB.mpr g];rfl
def W6(l:pR)(V:qH)(w x:Str)(k m:Int)(hw:(w=="answer"||w=="back")=lf):Br l V w x [k,m]=((DI V k).elim (Fa "call") λc=>(DI V m).elim (Fa "call") λd=>if D3 w x [c,d]=lf then Fa "call" else Db:Option Str):=by
 unfold Br;by_cases g:wV V.calls.length k=pc
 .obtain⟨n,c,rfl,e1,e2⟩:=yl g;by_cases g':wV V.calls.length m=pc
  .obtain⟨n',d,rfl,e3,e4⟩:=yl g';have ec:tw V [(n:Int),(n':Int)]=[c,d]:=(gX (f:=λi:Int=>V.calls[i.toNat]?) (show V.calls[(n:Int).toNat]?=Fa c from e1)).trans (eZ (c::·) (gX (f:=λi:Int=>V.calls[i.toNat]?) (show V.calls[(n':Int).toNat]?=Fa d from e3)));rw[eL,eL,mM,g,g',ec,e2,e4,dw hw];rfl
  .rw[y0 g',eL,eL,dB.mpr g',g,e2];rfl
 .rw[y0 g,eL,dB.mpr g];rfl
def BP:Fq P w K mg base 1 a.S (LV a):=by
 refine fq G.S.toDG x8 (λr u=>⟨_,(pF (uP ft Z' (qL (pK v0)) (rC 2 x8)
 (pG (pV (W3.b3 (tq (pN u U1 (pK U2)) (sL (W3.b3 (ut (pN u (pK U2) pJ) (tH (pN u (pK U2) U1)))))))
 (pG (pL pJ))
 pO)))
 (pF (uP ft Z' (qL (pK v0)) (rC 2 x8)
 (pG (pV (W3.b3 (tq (pN u (pK U2) (pW (rQ pJ pJ))) (sL (pN u (pK U2) U1))))
 (pG (pL pJ))
 pO)))
 (pG (pL rb)))),?_⟩)
 rintro ds M Q ⟨A,V,l,x,rfl,rd,wf,q⟩
 rw[Pj]at q;refine P7 (t:=Tq _ _ _) (λU M'=>M=M'/\V.calls.any (·.nk x)=lf/\∃y,U=[Fa (.ref A.b),Fa (.str x),y]) (λnx h=>?_) ?_
 .refine pH rd.bd.at_ (i' Z' (i' rd.bd.ca ?_));refine vN (A.cs.map λk=>D.ref k.p) (λpre U M'=>M=M'/\(V.calls.take pre.length).any (·.nk x)=lf/\∃y,U=[Fa (.ref A.b),Fa (.str x),y]) (λ_ _ M' j=>by rw[<-j.1];exact rd.bd.ca) _ [] _ _ Z' ⟨Z',Z',Db,Z'⟩ ?_ ?_
  .rintro pre d post e U _ ⟨rfl,hp,y,rfl⟩ nx2 X0
   obtain⟨k,c,e1,e2,rfl,hc,et⟩:=ym rd.bd e;rw[dq,dX,et,jk,hp]at X0;have eb:=PY (x:=x) (wf.ok _ c e2).sh;have go:c.nk x=lf->nx2 [Fa (.ref A.b),Fa (.str x),Fa (.ref k.p)] M:=λz=>X0 _ _ ⟨Z',by rw[fR,z];rfl,_,Z'⟩;have yes:c.nk x=pc->∃XU,qO XU M/\Q (.str "bound") XU:=λz=>⟨M,.refl,by rw[dw (fY.mpr ⟨c,rg e2,z⟩)]at q;exact q⟩;obtain⟨ad,md,h1,h2,h3,h4,_⟩:=id hc;refine pH h1 (i' Z' (i' h4 ⟨Z',qm _,?_⟩));show if inD (.str x) (c.ms.map D.str)=pc then _ else _
   rw[rh];refine qv (c:=hasS c.ms x) (λg=>?_) (λg=>go (by rw[eb,dB.mpr g];rfl));refine pH h1 (i' Z' (qv (c:=c.st=="talks") (λg2=>yes (by rw[eb,g,g2];rfl)) (λg2=>?_)));refine pH h1 (i' Z' (i' Z' (i' (Ri _ _ _) (qv (c:=!(c.hd==Fa x)) (λg3=>yes (by rw[eb,g,g3,iL];rfl)) (λg3=>go (by rw[eb,dB.mpr g3,dB.mpr g2,gy,gF]))))))
  .rintro U M' ⟨rfl,hp,y,rfl⟩
   rw[de,rd.bd.len,fA]at hp;exact h _ _ ⟨Z',hp,_,Z'⟩
 rintro U _ ⟨rfl,hb,y,rfl⟩
 rw[dh (by rw[hb];exact Bool.noConfusion)]at q;refine pH rd.bd.at_ (i' Z' (i' rd.bd.ca ?_));refine vN (A.cs.map λk=>D.ref k.p) (λpre U M'=>M=M'/\(V.calls.take pre.length).any (·.ng x)=lf/\∃y,U=[Fa (.ref A.b),Fa (.str x),y]) (λ_ _ M' j=>by rw[<-j.1];exact rd.bd.ca) _ [] _ _ Z' ⟨Z',Z',y,Z'⟩ ?_ ?_
 .rintro pre d post e U _ ⟨rfl,hp,y,rfl⟩ nx2 X0
  obtain⟨k,c,e1,e2,rfl,hc,et⟩:=ym rd.bd e;rw[dq,dX,et,jk,hp]at X0;have eb:c.ng x=((c.st=="rings"||c.st=="waits")&&(c.cr==x)):=by unfold pM.ng;rw[mL (a:=x)]
  have go:c.ng x=lf->nx2 [Fa (.ref A.b),Fa (.str x),Fa (.ref k.p)] M:=λz=>X0 _ _ ⟨Z',by rw[fR,z];rfl,_,Z'⟩;obtain⟨ad,md,h1,h2,h3,h4,_⟩:=id hc;refine pH h1 (i' Z' ⟨pD Z',Z',Z',?_⟩);show if inD (.str c.st) [.str "rings",.str "waits"]=pc then _ else _
  rw[Vs];refine qv (λg=>?_) (λg=>go (by rw[eb,dB.mpr g];rfl));refine pH h1 (i' Z' (qv (c:=c.cr==x) (λg2=>⟨M,.refl,?_⟩) (λg2=>go (by rw[eb,dB.mpr g2,gF]))));rw[dw (fY.mpr ⟨c,rg e2,by rw[eb,g,g2];rfl⟩)]at q;exact q
 .rintro U M' ⟨rfl,hp,y,rfl⟩
  rw[de,rd.bd.len,fA]at hp;rw[dh (by rw[hp];exact Bool.noConfusion)]at q;exact⟨M,.refl,q⟩
def Hu:Fq P w K mg base 1 a.ak (NJ a):=by
 refine fq G.ak.toDG vb (λr u=>⟨_,(pF (pU 2 vb pI)
 (pF (uP ft Z' (qL (pK v0)) (rC 3 vb)
 (pF (pU 4 vb (Er (ql u U1 (pK U3)) (rN (sv (ql u (pK U3) pJ) (rN (ql u U1 (pK U3)))))))
 (pG (pV (W3.b3 (ut (sR v4) (tH (W3.b3 (tq (pN u (pK U3) (pW (rQ pJ pJ))) (sL (pN u (pK U3) U1)))))))
 (pG (pU 2 vb (qe U2 pI)))
 pO))))
 (pG (pL (ql u U2 (pS (qP Z' (yh (ix:=[Db,Fa 1]) (N':=["_law_phone","_law_a"])) (qL (pK (pK v0))) (qM 0) (vI (pN u (pS v0 pI) U1)) (pS v0 pI)) pI)))))),?_⟩)
 rintro ds M Q ⟨A,V,l,x,rfl,rd,wf,hx,q⟩
 have hz:=dR;refine P7 (t:=CU _ _) (λU M'=>M=M'/\U=[Fa (.ref A.b),Fa (.str x),Fa (.int 0),Db,Db]) (λnx h=>h _ _ ⟨Z',Z'⟩) ?_
 rintro U _ ⟨rfl,rfl⟩
 refine P7 (t:=Tq _ _ _) (λU M'=>M=M'/\∃y z,U=[Fa (.ref A.b),Fa (.str x),Fa (.int (uT V x:Nat)),y,z]) (λnx h=>?_) ?_
 .refine pH rd.bd.at_ (i' Z' (i' rd.bd.ca ?_));refine vN (A.cs.map λk=>D.ref k.p) (λpre U M'=>M=M'/\∃y z,U=[Fa (.ref A.b),Fa (.str x),Fa (.int (((V.calls.take pre.length).filter (·.hasB x)).length:Nat)),y,z]) (λ_ _ M' j=>by rw[<-j.1];exact rd.bd.ca) _ [] _ _ Z' ⟨Z',Db,Db,Z'⟩ ?_ ?_
  .rintro pre d post e U _ ⟨rfl,y,y2,rfl⟩ nx2 X0
   obtain⟨k,c,e1,e2,rfl,hc,et⟩:=ym rd.bd e;rw[dq,dX,et,iO,dq]at X0;have eb:=SR (x:=x) (wf.ok _ c e2).sh;obtain⟨ad,md,h1,h2,h3,h4,_⟩:=id hc;generalize ((V.calls.take pre.length).filter (·.hasB x)).length=m0 at X0 ⊢;have go:∀y,c.hasB x=lf->nx2 [Fa (.ref A.b),Fa (.str x),Fa (.int (m0:Nat)),Fa (.ref k.p),y] M:=λy z=>X0 _ _ ⟨Z',_,_,by rw[hU (by rw[z];exact Bool.noConfusion)];rfl⟩;have more:∀y,c.hasB x=pc->nx2 [Fa (.ref A.b),Fa (.str x),Fa (.int ((m0:Nat)+1)),Fa (.ref k.p),y] M:=λy z=>X0 _ _ ⟨Z',_,_,by rw[hJ (by exact z)];rfl⟩;dsimp only[tU];refine P7 (t:=CU _ _) (λU M'=>M=M'/\U=[Fa (.ref A.b),Fa (.str x),Fa (.int (m0:Nat)),Fa (.ref k.p),Fa (.bl (hasS c.ms x||((c.st=="rings")&&hasS c.at_ x)))]) (λnx h=>?_) ?_
   .refine pH h1 (i' Z' (i' h4 ⟨Z',qm _,?_⟩));show if inD (.str x) (c.ms.map D.str)=pc then _ else _
    rw[rh];refine qv (c:=hasS c.ms x) (λg=>h _ _ ⟨Z',by rw[g];rfl⟩) (λg=>?_);rw[dB.mpr g]at h;refine pH h1 (i' Z' (qv (c:=c.st=="rings") (λg2=>?_) (λg2=>h _ _ ⟨Z',by rw[dB.mpr g2];rfl⟩)));rw[g2]at h;refine pH h1 (i' Z' (i' h3 ⟨Z',qm _,?_⟩));refine h _ _ ⟨Z',?_⟩;show _=[_,_,_,_,Fa (D.bl (hasS c.at_ x))];rw[show hasS c.at_ x=inD (.str x) (c.at_.map D.str)from(rh ..).symm];rfl
   .rintro U _ ⟨rfl,rfl⟩
    refine qv (c:=hasS c.ms x||((c.st=="rings")&&hasS c.at_ x)) (λg=>more _ (by rw[eb,g];rfl)) (λg=>?_);have g:=dB.mpr g;refine pH h1 (i' Z' ⟨pD Z',Z',Z',?_⟩);show if inD (.str c.st) [.str "rings",.str "waits"]=pc then _ else _
    rw[Vs];refine qv (λg2=>?_) (λg2=>go _ (by rw[eb,g,show(c.st=="rings"||c.st=="waits")=lf from dB.mpr g2];rfl));exact pH h1 (i' Z' (qv (c:=c.cr==x) (λg3=>more _ (by rw[eb,g,g2,g3];rfl)) (λg3=>go _ (by rw[eb,g,g2,dB.mpr g3];rfl))))
  .rintro U M' ⟨rfl,y,z,rfl⟩
   refine h _ _ ⟨Z',y,z,?_⟩;rw[de,rd.bd.len,fA];rfl
 rintro U _ ⟨rfl,y,z,rfl⟩
 obtain⟨ph,gr,ws,Zg,pr,gd,rs,i1,i2,_⟩:=rd.pl;have p8:=rd.ok.p8;obtain⟨v,hv⟩:=w9 hx;have q:Q (.bl (decide ((uT V x:Int)<wm l x))) M:=q;rw[Hf hv]at q;obtain⟨r,er⟩:∃r,l.mV.filter (λp=>decide (p.1=x))=v::r:=by
  have hh:=List.head?_filter (l:=l.mV) (p:=λp:uL=>decide (p.1=x));rw[show l.mV.find? _=Fa v from hv]at hh;cases h:l.mV.filter (λp=>decide (p.1=x))with
  | nil=>rw[h]at hh;cases hh
  | cons u r=>rw[h]at hh;cases hh;exact⟨r,Z'⟩
 refine pH rd.bd.at_ (i' Z' (pH i1 (i' Z' (i' i2 (tG (f:=UA) (t:=Xh x) i2 _ [] _ (by rw[de];simp only[dS];lia) (λd hd k0 hk=>?_) (λd hd _ k0 hk=>?_) λp hp=>?_)))))
 .obtain⟨u,_,rfl⟩:=dJ.mp hd;exact hk
 .obtain⟨u,_,rfl⟩:=dJ.mp hd;exact hk
 have ef:[]++((l.mV.map rD).filter (Xh x)).map UA=(l.mV.filter λp=>decide (p.1=x)).map λv=>D.int v.2.1:=by rw[eB,gK,eG];rfl
 rw[ef,er];exact i' pT (i' (vX _ _) ⟨M,.new hp,q⟩)
def E2:Fq P w K mg base 1 a.J (S8 a):=by
 refine fq G.J.toDG B7 (λr u=>⟨_,(pG (pL (sv (ur u pI U1 (qa qD Z' G.g qB (qz (pK v0)))) (rN (ql u (pK (pS (pK v0) U1)) U2))))),?_⟩)
 rintro ds M Q ⟨A,V,l,k,s,rfl,rd,q⟩
 have lca:((A.cs.map λk=>D.ref k.p).length:Int)=V.calls.length:=by rw[de,rd.bd.len]
 refine qv (c:=decide (0<=k)) (λg=>?_) (λg=>?_)
 .refine pH rd.bd.at_ (i' Z' (i' rd.bd.ca ?_));rw[lca];refine qv (c:=decide (k<V.calls.length)) (λg2=>?_) (λg2=>?_)
  .obtain⟨n,c,rfl,e1,e2⟩:=yl (V:=V) (k:=k) (by show(decide _&&decide _)=pc;rw[g,g2];rfl);rw[e2]at q;obtain⟨kk,ek,ad,md,h1,_⟩:=rd.call e1;exact pH rd.bd.at_ (i' Z' (i' Z' (i' rd.bd.ca (i' (qX ek) (pH h1 (i' Z' ⟨M,.refl,q⟩))))))
  .rw[y0 (show ¬(decide _&&decide _)=pc by rw[dB.mpr g2,gF];exact Bool.noConfusion)]at q;exact⟨M,.refl,q⟩
 .rw[y0 (show ¬(decide _&&decide _)=pc by rw[dB.mpr g];exact Bool.noConfusion)]at q;exact⟨M,.refl,q⟩
def NX:Fq P w K mg base 2 a.bB (JH (λc x=>c.hd==Fa x) a):=by
 refine fq G.bB.toDG G0 (λr u=>⟨_,(pG (pL (sv (pP (E2 G) r G.J (rc v0 U2 pJ)) (rN (ql u (pK (pS (pK v0) U2)) U1))))),?_⟩)
 rintro ds M Q ⟨A,V,l,x,k,rfl,rd,wf,q⟩
 refine⟨A,V,l,k,"held",Z',rd,?_⟩;cases e:DI V k with
 | none=>rw[e]at q;exact⟨M,.refl,q⟩
 | some c=>
  obtain⟨n,rfl,e1⟩:=zZ e;rw[e]at q;obtain⟨kk,ek,ad,md,h1,_⟩:=rd.call e1;refine qv (c:=c.st=="held") (λg=>?_) (λg=>?_)
  .exact pH rd.bd.at_ (i' Z' (i' Z' (i' rd.bd.ca (i' (qX ek) (pH h1 (i' Z' (i' Z' (i' (Ri _ _ _) ⟨M,.refl,q⟩))))))))
  .have q:Q (.bl (c.hd==Fa x)) M:=q;rw[RG (wf.ok _ c e1).sh g]at q;exact⟨M,.refl,q⟩
def HD:Fq P w K mg base 2 a.al (JH pM.ni a):=by
 refine fq G.al.toDG Hk (λr u=>⟨_,(pG (pL (sv (pP (E2 G) r G.J (rc v0 U2 pJ)) (sv (ql u (qa qD Z' G.g qB (qz (pK (pS (pK v0) U2)))) pI) (rN (ql u U1 (pK (pS (pK v0) U2)))))))),?_⟩)
 rintro ds M Q ⟨A,V,l,x,k,rfl,rd,wf,q⟩
 refine⟨A,V,l,k,"talks",Z',rd,?_⟩;cases e:DI V k with
 | none=>rw[e]at q;exact⟨M,.refl,q⟩
 | some c=>
  obtain⟨n,rfl,e1⟩:=zZ e;rw[e]at q;have q:Q (.bl (((c.st=="talks")&&hasS c.ms x)&&(c.ms.length==2))) M:=q;obtain⟨kk,ek,ad,md,h1,h2,h3,h4,_⟩:=rd.call e1;refine qv (c:=c.st=="talks") (λg=>?_) (λg=>?_)
  .rw[g,eN]at q;refine pH rd.bd.at_ (i' Z' (i' Z' (i' rd.bd.ca (i' (qX ek) (pH h1 (i' Z' (i' h4 ?_)))))));rw[de];have el:(((c.ms.length:Nat):Int)==2)=(c.ms.length==2):=by rw[gf,fh,fh];lia
   refine qv (c:=((c.ms.length:Nat):Int)==2) (λg2=>?_) (λg2=>?_)
   .rw[<-el,g2,kW]at q;exact pH rd.bd.at_ (i' Z' (i' Z' (i' rd.bd.ca (i' (qX ek) (pH h1 (i' Z' (CW h4 ⟨M,.refl,q⟩)))))))
   .rw[<-el,dB.mpr g2,gF]at q;exact⟨M,.refl,q⟩
  .rw[dB.mpr g]at q;exact⟨M,.refl,q⟩
def Pc:Fq P w K mg base 3 a.bC (Jm "answer" a):=by
 refine fq G.bC.toDG va (λr u=>⟨_,(pF (pU 3 va (pP (E2 G) r G.J (rc v0 U2 pJ)))
 (pF (pU 4 va (pP (E2 G) r G.J (rc v0 U2 pJ)))
 (pF (pV (W3.b3 (ut (W3.b3 (tq (tj (sR U3)) (sL (tj (sR v4))))) (tH (pN u U1 (pK (pS (pK v0) U2))))))
 (pG (pL pJ))
 pO)
 (pF (pU 5 va (pP (BP G) r G.S (rQ v0 U1)))
 (pF (pV (W3.b3 (tq (pN u v5 rb) (tq (sR v4) (sL (tj (sR (pP (Hu G) r G.ak (rQ v0 U1))))))))
 (pG (pL pJ))
 pO)
 (pG (pL v5))))))),?_⟩)
 rintro ds M Q ⟨A,V,l,x,k,rfl,rd,wf,hx,q⟩
 rw[P6]at q;refine⟨A,V,l,k,"rings",Z',rd,⟨A,V,l,k,"waits",Z',rd,?_⟩⟩;cases e:DI V k with
 | none=>rw[e]at q;exact⟨M,.refl,q⟩
 | some c=>
  obtain⟨n,rfl,e1⟩:=zZ e;rw[e]at q;have q:Q (wC (if hasS c.at_ x=lf then Fa "call" else if ((rM V x).isNone&&(((c.st=="waits")&&hasS c.at_ x)&&!(sD l V x)))=pc then Fa "full" else rM V x)) M:=q;obtain⟨kk,ek,ad,md,h1,h2,h3,h4,_⟩:=rd.call e1;have sh:=(wf.ok _ c e1).sh;clear e e1;have go:∀b:Bool,(c.st=="waits")=b->∃XU,qO XU M/\Q (wC (if hasS c.at_ x=lf then Fa "call" else if ((rM V x).isNone&&((b&&hasS c.at_ x)&&!(sD l V x)))=pc then Fa "full" else rM V x)) XU:=λb hb=>⟨M,.refl,by rw[hb]at q;exact q⟩;clear q;obtain⟨st,cr,way,at_,ms,hd,si,wd⟩:=c;unfold AO at sh;dsimp only at sh go h3;rcases sh with⟨rfl,_⟩|⟨_,⟨rfl,_⟩|⟨rfl,_,_,_,rfl⟩|⟨y,rfl,_,_,_,_,rfl⟩|⟨rfl,_,_,rfl,_⟩⟩
  all_goals try exact go lf Z'
  all_goals
   refine pH rd.bd.at_ (i' Z' (i' Z' (i' rd.bd.ca (i' (qX ek) (pH h1 (i' Z' (i' h3 ⟨Z',qm _,?_⟩)))))));show if (!(inD (.str x) (at_.map D.str)))=pc then _ else _
   rw[rh];have q:=go _ Z';refine qv (c:=!(hasS at_ x)) (λg=>by rw[dw (by simpa using g)]at q;exact q) (λg=>?_);rw[show hasS at_ x=pc by simpa using g]at q;refine⟨A,V,l,x,Z',rd,wf,?_⟩;cases e:rM V x with
   | some w0=>rw[e]at q;exact q
   | none=>
    rw[e]at q
    try exact q
    all_goals
     refine⟨A,V,l,x,Z',rd,wf,hx,?_⟩;generalize sD l V x=b at q ⊢;cases b<;>exact q
def Mw:Fq P w K mg base 1 a.bD (Jm "hang" a):=by
 refine fq G.bD.toDG AR (λr u=>⟨_,(pF (pV (tj (zT u pI U2 (qa qD Z' G.g qB (qz (pK v0)))))
 (pG (pL pJ))
 pO)
 (pF (pU 3 AR (pS (pK v0) U2))
 (pF (pV (W3.b3 (ut (pN u U1 (pK U3)) (ut (pN u U1 (pK U3)) (tH (W3.b3 (tq (pN u (pK U3) (pW (rQ pJ pJ))) (sL (pN u (pK U3) U1))))))))
 (pG (pL rb))
 pO)
 (pG (pL pJ))))),?_⟩)
 .rintro ds M Q ⟨A,V,l,x,k,rfl,rd,wf,hx,q⟩
  have lca:((A.cs.map λk=>D.ref k.p).length:Int)=V.calls.length:=by rw[de,rd.bd.len]
  rw[P6]at q;refine qv (c:=decide (0<=k)) (λg=>?_) (λg=>?_)
  .refine pH rd.bd.at_ (i' Z' (i' rd.bd.ca ?_));rw[lca];refine qv (c:=!(decide (k<V.calls.length))) (λg2=>?_) (λg2=>?_)
   .rw[y0 (show ¬(decide _&&decide _)=pc by rw[show decide (k<(V.calls.length:Int))=lf by simpa using g2,gF];exact Bool.noConfusion)]at q;exact⟨M,.refl,q⟩
   .obtain⟨n,c,rfl,e1,e2⟩:=yl (V:=V) (k:=k) (by show(decide _&&decide _)=pc;rw[g,show decide (k<(V.calls.length:Int))=pc by simpa using g2];rfl);rw[e2]at q;have q:Q (wC (if ((((c.st=="rings"||c.st=="waits")&&(x==c.cr))||(hasS c.at_ x||hasS c.ms x))=lf)then Fa "call" else Db)) M:=q;rw[mL (a:=x)]at q;obtain⟨kk,ek,ad,md,h1,h2,h3,h4,_⟩:=rd.call e1;refine pH rd.bd.at_ (i' Z' (i' Z' (i' rd.bd.ca (i' (qX ek) ?_))));refine pH h1 (i' Z' (i' h3 ⟨Z',qm _,?_⟩));show if inD (.str x) (c.at_.map D.str)=pc then _ else _
    rw[rh];refine qv (c:=hasS c.at_ x) (λg=>⟨M,.refl,by rw[g,gU,iL]at q;exact q⟩) (λg3=>?_);rw[dB.mpr g3,fK]at q;refine pH h1 (i' Z' (i' h4 ⟨Z',qm _,?_⟩));show if inD (.str x) (c.ms.map D.str)=pc then _ else _
    rw[rh];refine qv (c:=hasS c.ms x) (λg=>⟨M,.refl,by rw[g,iL]at q;exact q⟩) (λg4=>?_);rw[dB.mpr g4,gy]at q;refine pH h1 (i' Z' ⟨pD Z',Z',Z',?_⟩);show if inD (.str c.st) [.str "rings",.str "waits"]=pc then _ else _
    rw[Vs];refine qv (λg5=>?_) (λg5=>?_)
    .rw[g5,eN]at q;refine pH h1 (i' Z' (qv (c:=c.cr==x) (λg=>?_) (λg=>?_)))
     .rw[g]at q;exact⟨M,.refl,q⟩
     .rw[dB.mpr g]at q;exact⟨M,.refl,q⟩
    .rw[show(c.st=="rings"||c.st=="waits")=lf from dB.mpr g5,eR]at q;exact⟨M,.refl,q⟩
  .rw[y0 (show ¬(decide _&&decide _)=pc by rw[dB.mpr g];exact Bool.noConfusion)]at q;exact⟨M,.refl,q⟩
seal L3.E3 L3.B3 L3.A3 L3.S3 L3.HZ L3.GK
def tE.in_(l:pR):tE->Prop
 | .call y z=>y∈l.pn/\z∈l.nm
 | .num _ x _=>x∈l.pn
 | _=>False
def Ms(a:Ad):rB:=λds M Q=>Au λA V l e=>ds=[.ref (tP.b A),tE.d e]/\Rd a M A V l/\WF l V/\e.nC/\e.in_ l/\Q (wC (wu l V e)) M
def Qd(a:Ad):rB:=λds M Q=>IS λA V l e o n=>ds=[.ref (tP.b A),tE.d e,.ref o,.ref n]/\Rd a M A V l/\WF l V/\e.nC/\oN M o=Fa (l.pn.map D.str)/\oN M n=Fa (l.nm.map D.str)/\Q (wC (wu l V e)) M
def Qj(a:Ad):rB:=λds M Q=>Uh λM0 b A V l c n e=>ds=[.ref b,tE.d e]/\uQ a M0 M b A V l c n/\c<10000/\n<=5000000/\WF l V/\e.nC/\(wu l V e=Db->∀M' A',uQ a M0 M' b A' (qS V (xB l V e)) l (c+1) (n+40+33*c)->rf A M A' M'->Q .mY M')/\(∀w,wu l V e=Fa w->Q (.str w) M)
def L'{l:pR}{x:Str}(h:x∈l.pn):hasS l.pn x=pc:=qN.mpr h
def R1:Fq P w K mg base 4 a.bE (Ms a):=by
 refine fq G.bE.toDG rF (λr u=>⟨_,(pF (EU (sy U1 tL (sT pI)) (ve (n:=3) Z' (qF (rC 2 rF) (qF (rC 3 rF) (qF (rC 4 rF) ub)))))
 (pF (pV (pN u U2 pJ)
 (pF (pU 5 rF (pP (BP G) r G.S (rQ v0 U3)))
 (pF (pV (W3.b3 (tq (pN u v5 rb) (sL (tj (sR (pP (Hu G) r G.ak (rQ v0 U3)))))))
 (pG (pL pJ))
 pO)
 (pG (pL v5))))
 pO)
 (pF (pV (pN u U2 pJ)
 (pG (pL (pP (Pc G) r G.bC (rc v0 U3 v4))))
 pO)
 (pF (pV (pN u U2 pJ)
 (pG (pL (pP (Mw G) r G.bD (rc v0 U3 v4))))
 pO)
 (pF (pU 6 rF (pP (NX G) r G.bB (rc v0 U3 v4)))
 (pF (pV (pN u U2 pJ)
 (pG (pU 6 rF (pP (HD G) r G.al (rc v0 U3 v4))))
 pO)
 (pF (pV (W3.b3 (ut (pN u U2 pJ) (tH (pN u U2 pJ))))
 (pG (pU 6 rF (sv v6 (rN (pP (HD G) r G.al (rc v0 U3 (pS U1 pI)))))))
 pO)
 (pF (pV (tj (sR v6))
 (pG (pL pJ))
 pO)
 (pF (pV (pN u U2 pJ)
 (pG (pL (pP (BP G) r G.S (rQ v0 U3))))
 pO)
 (pG (pL rb))))))))))),?_⟩)
 rintro ds M Q ⟨A,V,l,e,rfl,rd,wf,f,hi,q⟩
 cases e with
 | turn=>cases hi
 | sw b i=>cases hi
 | call y z=>
  obtain⟨hy,hz⟩:=hi;have q:Q (wC (if hasS l.pn y=lf then Fa "name" else Cw l V y z)) M:=q;unfold Cw at q;rw[dh (by rw[L' hy];exact Bool.noConfusion),dh (by rw[qN.mpr hz];exact Bool.noConfusion)]at q;refine⟨Z',A,V,l,y,Z',rd,wf,?_⟩;cases e:rM V y with
  | some w0=>rw[e]at q;exact⟨M,.refl,q⟩
  | none=>
   rw[e]at q;refine⟨A,V,l,y,Z',rd,wf,hy,?_⟩;refine qv (c:=!(sD l V y)) (λg=>?_) (λg=>?_)
   .rw[g]at q;exact⟨M,.refl,q⟩
   .rw[dB.mpr g]at q;exact⟨M,.refl,q⟩
 | num wd x ns=>
  have hi:x∈l.pn:=hi;have q:Q (wC (if hasS l.pn x=lf then Fa "name" else Br l V wd x ns)) M:=q;rw[dh (by rw[L' hi];exact Bool.noConfusion)]at q;rcases f with⟨hw,hl⟩|⟨hw,hl⟩
  .obtain⟨k,rfl⟩:∃k,ns=[k]:=iV.mp hl;rcases hw with rfl|rfl|rfl|rfl
   .exact⟨Z',A,V,l,x,k,Z',rd,wf,hi,M,.refl,q⟩
   .exact⟨Z',A,V,l,x,k,Z',rd,wf,hi,M,.refl,q⟩
   .refine⟨Z',A,V,l,x,k,Z',rd,wf,A,V,l,x,k,Z',rd,wf,?_⟩;rw[P6]at q;cases e:DI V k with
    | none=>rw[e]at q;exact⟨M,.refl,q⟩
    | some c=>
     rw[e]at q;have q:Q (wC (if c.ni x=lf then Fa "call" else Db)) M:=q;refine qv (c:=!(c.ni x)) (λg=>?_) (λg=>?_)
     .rw[dw (by simpa using g)]at q;exact⟨M,.refl,q⟩
     .rw[dh (by simpa using g)]at q;exact⟨M,.refl,q⟩
   .refine⟨Z',A,V,l,x,k,Z',rd,wf,?_⟩;rw[P6]at q;cases e:DI V k with
    | none=>rw[e]at q;exact⟨M,.refl,q⟩
    | some c=>
     obtain⟨n,rfl,e1⟩:=zZ e;rw[e]at q;have q:Q (wC (if (c.hd==Fa x)=lf then Fa "call" else if ((rM V x).isNone&&(((c.st=="waits")&&hasS c.at_ x)&&!(sD l V x)))=pc then Fa "full" else rM V x)) M:=q;refine qv (c:=!(c.hd==Fa x)) (λg=>?_) (λg=>?_)
     .rw[dw (by simpa using g)]at q;exact⟨M,.refl,q⟩
     .have g:(c.hd==Fa x)=pc:=by simpa using g
      have st:c.st="held":=by
       by_cases h:(c.st=="held")=pc
       .exact wE h
       .rw[RG (wf.ok _ c e1).sh h]at g;cases g
      rw[dh (by rw[g];exact Bool.noConfusion),st,show(("held":Str)=="waits")=lf from rfl,eR,eR,gF]at q;exact⟨A,V,l,x,Z',rd,wf,M,.refl,q⟩
  .obtain⟨k,m,rfl⟩:∃k m,ns=[k,m]:=by
    match ns,hl with
    | [k,m],_=>exact⟨k,m,Z'⟩
   have q:Q (wC ((DI V k).elim (Fa "call") λc=>(DI V m).elim (Fa "call") λd=>if ((c.hd==Fa x)&&d.ni x)=lf then Fa "call" else Db)) M:=by rcases hw with rfl|rfl<;>(rw[W6 _ _ _ _ _ _ Z']at q;exact q)
   have XX:∃XU,qO XU M/\Q (wC (if (((DI V k).elim lf λc=>c.hd==Fa x)&&((DI V m).elim lf λd=>d.ni x))=lf then Fa "call" else Db)) XU:=⟨M,.refl,by
    cases e:DI V k with
    | none=>rw[e]at q;exact q
    | some c=>
     rw[e]at q;cases e2:DI V m with
     | none=>rw[e2]at q;show Q (wC (if ((c.hd==Fa x)&&lf)=lf then Fa "call" else Db)) M;rw[gF];exact q
     | some d=>rw[e2]at q;exact q⟩
   clear q;generalize hb1:((DI V k).elim lf λc=>c.hd==Fa x)=b1 at XX;generalize hb2:((DI V m).elim lf λd=>d.ni x)=b2 at XX;rcases hw with rfl|rfl
   all_goals
    refine⟨Z',A,V,l,x,k,Z',rd,wf,?_⟩;rw[hb1];cases b1 with
    | false=>exact XX
    | true=>
     refine i' Z' ⟨A,V,l,x,m,Z',rd,wf,?_⟩;rw[hb2];cases b2 with
     | false=>exact XX
     | true=>exact XX
def QN:Fq P w K mg base 5 a.bF (Qd a):=by
 refine fq G.bF.toDG IZ (λr u=>⟨_,(pF (pV (pN u (pS U1 pI) pJ)
 (pG (pL rb))
 pO)
 (pF (pV (W3.b3 (ut (pN u (pS U1 pI) pJ) (tH (pN u (pS U1 pI) pJ))))
 (pF (pV (W3.b3 (ut (tj (zT u pI (pS U1 pI) (qa qD Z' G.g qB (qz (pK v0))))) (tH (pN u (pS (pK v0) (pS U1 pI)) (ql u (pS U1 pI) pJ)))))
 (pG (pL pJ))
 pO)
 (pG (pL rb)))
 pO)
 (pF (pV (W3.b3 (ut (pN u (pS U1 pI) U2) (tH (W3.b3 (tq (pN u (pS U1 pI) pJ) (sL (pN u (pS U1 pI) U3)))))))
 (pG (pL pJ))
 pO)
 (pG (pL (pP (R1 G) r G.bE (rQ v0 U1))))))),?_⟩)
 rintro ds M Q ⟨A,V,l,e,o,n,rfl,rd,wf,f,ho,hn,q⟩
 cases e with
 | turn=>exact i' Z' ⟨M,.refl,q⟩
 | sw b i=>
  have lon:((V.on.map D.bl).length:Int)=V.on.length:=by rw[de]
  have q:∃XU,qO XU M/\Q (wC (if wV V.on.length i=lf then Fa "wish" else if (V.on.getD i.toNat lf==b)=pc then Fa "wish" else Db)) XU:=⟨M,.refl,q⟩;have no:¬wV V.on.length i=pc->∃XU,qO XU M/\Q (.str "wish") XU:=λh=>by rw[dB.mpr h]at q;exact q
  have yes:wV V.on.length i=pc->∃XU,qO XU M/\Q (wC (if (V.on.getD i.toNat lf==b)=pc then Fa "wish" else Db)) XU:=λh=>by rw[h]at q;exact q
  clear q;cases b
  all_goals
   refine i' Z' (i' Z' (i' Z' ?_))
   try refine i' Z' ?_
   refine qv (c:=decide (0<=i)) (λg=>?_) (λg=>no (show ¬(decide _&&decide _)=pc by rw[dB.mpr g];exact Bool.noConfusion));refine pH rd.bd.at_ (i' Z' (i' rd.bd.on ?_));rw[lon];refine qv (c:=!(decide (i<V.on.length))) (λg2=>no (show ¬(decide _&&decide _)=pc by rw[show decide (i<(V.on.length:Int))=lf by simpa using g2,gF];exact Bool.noConfusion)) (λg2=>?_);have Zk:wV V.on.length i=pc:=by show(decide _&&decide _)=pc;rw[g,show decide (i<(V.on.length:Int))=pc by simpa using g2];rfl
   have q:=yes Zk;refine pH rd.bd.at_ (i' Z' (i' rd.bd.on (i' (Md Zk) ?_)));generalize V.on.getD i.toNat lf=d at q ⊢;cases d<;>exact q
 | call y z=>
  have q:Q (wC (if hasS l.pn y=lf then Fa "name" else if hasS l.nm z=lf then Fa "name" else if ((rM V y).isNone&&!(sD l V y))=pc then Fa "full" else rM V y)) M:=q;refine i' ho ⟨Z',qm _,?_⟩;show if (!(inD (.str y) (l.pn.map D.str)))=pc then _ else _
  rw[rh];refine qv (c:=!(hasS l.pn y)) (λg=>⟨M,.refl,by rw[dw (by simpa using g)]at q;exact q⟩) (λg=>?_);have g:hasS l.pn y=pc:=by simpa using g
  refine i' hn ⟨Z',qm _,?_⟩;show if (!(inD (.str z) (l.nm.map D.str)))=pc then _ else _
  rw[rh];rw[dh (by rw[g];exact Bool.noConfusion)]at q;refine qv (c:=!(hasS l.nm z)) (λg2=>⟨M,.refl,by rw[dw (by simpa using g2)]at q;exact q⟩) (λg2=>?_);have g2:hasS l.nm z=pc:=by simpa using g2
  refine⟨A,V,l,.call y z,Z',rd,wf,f,⟨qN.mp g,qN.mp g2⟩,M,.refl,?_⟩;show Q (wC (if hasS l.pn y=lf then Fa "name" else if hasS l.nm z=lf then Fa "name" else if ((rM V y).isNone&&!(sD l V y))=pc then Fa "full" else rM V y)) M;rw[g,g2];rw[g2]at q;exact q
 | num wd x ns=>
  have q:∃XU,qO XU M/\Q (wC (if hasS l.pn x=lf then Fa "name" else Br l V wd x ns)) XU:=⟨M,.refl,q⟩;have a1:∀w:Str,wO (.str w::.str x::ns.map D.int) 1=Fa (.str x):=λw=>u9 (j:=1) Z';have go:hasS l.pn x=pc->Ms a [.ref A.b,tE.d (.num wd x ns)] M λd M'=>∃XU,qO XU M'/\Q d XU:=λg=>⟨A,V,l,.num wd x ns,Z',rd,wf,f,qN.mp g,q⟩;have f':=f;rcases f' with⟨rfl|rfl|rfl|rfl,_⟩|⟨rfl|rfl,_⟩
  all_goals
   refine i' (vX _ _) (i' (vX _ _) (i' (vX _ _) (i' (a1 _) (i' Z' (i' ho ⟨Z',qm _,?_⟩)))));show if (!(inD (.str x) (l.pn.map D.str)))=pc then _ else _
   rw[rh];refine qv (c:=!(hasS l.pn x)) (λg=>by rw[dw (by simpa using g)]at q;exact q) (λg=>?_);exact i' (vX _ _) (go (by simpa using g))
def Pa:Fq P w K mg base 14 a.bG (Qj a):=by
 refine fq G.bG.toDG vG (λr u=>⟨_,(pF (pU 2 vG rb)
 (pF (OW (ix:=2) (i:=3) (Og (U6 G) (r.mono (by first|decide|lia)) Z' G.L.mg G.L.toDG.kp G.L.b (rQ v0 U1)) Z' Z' Z' G.cf vG.nd Z' Z' Z' Z' (by decide))
 (pF (pV (pN u U2 rb)
 (pG (pL rb))
 pO)
 (pF (pV (W3.b3 (ut (tj (sR (qa xy Z' G.aU ul (rQ U2 (FR Z' G.b8))))) (tH (tj (sR (qa xy Z' G.aU ul (rQ U2 (RC Z' G.cU Ds))))))))
 (pG (pL pJ))
 pO)
 (pF (pV (W3.b3 (ut (sR (qa xy Z' G.aU ul (rQ U2 (FR Z' G.cg)))) (tH (sR (qa xy Z' G.aU ul (rQ U2 (FR Z' G.ch)))))))
 (pG (pL pJ))
 pO)
 (pG (pL (Qu U2)))))))),?_⟩)
 rintro ds M Q ⟨M0,b,A,V,l,c,n,e,rfl,cu,hc,hn,wf,hf,q,qf⟩
 refine⟨λC y M'=>C=a.w/\M=M'/\∃w,wu l V e=Fa w/\y=Fa (("word":Str),D.str w),?_,?_⟩
 .exact⟨M0,b,A,V,l,c,n,e,Z',cu,hc,hn,wf,hf,λh M' A' r c1 st hm=>⟨_,.new hm,q h M' A' c1 st⟩,λw h=>⟨Z',Z',w,h,Z'⟩⟩
 .rintro C y M' ⟨rfl,rfl,w,h,rfl⟩
  refine⟨G.ck,"word",w,Z',λx d M2 s2 hx em=>?_⟩;have ins:∀{c:D} {cv:Vl} {b:Bool} (K0:DK),TQ c=Fa cv->W.kitOne K (.ref a.w) cv=Fa b->K0 (.bl b) M2->GK K [.ref x,c] M2 K0:=λK0 hc hk k=>by unfold GK;exact⟨_,_,em,G.b9.ci,i' hc (i' hk k)⟩
  refine ins _ Z' G.cQ (ins _ Z' G.cR (ins _ Z' G.cS (ins _ Z' G.cT ?_)));exact⟨x,a.w,d,w,Z',em,G.b9,M,s2,qf w h⟩
def QX(a:Ad):rB:=λds M Q=>IS λA V l c o n=>ds=[.ref (tP.b A),.int c,.ref o,.ref n]/\Rd a M A V l/\oN M o=Fa (l.pn.map D.str)/\oN M n=Fa (l.nm.map D.str)/\∀M' (e:tE),qO M M'->e.nC->Q e.d M'
def OM(a:Ad):rB:=λds M Q=>K' λM0 N b A V l m e o n=>ds=[.ref b,tE.d e,.ref o,.ref n]/\Lp a M0 N M b A V l m/\m<=126/\e.nC/\oN M o=Fa (l.pn.map D.str)/\oN M n=Fa (l.nm.map D.str)/\∀M' A' V',Lp a M0 N M' b A' V' l (m+1)->Q (.bl pc) M'
def N0{V:qH}{r p r1 r2 p1 p2:Uf}(hr:oN M r=Fa [Bd V,.ref r1,.ref r2])(hp:oN M p=Fa [Bd V,.ref p1,.ref p2])(h1:oN M r1=Fa (V.nq.map sA.d))(h2:oN M p1=Fa (V.nq.map sA.d))(h3:oN M r2=Fa (V.log.map Ev.d))(h4:oN M p2=Fa (V.log.map Ev.d)):xA M 9 (.ref r) (.ref p)=Fa pc:=by
 have e1:xA M 8 (Bd V) (Bd V)=Fa pc:=zG 7 _ (Ou V);have e2:xA M 8 (.ref r1) (.ref p1)=Fa pc:=Eg h1 h2 λd hd=>by obtain⟨v,_,rfl⟩:=dJ.mp hd;exact zG 6 _ Z'
 have e3:xA M 8 (.ref r2) (.ref p2)=Fa pc:=Eg h3 h4 λd hd=>by obtain⟨v,_,rfl⟩:=dJ.mp hd;exact zG 6 _ (P9 v)
 show(oN M r).bind (λi=>(oN M p).bind λj=>if i.length=j.length then sQ (xA M 8) i j else Fa lf)=Fa pc;rw[hr,hp];show((xA M 8 (Bd V) (Bd V)).bind λp=>((xA M 8 (.ref r1) (.ref p1)).bind λp=>((xA M 8 (.ref r2) (.ref p2)).bind λp=>(Fa pc).map λq=>p&&q).map λq=>p&&q).map λq=>p&&q)=Fa pc;rw[e1,e2,e3];rfl
def QS:Fq P w K mg base 3 a.bH (QX a):=by
 refine fq G.bH.toDG y9 (λr u=>⟨_,(pF (pU 4 y9 (pP (J7 G) r G.aj (qg U1 (rc U2 U3 (qa (SD Z') Z' G.cW RL (rQ (qa qD Z' G.g qB (qz (pK v0))) (qa qD Z' G.g qB (qz (pK v0)))))))))
 (pF (pU 5 y9 (qe (qe (qe U1 (qe (qe pI (LH pI pI)) pI)) (LH pI pI)) pI))
 (pF (pV (W3.b3 (tq (pN u (pS v4 pI) (pW (rQ pJ pJ))) (sL (pN u (qe U1 pI) pI))))
 (pG (pL (pW (rQ (pS v4 pI) v5))))
 pO)
 (pF (pV (W3.b3 (tq (pN u (pS v4 pI) (pW (qg pJ (rc pJ pJ pJ)))) (sL (pN u (qe U1 pI) pI))))
 (pG (pL (pW (rc (pS v4 pI) (pS v4 pI) v5))))
 pO)
 (pG (pL v4)))))),?_⟩)
 rintro ds M Q ⟨A,V,l,c,o,n,rfl,rd,ho,hn,q⟩
 have p8:=rd.ok.p8;have g3:=rd.ok.g3;have pq:=rd.ok.pq;have k6:=rd.k;have lca:((A.cs.map λk=>D.ref k.p).length:Int)=V.calls.length:=by rw[de,rd.bd.len]
 have lon:=rd.on;refine pH rd.bd.at_ (i' Z' (i' rd.bd.ca (pH rd.bd.at_ (i' Z' (i' rd.bd.on ?_)))));dsimp only[xH,SM];rw[lca,de];obtain⟨m,em,hm⟩:∃m:Nat,(if (V.on.length:Int)>(V.calls.length:Int)then(V.on.length:Int)else(V.calls.length:Int))=(m:Int)/\m<=1000000:=by
  split
  .exact⟨V.on.length,Z',by lia⟩
  .exact⟨V.calls.length,Z',by lia⟩
 refine⟨c,o,n,l.pn,l.nm,m,by rw[<-em],ho,hn,by unfold pR.pn;rw[de];lia,by unfold pR.nm pR.pn pR.gn;rw[dq,de,de];lia,hm,λM' e s f=>?_⟩;dsimp only[tU];refine P7 (t:=CU _ _) (λU M2=>M'=M2/\∃X8,U=[Fa (.ref A.b),Fa (.int c),Fa (.ref o),Fa (.ref n),Fa e.d,Fa (.int X8)]) (λnx h=>⟨⟨by decide,by decide,by decide⟩,.inl ⟨by decide,by decide⟩,by decide,⟨by decide,by decide,by decide⟩,h _ _ ⟨Z',_,Z'⟩⟩) ?_
 rintro U _ ⟨rfl,X8,rfl⟩
 have go:∀e:tE,e.nC->∃XU,qO XU M'/\Q e.d XU:=λe f=>⟨M',.refl,q M' e s f⟩;cases e with
 | call y z=>exact⟨pD Z',Z',Z',pD Z',Z',Z',go (.call y z) f⟩
 | turn=>exact⟨pD Z',Z',Z',pD Z',Z',Z',go .turn f⟩
 | sw b i=>
  cases b with
  | true=>exact⟨pD Z',Z',Z',by decide,qv (c:=c % 5==1) (λ_=>⟨pD Z',go (.sw pc X8) trivial⟩) (λ_=>⟨pD Z',Z',Z',go (.sw pc i) f⟩)⟩
  | false=>exact⟨pD Z',Z',Z',by decide,qv (c:=c % 5==1) (λ_=>⟨pD Z',go (.sw lf X8) trivial⟩) (λ_=>⟨pD Z',Z',Z',go (.sw lf i) f⟩)⟩
 | num wd x ns=>
  have f':=f;rcases f with⟨hw,hl⟩|⟨hw,hl⟩
  .obtain⟨k,rfl⟩:∃k,ns=[k]:=iV.mp hl;rcases hw with rfl|rfl|rfl|rfl
   all_goals exact⟨pD Z',Z',Z',pD Z',Z',Z',by decide,qv (c:=c % 5==1) (λ_=>⟨pD Z',go (.num _ x [X8]) f'⟩) (λ_=>go (.num _ x [k]) f')⟩
  .obtain⟨k,m,rfl⟩:∃k m,ns=[k,m]:=by
    match ns,hl with
    | [k,m],_=>exact⟨k,m,Z'⟩
   rcases hw with rfl|rfl
   all_goals exact⟨pD Z',Z',Z',pD Z',Z',Z',go (.num _ x [k,m]) f'⟩
def JX:Fq P w K mg base 15 a.am (OM a):=by
 refine fq G.am.toDG vp (λr u=>⟨_,(pF (pU 4 vp (qW (rc (pP (zb G) r G.N (qz v0)) (qp tO Z' G.z tK (qz (pK v0))) (qp tO Z' G.z tK (qz (pK v0))))))
 (pF (pU 5 vp (pP (QN G) r G.bF (qg v0 (rc U1 U2 U3))))
 (pF (pU 6 vp (pP (Cz G) r G.ad (rQ v0 U1)))
 (pF (pV (W3.b3 (ut (pN u v6 v5) (tH (W3.b3 (tq (pN u v5 rb) (sL (tj (sR (qa Lj Z' G.aU ul (rQ v6 (RC Z' G.cV SC)))))))))))
 (pG (pL wb))
 pO)
 (pF (pV (pN u (qW (rc (pP (zb G) r G.N (qz v0)) (pK v0) (pK v0))) v4)
 (pG (pL wb))
 pO)
 (pF (pV (pN u (pP (Pa G) r G.bG (rQ v0 U1)) v5)
 (pG (pL wb))
 pO)
 (pG (pL (Er (ql u v5 rb) (rN (ql u (qW (rc (pP (zb G) r G.N (qz v0)) (pK v0) (pK v0))) v4))))))))))),?_⟩)
 rintro ds M Q ⟨M0,N,b,A,V,l,m,e,o,n,rfl,g,hm,f,ho,hn,q⟩
 have hz:=dR;have eb:=g.cu.b;subst eb;have rd:=g.rd (by lia);have hc:=g.cu.sz.ca;refine⟨A,V,Z',rd.bd,by lia,g.ps,?_⟩;refine pH rd.bd.at_ (i' Z' (i' rd.bd.le λp1 Y8=>?_));obtain⟨M1,e0,t1,l1⟩:=xl (ds:=V.nq.map sA.d) Y8;rw[<-e0];have Y9:=rd.sub t1;refine pH Y9.bd.at_ (i' Z' (i' Y9.bd.lo λp2 X2=>?_));obtain⟨M2,e0,t2,l2⟩:=xl (ds:=V.log.map Ev.d) X2;rw[<-e0];refine⟨pD Z',λp hp=>?_⟩;obtain⟨M3,e0,t3,lp⟩:=xl (ds:=[Bd V,.ref p1,.ref p2]) hp;rw[<-e0];have s3:=t1.trans (t2.trans t3);have l1:=t3.lst (t2.lst l1);have l2:=t3.lst l2;clear t1 t2 t3 Y9 hp Y8 X2;have g:=g.sub s3;have rd:=g.rd (by lia);have eqs:∀{M4:Mp} (r:Uf),qO M3 M4->oN M4 r=Fa [Bd V,.ref A.le,.ref A.lo]->xA M4 9 (.ref r) (.ref p)=Fa pc:=λr s hr=>N0 hr (s.lst lp) (s.lst rd.bd.le) (s.lst l1) (s.lst rd.bd.lo) (s.lst l2);dsimp only[tU];refine⟨A,V,l,e,o,n,Z',rd,g.wf,f,s3.lst ho,s3.lst hn,⟨A,V,l,e,Z',rd,f,?_⟩⟩;cases er:wu l V e with
 | none=>refine⟨A,V,Z',rd.bd,by lia,g.ps,pH rd.bd.at_ (i' Z' (pH rd.bd.at_ (i' Z' ⟨pD Z',λr hr=>i' Z' (i' (eqs r (.new hr) pT) ?_)⟩)))⟩;have g4:=g.sub (.new (c:=.lst [Bd V,.ref A.le,.ref A.lo]) hr);exact⟨M0,A.b,A,V,l,_,_,e,Z',g4.cu,by lia,by lia,g4.wf,f,λh M5 A5 c5 ZK=>⟨M5,.refl,q M5 A5 _ (g4.after (by lia) f h c5 ZK)⟩,λw h=>by rw[er]at h;cases h⟩
 | some w0=>
  have eqw:¬(!(w0==w0))=pc:=by rw[fE];exact Bool.noConfusion
  refine qv (c:=!(w0==w0)) (λz=>absurd z eqw) (λ_=>?_);refine i' Z' ⟨λC z=>(by cases z),i' G.cP ?_⟩;refine⟨A,V,Z',rd.bd,by lia,g.ps,pH rd.bd.at_ (i' Z' (pH rd.bd.at_ (i' Z' ⟨pD Z',λr hr=>i' Z' (i' (eqs r (.new hr) pT) ?_)⟩)))⟩;obtain⟨M4,e0,t4,_⟩:=xl (ds:=[Bd V,.ref A.le,.ref A.lo]) hr;rw[<-e0];have g4:=g.sub t4;have rd4:=g4.rd (by lia);refine⟨M0,A.b,A,V,l,_,_,e,Z',g4.cu,by lia,by lia,g4.wf,f,(λh=>by rw[er]at h;cases h),λw h=>?_⟩;obtain rfl:w0=w:=by rw[er]at h;cases h;rfl
  refine qv (c:=!(w0==w0)) (λz=>absurd z eqw) (λ_=>?_);exact⟨A,V,Z',rd4.bd,by lia,g.ps,pH rd4.bd.at_ (i' Z' (pH rd4.bd.at_ (i' Z' ⟨pD Z',λr2 Zu=>i' Z' (i' (eqs r2 (t4.trans (.new Zu)) pT) ⟨_,.refl,q _ A V (g4.sub (.new Zu)).nG⟩)⟩)))⟩
def Nx:rB:=λds M Q=>∃ns:T0 Int,ds=[.rl (ns.map D.int)]/\ns.length<=63/\Q (.bl pc) M
def RX:Fq P w K mg base 17 a.an Nx:=by
 refine fq G.an.toDG BV (λr u=>⟨_,(pF (pU 1 BV (pP (Tz G) r G.bz (rQ v0 pI)))
 (pF (EU (pP (Ks G) r G.bA (qz U1)) (Qh (n:=2) Z' (qF (rC 2 BV) (qF (rC 3 BV) ub))))
 (pF (uP ft Z' (qL (sy v0 (sT pI) (sT pI))) (rC 4 BV)
 (pF (pV (tj (sR (pP (JX G) r G.am (qg U1 (rc (pP (QS G) r G.bH (qg U1 (rc (qe (qe v4 pI) pI) U2 U3))) U2 U3)))))
 (pG (pL wb))
 pO)
 (pG (pV (tj (sR (pP (JX G) r G.am (qg U1 (rc (pP (MS G) r G.bx (qg U1 (rc v4 U2 U3))) U2 U3)))))
 (pG (pL wb))
 pO))))
 (pG (pL wb))))),?_⟩)
 rintro ds M Q ⟨ns,rfl,hns,q⟩
 have hz:=dR;refine⟨ns,6,Z',by decide,by decide,λM0 M1 A p h s0 cu wf ps=>?_⟩;have p2:2<=(vF ns 6).mV.length:=Ih (by decide) (by decide);generalize vF ns 6=l at cu wf ps p2;generalize V0 p h l []=V at cu wf ps;have p8:=cu.ok.p8;have g3:=cu.ok.g3;have pl:l.pn.length=l.mV.length:=de ..;have nl:l.nm.length=l.mV.length+l.groups.length:=by unfold pR.nm pR.pn pR.gn;rw[dq,de,de]
 refine⟨A,V,l,Z',cu.rd (by decide) wf,λM2 r ro rn s2 hro hrn lr lo ln=>i' lr ⟨Z',?_⟩⟩;dsimp only[tU,Ax,GW];have nro:=cu.bd.oa hro;have nrn:=cu.bd.oa hrn;refine λsl ZM=>i' pT ?_;have t7:=qO.new (c:=.lst (L3.uu (ns.map D.int) (Fa 1) (Fa 64))) ZM;have l7:=@pT M2 sl (L3.uu (ns.map D.int) (Fa 1) (Fa 64));have hL:(L3.uu (ns.map D.int) (Fa 1) (Fa 64)).length<=63:=by unfold L3.uu;rw[fQ,gm,de];lia
 have hLi:∀d∈L3.uu (ns.map D.int) (Fa 1) (Fa 64),∃c,d=.int c:=λd hd=>by unfold L3.uu at hd;obtain⟨c,_,rfl⟩:=dJ.mp (jn (jm hd));exact⟨c,Z'⟩
 generalize L3.uu (ns.map D.int) (Fa 1) (Fa 64)=L at t7 l7 hL hLi ⊢;have n7:sl∉A.foot:=(cu.sub s2).bd.oa ZM;have lo:=t7.lst lo;have ln:=t7.lst ln;have s7:=s2.trans t7;generalize pQ M2 sl (.lst L)=M3 at l7 lo ln s7 ⊢;have i9:=Lp.mk0 (cu.sub s7) wf ps;have l7:=EZ l7 n7;have lo:=EZ lo nro;have ln:=EZ ln nrn;generalize Nb A M3=N at i9 l7 lo ln;have eb:A.b=A.b:=rfl;generalize hb:A.b=b at i9 ⊢;refine vN L (λpre U M'=>(∃A V,Lp a M0 N M' b A V l (2*pre.length))/\∃y4,U=[Fa (.rl (ns.map D.int)),Fa (.ref b),Fa (.ref ro),Fa (.ref rn),y4]) (λ_ _ M' j=>by obtain⟨A,V,g⟩:=j.1;exact g.s.lst l7) _ [] _ _ Z' ⟨⟨A,V,i9⟩,Db,Z'⟩ ?_ ?_
 .clear i9 n7 s7 t7 ZM eb cu wf ps hb lr nro nrn hro hrn
  rintro pre d post e U M' ⟨⟨A,V,g⟩,y4,rfl⟩ nx2 X0
  have hx:L[pre.length]?=Fa d:=by rw[<-e];simp
  have pl5:pre.length<63:=dU (dv.mp hx).1 hL;obtain⟨c0,rfl⟩:=hLi d (rg hx);rw[dq,dX]at X0;dsimp only[tU,Ax,GW];have eb:=g.cu.b;subst eb;refine⟨.inr ⟨by decide,by decide⟩,?_⟩;refine⟨A,V,l,_,ro,rn,Z',g.rd (by lia),g.s.lst lo,g.s.lst ln,λM2 e s f=>?_⟩;have g:=g.sub s;refine⟨M0,N,A.b,A,V,l,_,e,ro,rn,Z',g,by lia,f,g.s.lst lo,g.s.lst ln,λM3 A3 V3 g3=>?_⟩;have eb:=g3.cu.b;rw[<-eb];refine⟨A3,V3,l,_,ro,rn,l.pn,l.nm,Z',g3.rd (by lia),g3.wf,λk hk=>(g3.cu.sz.cs k hk).2.1,g3.s.lst lo,g3.s.lst ln,λz=>by rw[z]at pl;simp only[dS]at pl;lia,λz=>by rw[z]at nl;simp only[dS]at nl;lia,by lia,by lia,λM4 e s f=>?_⟩;have g3:=g3.sub s;rw[eb];exact⟨M0,N,A.b,A3,V3,l,_,e,ro,rn,Z',g3,by lia,f,g3.s.lst lo,g3.s.lst ln,λM5 A5 V5 g5=>X0 _ _ ⟨⟨A5,V5,by rw[Nat.mul_add];exact g5⟩,_,Z'⟩⟩
 .rintro U M' ⟨⟨A,V,g⟩,y4,rfl⟩
  exact⟨M,s0.trans g.cu.s0,q⟩
end
end Z
end
structure PySem.W.Fast:Prop where(tw970714322750558480 tw8753511031591466939 tw8658691620573785397 tw8460446013433637019 tw8435192482776886123 tw821342065195011986 tw8206880717892722243 tw7194818244810479812 tw6349367130278261486 tw4018583563905889072 tw3911562567927001634 tw3880687079636089116 tw358876093107438408 tw3532141178569910620 tw3491817573560512463 tw3478577382899425047 tw3034544054560370369 tw2482615037997314042 tw2292193161756320195 tw16770534881357017031 tw16625475038242566387 tw16500969850566607370 tw15526161946004476851 tw14265809238017976635 tw127390695996726925 tw12537818703511956772 tw11830298263497238129 tw11617010630717110493 tw11250862710346861314 tw10825843454505114534 tw10566941989810114194 tw10271330411400628673 tw14628025820975653879 tw5454124785982474393 tw3328097583816360152 tw13222009691281395089 tw15476160790813249540 tw13789525651377915687 tw4219478995351122586 tw16666220789629485105 tw13110064069692966289 tw7534616628726562538 tw3317292267448753627 tw4712445517850649118 tw13679177467028257509 tw8974278439900025910 tw1882029706593190061 tw5795696557463873098 tw2105890936401409762 tw16308761472595711916 tw9563431706879918254 tw13964999094007221569 tw10261105353505502328 tw2187026664928579557 tw12688197788292301608 tw1566526246267777832 tw15399167332742954256 tw13663356466506333934 tw17355404490866024694 tw3761754760575413240 tw2141759792395709777 tw17339083096871320681 tw14324608636456249956 tw15081566657833980533 tw12366178112296124739 tw8782491080079498621 tw10937515600686302802 tw10059734032204964966 tw879215398186161638 tw13928136181725429875 tw142494385333966764 tw18311702175017636825 tw13429530393462869049 tw12283468303850170232 tw10684030245786683570 tw17917833330413405182 tw16119920269418714857 tw1958099857617092329 tw9232365590993592685 tw6006300414983935046 tw11620483690911560572 tw4642086841530982168 tw3165184558853772021 tw1801431597741586084 tw864924376313916445 tw5292376258501838032 tw12688606658221685648 tw8307940591356117598 tw5547144346756228307 tw13785180780591159409 tw8688099047057772614 tw4918305441005724112 tw12488152101229468049 tw17302560394308075963 tw2008482817150211189 tw13127878025937450924 tw1302717207106995004 tw2641865608018152643 tw9827890670127195892 tw16484730987343654008 tw9058999779311416084 tw7147391338623515274 tw388769485275675460 tw12075357909737223064 tw174659789439422376 tw13441263692122278268 tw13163752005956195780 tw6813880777158050543 tw13922762393291216913 tw11965713237449465341 tw16495177097235289907 tw208645832998999245 tw1861300106316874907 tw6268738317520056085 tw10789571702130884277 tw12124895445482595501 tw6978878462458996286 tw6161489964074952556 tw14767695958368647318 tw4664681784124880093 tw7924008934766099312 tw8660109688521967152 tw9874516025208225295 tw7968451693490370024 tw2201785811531425335 tw15617201738520954978 tw2511333831813431560 tw17584029567257222727 tw18302519588861536678 tw4495084844640566107 tw8824708895396782033 tw13308316670124763021 tw1989456220185014109 tw4614930557848645040 tw12720558552367312034 tw16054899497550222786 tw6001298744226632654 tw13508251882498134471 tw11100921053946942541 tw5066969951073795701 tw16319987530536432883 tw16421651687326178815 tw1053922049233573682 tw16060448477914821942 tw7452898470807699165 tw16089179111325440193 tw3046061651586597108 tw8981703369655948527 tw2415587943763094354 tw515485509143003262 tw8790395204052513442 tw12408453848884280528 tw15924339081895527755 tw9732873723747149593 tw4732613851180111688 tw8613002219254616612 tw1966171919732046539 tw552022588841809176 tw13583402042718319127 tw115909674160848009 tw7195300884779237582 tw12697708621207567965 tw14851909153339152617 tw7812529160168784946 tw17341893762116262852 tw16212417394380906813 tw4446072618952784415 tw17272146376446973267 tw2069785511044263774 tw764947893490441442 tw5380478174094095953 tw8488783524500682776 tw1506042542936391827 tw5591697836162712330 tw15514181260929032552 tw10127416950093520635 tw6384265126657136509 tw4353899130972517665 tw9780889871891198333 tw10257978080785059119 tw2180301589075672701 tw7763859531993092822 tw17508846524528986984 tw13739727772382230562 tw15713963204737523025 tw11129137223464654735 tw10218849312599042273 tw8151562316722966204 tw6718353985233780179 tw9500665289056906335 tw5996609326166513629 tw13136772772557578933 tw12852290573742445185 tw30418596914417597 tw1650730111517392371 tw12290996911695248523 tw11983312692033319977 tw14374113794969579602 tw9254922575488168205 tw13950466110233129358 tw17913782688912889958 tw493224852763458666 tw16663759993027713341 tw9284052872725721124 tw1306614812358246700 tw12126791372699929578 tw14702195255256558469 tw14380244424543537739 tw3833238322816415746 tw13317630003792600193 tw8760092581997802306 tw15915390617965969821 tw6543470363456895123 tw677604070690056031 tw17871233181563676304 tw210127416036854194 tw10351042608155144809 tw7996315784423257816 tw11089509396012129534 tw17787249608557856262 tw5122664056624826452 tw16932717937747818219 tw16567125584230217300 tw6550991522310888648 tw11220120847174840416 tw17208143689609084573 tw1463554827194073827 tw1659179698015036410 tw1806268670099721131 tw2688648769886961861 tw11236273537860748712 tw11828645685074478147 tw16234415140880234496 tw17046144606000074382 tw14312002441709775207 tw1223500128468450236 tw15859564324464974955 tw12834341327087305384 tw13837128502470659301 tw9714385358221772478 tw3263106906267886061 tw7778608587952457117 tw2024344830025227846 tw13459656833262926313 tw17928875340587891506 tw758471445906146900 tw10847534091442057316 tw258377548205519417 tw332861358023235268 tw15537119806461694152 tw10370367773936765163 tw14667462947220209260 tw2039019766776987583 tw1844505221956402795 tw14201987915079650073 tw11856043968816707456 tw10325315782824163846 tw14819221312010269373 tw3775618635154446911 tw844526915059271355 tw8547616599995028590 tw12384125276733456719 tw2600844417580317422 tw9177219559786095979 tw15189328091034202389 tw10882285162231929601 tw11783255158147199245 tw16315640159972115111 tw7769511526509962726 tw7826441883688630723 tw2931600026908971271 tw14294511501833509637 tw3676222007411747532 tw3673498776486018130 tw13753961095206821233 tw466867882684775595 tw2359384490233532231 tw1278779623813871311 tw10143747401925065502 tw17690662170712741088 tw7109185045136528630 tw14634987793846873484 tw10223039393074030857 tw6177300414398052786 tw4258437421986859162 tw17717603766723677056 tw14970719601380266390 tw3887057156170692410 tw11467917676386276121 tw7546317912047850624 tw14493232969791712397 tw10899540471382326201 tw2928496179236660622 tw681372504038748704 tw14367953906059684524 tw5553436448225481096 tw6196535842176724822 tw221120141087947752 tw15645163112088861346 tw17325595083956633949 tw68009038817596323 tw16622619442321984540 tw3690530499241052879 tw7077797598797642766 tw9145522631014756922 tw13204608397406996010 tw13791435657917765403 tw13553403749462717037 tw13874165051009012371 tw4177667559536712642 tw1125168610044514897 tw15498143818350579572 tw11978695193925628387 tw1096072787654841715 tw10950394283287729267 tw2292036315277499628 tw5283263379198963468 tw15276551988609301180 tw11150179963373778101 tw14430691230814635047 tw2578475119787041819 tw4343837058448000378 tw14108451536674174747 tw11943218259075632092 tw612383211198061141 tw14457719133013420169 tw14263936786884182329 tw12936107536287841837 tw13595607307365064704 tw4020955130616624375 tw11184314713616667408 tw5550062361645693363 tw16596615342794319496 tw8530272968487498360 tw15123983697205086137 tw16282698188669599599 tw13025388085143233346 tw374765063270943613 tw530959518907559413 tw17834897106787646196 tw15000824881376245020 tw8175581510691039806 tw1452180419871764395 tw17499308338139305689 tw15956930760688338968 tw5332146146833604638 tw14230633188339762016 tw10367372603394366213 tw8426894787429740944 tw1149028216478791660 tw3368186583170368191 tw6425915128105178348 tw13647953482443783761 tw2325812574710333569 tw3681788150075983911 tw710074464610034317 tw3581084992165765932 tw16908011986259573107 tw12671494957818692341 tw8353795747252419512 tw15590232728966235906 tw5697930342223795996 tw14365651197065198545 tw15309657157531788354 tw3545324496886597943 tw17873910620617934941 tw8300962337396897429 tw6158795477486999749 tw8279065255145484480 tw1843131156233650094 tw6659925414892089000 tw10453725260635616368 tw4514478474714462660 tw1012353972863055193 tw3330474662348610261 tw1095262391302138119 tw16289700718304762651 tw13455125613212724121 tw2143333581196240328 tw14251934591093888491 tw13259690616673528689 tw12256658491511306197 tw3786991668868261434 tw733039961908086753 tw716854934855249468 tw14235161820037578872 tw14609603819962289411 tw6460342778179798041 tw16057133700187527348 tw15099717822270027309 tw9910170425928296321 tw5478716511983774310 tw3329323525504087868 tw12601100018522601115 tw9292994332526469555 tw9232816876876535555 tw16363648466728070691 tw12473571856993095040 tw14512206171456263656 tw4766550809014326618 tw17518602333026372610 tw8173348002407371820 tw15506617475406834012 tw7435335721182760750 tw12252751556125739699 tw4303716331309972452 tw24245712403853995 tw6912269633199996505 tw5670012998353599537 tw8798674783976617391 tw4250821164293405492 tw2190879183092939983 tw12074702952396562794 tw11007208899235617349 tw8454678576978001265 tw14690150626054332829 tw12740082268885955530 tw12500383225907794559 tw4203024256943510453 tw5058784671313148973 tw17108960691112076506 tw15471351652214327019 tw13695186480608510064 tw2198648662547344045 tw6694083204432499907 tw2156328455358112342 tw9778200541429728245 tw1330550116130362120 tw2977427287173780166 tw1955857203007315752 tw17825655848175871941 tw14931869469498478659 tw12779994216328950671 tw8198019203399779037 tw8972989455923460445 tw4128042403031644118 tw3012540199589151094 tw6204219616349971727 tw5779998650707502795 tw2159066541476501099 tw17384302390591386484 tw14266776971708248302 tw14026752064666831882 tw3164868904032068440 tw12868299553519855515 tw6248755049090575431 tw6092162121457101744 tw3176452231087711542 tw17171526379539632812 tw17128926300026242523 tw15925974325850651765 tw13068250106058172586 tw16661657190816469389 tw13634449923404673615 tw11829999136914617709 tw6586638339416381582 tw5545681093424864867 tw16784029984645489555 tw14943451728661628360 tw13005129939009588603 tw7207560555815474181 tw8805016595931100012 tw711614999678770944 tw6989819033859239325 tw4123818330384880617 tw15508577058976375798 tw10562945320129090521 tw6343240364539541624 tw12792901061009562753 tw9174358039889730357 tw14459352073820802618 tw15358633565730149812 tw6115658886999585274 tw8546396161229420160 tw16042522617765248103 tw9948601006610128753 tw1746054841541458932 tw7187757824234046868 tw10551951936453705519 tw4195310053367652868 tw11705670824381165688 tw5355308806700930515 tw17591833934600736131 tw15544284607753443930 tw12541198187883727618 tw13736524869760113703 tw13706646056083108024 tw8481947255149493099 tw17454157454953748766 tw16170753244817927633 tw8834851662114915289 tw5100077081312109352 tw15641371560990849450 tw9646421128575838345 tw16326660286557111392 tw9197767323554133551 tw7783039090704853722 tw318384041902955857 tw18131090681855557467 tw15370771777318186787 tw8610686317326394860 tw7458937486735034208 tw7200946512079168991 tw145885935031193701 tw6376020378344791295 tw2770216389575151418 tw17993400726467430725 tw13443304521743424420 tw12002983086713429077 tw9522317696339752578 tw6255310412205921860 tw5364353975884131509 tw16620772509998269090 tw15250369401269064858 tw14120590274780246990 tw11305813579397107448 tw7375562174361513873 tw6139049363187364525 tw10921625964814645272 tw12979127743224821672 tw12371321660692381061 tw7698658954827005440 tw459373153486392509 tw18017643570000825772 tw9070003919435747469 tw16217462613568824795 tw17430554253207088267 tw15160150264206568467 tw11901099684348147063 tw11496230609117749208 tw10742058335676260203 tw74092008693020965 tw5390927054778718744 tw16752154473474183243 tw16319969541971882628 tw14239645464843623261 tw8580865026769517828 tw14472748648699762799 tw2424955196803787274:True)
open PySem PySem.W PyProof.Rows L2 L3
def xZqN:Option Obj->Option Obj
|some ⟨_,_,.freed,_⟩=>none
|o=>o
def xZqP (h:Heap):List Nat->Nat->List Obj->List (Option Obj)
|[],_,_=>[]
|a::l,i,r=>bif i.ble a then xZqN (r.drop (a-i)).head?::xZqP h l a (r.drop (a-i)) else h.get? a::xZqP h l i r
theorem xZqQ (h:Heap):∀l i r,r=h.objs.toList.drop i->xZqP h l i r=l.map h.get?
|[],_,_,_=>rfl
|a::l,i,r,e=>by
 unfold xZqP;cases z:i.ble a with
 |false=>exact congrArg (h.get? a::·) (xZqQ h l i r e)
 |true=>
  have d:r.drop (a-i)=h.objs.toList.drop a:=by have:=Nat.le_of_ble_eq_true z;rw [e,List.drop_drop];congr 1;omega
  show xZqN (r.drop (a-i)).head?::xZqP h l a (r.drop (a-i))=_;rw [xZqQ h l a _ d,d,List.head?_drop,Array.getElem?_toList];rfl
def xZqH (K:Params->Frag) (as:List Addr) (e:∀P,as=(K P).map (·.1)) (_:Unit):Hook:=⟨_,λs=>xZqP s.heap as 0 s.heap.objs.toList,λw=>(K w.params).map λp=>some p.2,InK K,λw s x=>InK.of e w s ((xZqQ s.heap as 0 s.heap.objs.toList rfl).symm.trans x),InK.keeps⟩
local macro_rules|`(tactic|o_head ($f $k $a $e))=>`(tactic|o_head (xZqH $k $a $e ()))
set_option maxRecDepth 100000 in
set_option maxHeartbeats 0 in
theorem PySem.Challenge.cw_callboard_k41_why_refused_holds : PySem.Challenge.rw_callboard_k41_why_refused.Holds := by
 w_on;o_law;k_head;(case hw=>w_witness2)
 k_fill
 refine L3.NK (l:=PySem.Challenge.rw_callboard_k41_why_refused) (sp:=Z.Nx) (k:=17) (x:="_law_script") rfl rfl ⟨rfl,by decide,by decide⟩ (λ_ _ Y=>Y) (λns hl=>⟨ns,rfl,hl,rfl⟩) ?F;case F=>
  intro w mg fa h KX G hmg;suffices h:∃a:Z.Ad,Z.Gl _ mg a/\∀(s:Shared) (u:Value),BindsTo s a.an.d ⟨[u],[]⟩ [("_law_script",u)]by obtain⟨a,g,hb⟩:=h;have e:=hmg.symm.trans g.an.mg;cases e;exact⟨a.an.d,hb,λbase _ _=>g.an.pe ▸ Z.RX g⟩
  refine'⟨⟨_,_,_,_,_,_,_,_,_,_,_,_,_,_,_,_,_,_,_,_,_,_,_,_,_,_,_,_,_,_,_,_,_,_,_,_,_,_,_,_,_,_,_,_,_,_,_,_,_,_,_,_,_,_,_,_,_,_,_,_,_,_,_,_,_,_,_,_,_,_,_,_,_,_,_,_,_,_,_,_,_,_,_,_,_,_,_,_,_,_,_,_,_,_,_,_,_,_,_,_,_,_,_,_,_,_,_,_,_,_,_,_,_,_,_,_,_,_,_,_,_,_,_,_,_,_,_,_,_,_,_,_,_,_,_,_,_,_,_,_,_,_,_⟩,⟨wF KX G ..,wF KX G ..,wF KX G ..,wF KX G ..,wF KX G ..,wF KX G ..,wF KX G ..,wF KX G ..,wF KX G ..,wF KX G ..,wF KX G ..,wF KX G ..,wF KX G ..,PySem.W.mg_of KX G ?_,PySem.W.mg_of KX G ?_,PySem.W.mg_of KX G ?_,PySem.W.mg_of KX G ?_,qx KX G ..,qx KX G ..,qx KX G ..,qx KX G ..,qx KX G ..,qx KX G ..,qx KX G ..,qx KX G ..,qx KX G ..,qx KX G ..,qx KX G ..,qx KX G ..,qx KX G ..,qx KX G ..,qx KX G ..,qx KX G ..,qx KX G ..,qx KX G ..,qx KX G ..,qx KX G ..,qx KX G ..,qx KX G ..,qx KX G ..,qx KX G ..,qx KX G ..,qx KX G ..,qx KX G ..,qx KX G ..,qx KX G ..,qx KX G ..,qx KX G ..,qx KX G ..,qx KX G ..,qx KX G ..,qx KX G ..,qx KX G ..,qx KX G ..,qx KX G ..,qx KX G ..,qx KX G ..,qx KX G ..,qx KX G ..,qx KX G ..,qx KX G ..,qx KX G ..,qx KX G ..,qx KX G ..,qx KX G ..,qx KX G ..,qx KX G ..,qx KX G ..,qx KX G ..,qx KX G ..,qx KX G ..,qx KX G ..,qx KX G ..,qx KX G ..,qx KX G ..,qx KX G ..,qx KX G ..,qx KX G ..,qx KX G ..,qx KX G ..,qx KX G ..,qx KX G ..,qx KX G ..,qx KX G ..,qx KX G ..,qx KX G ..,qx KX G ..,qo ..,qo ..,qo ..,qo ..,qo ..,qo ..,qo ..,qo ..,qo ..,qo ..,qo ..,qo ..,qo ..,qo ..,qo ..,qo ..,qo ..,qo ..,qo ..,qo ..,qo ..,qo ..,qo ..,qo ..,qo ..,qo ..,qo ..,qo ..,qo ..,qo ..,qo ..,qo ..,qo ..,qo ..,qo ..,qo ..,qo ..,qo ..,qo ..,qo ..,qo ..,qo ..,qo ..,qo ..,qo ..,qo ..,qo ..,qo ..,qo ..,qo ..,qo ..,qo ..,qo ..,qo ..,qo ..,qo ..,Ny ?_ ?_ ?_ ?_ ?_ ?_ ?_ ?_ ?_ ?_,Lk ?_ ?_ ?_,⟨VC ?_ ?_ ?_ ?_ ?_ ?_ ?_ ?_,?_,?_⟩,Qt ?_ ?_ ?_ ?_,⟨?_,?_,?_,?_⟩,⟨?_,?_,?_,?_⟩,⟨?_,?_,?_,?_⟩,⟨?_,?_,?_,?_⟩,⟨?_,?_,?_,?_⟩,⟨?_,?_,?_,?_⟩,⟨?_,?_,?_,?_⟩,⟨?_,?_,?_,?_⟩,⟨?_,?_,?_,?_⟩,⟨?_,?_,?_,?_⟩,⟨?_,?_,?_,?_⟩,⟨?_,?_,?_⟩,⟨?_,?_,?_⟩,⟨?_,?_,?_⟩,⟨?_,?_,?_⟩,⟨?_,?_,?_⟩,⟨?_,?_,?_⟩,⟨?_,?_,?_⟩,⟨?_,?_,?_⟩,⟨?_,?_,?_⟩,⟨?_,?_,?_⟩,⟨?_,?_,?_⟩,⟨?_,?_,?_⟩,⟨?_,?_,?_⟩,⟨?_,?_,?_⟩,⟨?_,?_,?_⟩,⟨?_,?_,?_⟩,⟨?_,?_,?_⟩,⟨?_,?_,?_⟩,⟨?_,?_,?_⟩,⟨?_,?_,?_⟩,⟨?_,?_,?_⟩,(qc ?_ (qc ?_ (qc ?_ (qc ?_ (qc ?_ (qc ?_ (qc ?_ (qc ?_ tV)))))))),(qc ?_ (qc ?_ (qc ?_ (qc ?_ (qc ?_ (qc ?_ tV)))))),(qc ?_ (qc ?_ (qc ?_ tV))),(qc ?_ (qc ?_ (qc ?_ tV))),(qc ?_ (qc ?_ (qc ?_ tV))),(qc ?_ (qc ?_ (qc ?_ (qc ?_ (qc ?_ tV))))),(qc ?_ (qc ?_ (qc ?_ tV))),(qc ?_ (qc ?_ (qc ?_ (qc ?_ tV)))),(qc ?_ (qc ?_ tV)),(qc ?_ (qc ?_ tV)),(qc ?_ (qc ?_ (qc ?_ (qc ?_ (qc ?_ (qc ?_ (qc ?_ (qc ?_ tV)))))))),Gh,Gh,Sy DB ?_ (λz=>nomatch z),Jy ?_ ?_ ?_ (λ_=>?_),Jy ?_ ?_ ?_ (λ_=>?_),PySem.W.mg_none_of KX G ?_,PySem.W.mg_none_of KX G ?_,PySem.W.mg_none_of KX G ?_,PySem.W.mg_none_of KX G ?_,PySem.W.mg_none_of KX G ?_,PySem.W.mg_none_of KX G ?_,PySem.W.mg_none_of KX G ?_,PySem.W.mg_none_of KX G ?_,PySem.W.mg_none_of KX G ?_,PySem.W.mg_none_of KX G ?_,PySem.W.mg_none_of KX G ?_,PySem.W.mg_none_of KX G ?_,PySem.W.mg_none_of KX G ?_,PySem.W.mg_none_of KX G ?_,PySem.W.mg_none_of KX G ?_,PySem.W.mg_none_of KX G ?_,wk (PySem.W.mg_of KX G ?_),wk (PySem.W.mg_of KX G ?_),wk (PySem.W.mg_of KX G ?_),wk (PySem.W.mg_of KX G ?_),O4 (PySem.W.mg_of KX G ?_) (uM (ss:=["all","turns"]) ?_ (.cons ⟨_,rfl⟩ (.cons ⟨_,rfl⟩ .nil)) (Nat.le_of_ble_eq_true rfl)),wk (PySem.W.mg_of KX G ?_),wk (PySem.W.mg_of KX G ?_),wk (PySem.W.mg_of KX G ?_),Sq (PySem.W.mg_of KX G ?_),PP (es:=[⟨_,.str "bar" _,.ref _⟩,⟨_,.str "shut" _,.ref _⟩,⟨_,.str "always" _,.ref _⟩,⟨_,.str "night" _,.ref _⟩,⟨_,.str "busy" _,.ref _⟩,⟨_,.str "silent" _,.ref _⟩,⟨_,.str "wait" _,.ref _⟩,⟨_,.str "breaks" _,.ref _⟩]) (PySem.W.mg_of KX G ?_) ?_ ?_ (.cons rfl ⟨_,rfl,(uM (ss:=["phone","names"]) ?_ (.cons ⟨_,rfl⟩ (.cons ⟨_,rfl⟩ .nil)) (Nat.le_of_ble_eq_true rfl))⟩ (.cons rfl ⟨_,rfl,(uM (ss:=["name","phones"]) ?_ (.cons ⟨_,rfl⟩ (.cons ⟨_,rfl⟩ .nil)) (Nat.le_of_ble_eq_true rfl))⟩ (.cons rfl ⟨_,rfl,(uM (ss:=["name","name"]) ?_ (.cons ⟨_,rfl⟩ (.cons ⟨_,rfl⟩ .nil)) (Nat.le_of_ble_eq_true rfl))⟩ (.cons rfl ⟨_,rfl,(uM (ss:=["name","name","hour","hour"]) ?_ (.cons ⟨_,rfl⟩ (.cons ⟨_,rfl⟩ (.cons ⟨_,rfl⟩ (.cons ⟨_,rfl⟩ .nil)))) (Nat.le_of_ble_eq_true rfl))⟩ (.cons rfl ⟨_,rfl,(uM (ss:=["name","name"]) ?_ (.cons ⟨_,rfl⟩ (.cons ⟨_,rfl⟩ .nil)) (Nat.le_of_ble_eq_true rfl))⟩ (.cons rfl ⟨_,rfl,(uM (ss:=["name","name","turns"]) ?_ (.cons ⟨_,rfl⟩ (.cons ⟨_,rfl⟩ (.cons ⟨_,rfl⟩ .nil))) (Nat.le_of_ble_eq_true rfl))⟩ (.cons rfl ⟨_,rfl,(uM (ss:=["phone"]) ?_ (.cons ⟨_,rfl⟩ .nil) (Nat.le_of_ble_eq_true rfl))⟩ (.cons rfl ⟨_,rfl,(uM (ss:=["phone"]) ?_ (.cons ⟨_,rfl⟩ .nil) (Nat.le_of_ble_eq_true rfl))⟩ .nil)))))))),wk (PySem.W.mg_of KX G ?_),wk (PySem.W.mg_of KX G ?_),wk (PySem.W.mg_of KX G ?_)⟩,λs u=>.of_eq rfl⟩
  all_goals try first|k_is|(intro _ _ _ _ _ _ us hl;rcases us with _|⟨_,_|⟨_,_|⟨_,_|⟨_,_|⟨_,_|⟨_,_|⟨_,us⟩⟩⟩⟩⟩⟩⟩<;>first|rfl|(exfalso;revert hl;simp;done))|rfl
