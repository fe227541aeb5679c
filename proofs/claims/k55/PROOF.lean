import PyProof.Rows.All
import Wide.All
import OpenK.AllK
import Wide.FinOn
import PyProof.EqAt
import PyProof.EqKinds
import PyProof.TupleCall
import PyProof.AttrMiss
import PyProof.IsiH_list
import PyProof.Rows.SetFrom
import KE.KDictOf
import KE.KTab
import PyProof.AutoListH
import KE.KSortTup
import KE.KItemsList
import KE.KEqDict
import KE.KIntText
import Lean
import PyProof.RulesRaise
import PyProof.RulesTry
import KE.KTryDeep
import KE.KTryMore
import KE.KTryOn
import KE.TryInHelper
import KE.TryLedger
import PyProof.ExcArgsOwn
import PyProof.ExcAttrAll.ValueError
import KE.KIsAll
import PyProof.ExcBaseAll.ValueError
import PyProof.InstStoreFacts
import PyProof.ExcInit
import PyProof.SeqI3
import PyProof.ConsumeWalk
import PySem.Challenge.RW_callboard_k55_whole_bills_by_the_board
set_option genInjectivity false
set_option genSizeOfSpec false
set_option genSizeOf false
set_option Elab.async false
set_option linter.all false
set_option maxRecDepth 100000
set_option maxHeartbeats 4000000
noncomputable section
open LawfulBEq renaming eq_of_beq->ZB
open List renaming length_map->cW,getElem?_eq_getElem->cY,getElem?_eq_some_iff->cZ,length_append->c9,mem_singleton->dh,mem_cons->dz,getElem?_map->dA,size_toArray->dB,mem_map->dD,mem_cons_of_mem->dF,mem_cons_self->dH,map_append->dI,length_singleton->dM,length_nil->dN,mem_append->dO,nodup_cons->dR,not_mem_nil->dW,map_map->d4,map_cons->d6,nil_append->d9,mem_append_right->eh,length_cons->eA,replicate_succ->eF,length_range->eG,nodup_nil->eJ,getElem?_append_right->eL,lookup_cons->eM,append_nil->eN,getElem?_append_left->eV,find?_cons->eW,all_eq_true->eX,append_assoc->eY,length_take->fg,mem_append_left->fi,mem_of_getElem?->fk,take_of_length_le->fm,length_pos_iff->fu,getElem?_set_ne->fB,getElem?_set_self->fC,mem_filter->fE,cons_ne_nil->fH,flatten_cons->fL,map_congr_left->fN,getElem?_eq_none->fO,take_length->fP,any_eq_true->fQ,length_modify->fR,take_add_one->fU,foldl_cons->fV,filterMap_cons->fX,filter_sublist->fY,any_cons->gb,exists_cons_of_ne_nil->gc,length_drop->gf,find?_eq_none->gi,mem_of_find?_eq_some->gj,getLast?_eq_none_iff->gk,nodup_append->gq,all_cons->gv,length_eq_zero_iff->gw,length_zipWith->gx,mem_range->gy,length_replicate->gG,length_filter_le->gH,getD_eq_getElem?_getD->gI,drop_eq_getElem_cons->gP,getLastD_eq_getLast?->gQ,getElem?_modify->gR,findIdx?_eq_some_iff_getElem->gS,filter_cons->gW,getElem_of_mem->gY,filter_map->hJ,findIdx?_map->h9,getElem_mem->ii,mem_of_getLast?->ik,dropLast_subset->il,length_set->ip,contains_cons->iA,filter_cons_of_pos->iD,filter_cons_of_neg->iE,getElem?_cons_zero->iF,foldl_append->iH,getElem?_toArray->iJ,set_append_right->iK,getElem?_zipWith->iL,map_nil->iQ,filter_nil->iT,getElem?_range->iW,map_id->jb,filter_append->jf,sublist_append_right->jr,pairwise_iff_getElem->js,getLast?_eq_getElem?->jt,findIdx?_eq_none_iff->ju,drop_length->jB,set_set->jC,any_map->jF,eq_of_mem_replicate->jG,getElem?_replicate->jI,of_mem_zip->jL,forIn_cons->jM,range_succ->jQ,forIn_nil->jX,drop_zero->j3,mem_of_mem_take->kg,mem_of_mem_drop->kh,map_drop->kq,filter_eq_self->ky,modify_eq_self->kz,mem_filterMap->kE,getElem_range->kP,set_cons_succ->kQ,map_set->kS,map_replicate->kT,any_eq_false->kX,find?_append->lj,getElem_inj->lz,zipIdx_cons->lG,getElem_map->lL,zipIdx_nil->lQ,any_append->lR,find?_some->lU,map_take->lY,all_map->ma
open PySem renaming wpAny_bind->cX,wpAny_pure->dw,sizeLine_eq->dP,wpAny_mono->eC,wpAny_field->eZ,wpAny_holding->e9,wpAny_truthy_bool->fh,wpAny_callSpecial?_slot->fF,wpAny_newObj_type->fS,wpAny_call_entry->gg,wpAny_Call_Name_kw->gh,wpAny_seqItems->gz,wpAny_setField_rec->gD,wpAny_passesOwn->gF,codeAny_mono->gT,mem_of_lookup->gX,wpAny_execs_nil->gZ,wpAny_pyIter_list->hW,wpAny_loadPart_at->hZ,wpAny_setField->ie,wpAny_standAt->im,codeAny_builtin->iq,tupleKind_room_in1->iu,wpAny_pyIter_tuple->iz,plainObj_wpAny_Assign_Attribute->iM,wpAny_call->iN,wpAny_updateSeq_pair->iR,isSubtype_type->iZ,slot_dict_contains->jd,wpAny_onRaise->jj,wpAny_sequenceKey->jk,call_meets->jp,wpAny_execs_cons->jv,wpAny_typeOf->jx,wpAny_comprehension_free->jz,wpAny_specialOf->jO,builtinLookup_eq_fast->jY,getitemInPython_of_ne->jZ,wpAny_rule->j7,codeAny_call_builtin->j9,wpAny_letTemporaryGo->kc,plainId_quiet->ko,wpAny_isSubtype_exc->kx,concat_meets->kG,seqIndex_neg->kI,wpAny_assign_Name->kU,wpAny_Assign_Name->kW,slot_list_getitem->kZ,slot_dict_getitem->k9,wpAny_pyIter_enum->lb,seqIndex_of->ls,wpAny_letGo->lw,wpAny_pyHash_str->ly,wpAny_lookBehind->lA,pastItsLine_dict->lB,noFill_tuple_add->lD,wpAny_pyIter_zip->lJ,wpAny_Name->lM,typeIs_int->lN,Addr->lf,sizeLine->Uf,wpAny->Ch,model->pi,starEach->Tk,bootBuiltins->Tl,Expr->zn,Heap->Go,eval->No,compareOp->wp,keywordEach->Op,mainGlobals->Ps,FuncData->Rs,holding->At,backTo->wv,swapsWith->Ix,Stmt->xz,IsPair->sB,sysModules->TD,attributeBase->wE,binaryOp->dL,backToKw->xL,assignEach->IN,cLine->wP,NameKind->wS,behindInMarks->wT,foldedSetIterable->AT,getMethod->XV,ExcBaseFacts->TW,rawInt->o0,excClassObj->u8,standAt->X',getItem->Y',Scope->XXa,Keyword->XXb,sliceBounds->XXc,callWith->XXd,Operator->XXe,letOwnedTupleGo->XXf,codeAny->XXg,scanBound->XXh,IsZip->XXi
def de:=@if_neg
def df:=@if_pos
def dS:=@decide_eq_true
def eD:=@decide_eq_false
def eE:=@decide_eq_true_eq
def eI:=@congrArg
def fj:=@beq_iff_eq
def ft:=@beq_self_eq_true
def fM:=@of_decide_eq_true
def fT:=@or_false
def fW:=@beq_eq_false_iff_ne
def ic:=@not_or
def iY:=@if_true
def lE:=@if_false
open PySem.Heap renaming get?_push_of_some->dg,lt_size->dE,get?_push_size->dJ,get?_update_self->fD,size_push->fK,get?_update_other->fZ,get?_none_of_le->gO,get?_update_ne->ku
open Nat renaming le_refl->dq,lt_of_lt_of_le->dQ,ne_of_lt->dU,le_trans->dZ,lt_irrefl->eS,zero_le->eU,lt_succ_self->fG,sub_self->gp,succ_le_succ->gA,min_self->gC,le_succ_of_le->gN,le_succ->hU,ne_of_gt->ia,lt_of_le_of_lt->iC,mul_le_mul->i9,lt_succ_of_lt->jm,lt_trans->jy,le_of_lt->kD,le_of_eq->kF,sub_zero->kK,zero_add->kM,min_eq_left->lT,succ_mul->l8,succ_pos->mf
open Option.some renaming inj->dv,injEq->jn
open Bool renaming false_ne_true->dC,eq_false_iff->dG,and_eq_true->dY,true_and->eK,false_and->eR,false_or->fJ,eq_iff_iff->gm,not_eq_true'->gM,or_eq_true->hG,true_or->ib,or_false->ji,not_eq_false->jo,or_true->kO,beq_comm->lX,true->Db,false->pc
open Ne renaming symm->dX
open Int renaming eq_ofNat_of_zero_le->eB,emod_lt_of_pos->eO,emod_nonneg->eP,toNat_natCast->gL,mul_le_mul_of_nonneg_left->iU,emod_add_mul_ediv->j4,add_zero->me,zero_add->mh
open PySem.PassesOwn renaming never->eQ
open PyProof.Rows renaming callWith_type1->fz,slot_tuple_getitem->fA,callWith_builtin1->iP,SetOf_congr->jA,subscriptTail_builtinR->jT,entry_tuple_getitem->kr,args_tuple_getitem->kH,envOfC->sK,AllBare->XXj
open PySem.W renaming kia_one->gu,callWith_K->iO,methodCall_KW->jP,plainGet_of->kl,looks_clsIn->km,kitx_list->lq,cellsFrom_some->lC,looks_findIn->lV
open PyProof.Rows.F renaming plain_set_update_loop->gB,entry_set_update_loop->iy
open PySem.F renaming slot_tuple_iterator_next->gJ,called_set->gU,slot_list_getattribute->iw,slot_dict_get->iI,slot_zip_next->iS,args_tuple_iterator_next_1->ja,entry_tuple_iterator_next->je,slot_dict_getitem->jq,args_tuple_add_2->jw,store_ValueError->jE,entry_tuple_add->jJ,args_dict_get_3->jK,slot_tuple_add->jS,entry_dict_get->jW,excBase_ValueError->ke,args_zip_next_1->lh,entry_zip_next->lH,slot_int_rmul->lO
open List.cons renaming inj->gK
open PySem.Calls renaming spliced_cons->g9,spliced_nil->iG,Name_function_global->jh,callWith_builtin->jU,evalArgs_plain->j6
open PySem.Around renaming under_plainId->ig
open Array renaming getElem?_setIfInBounds_self_of_lt->io,length_toList->iV,toList_append->iX,size_setIfInBounds->jD,mem_toList_iff->j5,append_assoc->kC
open Option renaming isSome_iff_exists->ir,isSome_map->jl,map_some->jN,map_eq_some_iff->jV,getD_none->lF,bind_some->lK,some->ga,none->Fa
open List.Nodup renaming sublist->iB
open PySem.Code renaming quiet_builtin->jc
open PySem.Paired renaming length->jg,snoc->mj
open Sum.inr renaming inj->jR
open PySem.Walks renaming list->j8
open PySem.Heap.SameBut renaming update->kt
open PySem.SeqAt.EqAt renaming int_str->kA,str_int->kB
open PySem.Obj renaming data_mapFields->kN
open PySem.Heap.Ns1 renaming of_empty->kY
open PySem.Heap.DictOf renaming new->lP
open Eq renaming symm->lW
open PySem.W.Looks renaming here->lZ
open PySem.Heap.FunFrames renaming of_keeps->mi
open PySem.Moved renaming trans->mo
open PySem.Heap.IsSliceOf renaming new->mq
abbrev qk:=PySem.W.Frag
local macro_rules | `(tactic| walk_at "l") => `(tactic| (intro _ _ _ h; repeat (first | (obtain ⟨e, _⟩ := h; subst e; rfl; done) | (cases h; rename_i h))))
local macro_rules | `(tactic| walk_at "m") => `(tactic| (intro _ _ _ _ h; repeat (first | (obtain ⟨e, _⟩ := h; subst e; rfl; done) | (cases h; rename_i h))))
abbrev Vl:=PySem.Value
abbrev Sd:=PySem.Shared
abbrev Pg:=PySem.Program
abbrev Ar:=PySem.Around
theorem Z'{α:Sort _}{a:α}:a=a:=rfl
abbrev Wo:=PySem.World
abbrev T0(α:Type _):=List α
abbrev QQQ:=List PySem.Str
abbrev QQX:=PySem.Value->PySem.Shared->Prop
abbrev QQY:=List (PySem.Addr×PySem.Obj)
abbrev QQZ:=PySem.Str->Option PySem.Value
abbrev QXQ:=List PySem.Addr
section
open PySem PySem.Spec PyProof.Rows
namespace L2
def x5{α:Sort u}{β:Sort v}{p q r:α->β->Prop}{C:Prop}(h:∃a b,p a b/\q a b/\r a b)(f:∀a b,p a b->q a b->r a b->C):C:=by obtain⟨a,b,h1,h2,h3⟩:=h;exact f a b h1 h2 h3
abbrev qL:=Sum Int Str
noncomputable def Eb:qL->Vl->Bool
 | .inl k,v=>Value.isInt k v
 | .inr x,v=>Value.isStrOf x v
noncomputable def WB(w:Wo):qL->Int
 | .inl k=>hashInt k
 | .inr x=>hashStr w x
def sd:∀{k:qL} {v:Vl},Eb k v=Db->(∃i t,k=Sum.inl i/\v=Value.int i t)\/(∃x t,k=Sum.inr x/\v=Value.str x t)
 | .inl i,v,h=>by obtain⟨t,e⟩:=Value.isInt_shape (k:=i) (v:=v) h;exact .inl ⟨i,t,Z',e⟩
 | .inr x,v,h=>by obtain⟨t,e⟩:=Value.isStrOf_shape (x:=x) (v:=v) h;exact .inr ⟨x,t,Z',e⟩
def JJ(i:Int)(t:Tok):Eb (.inl i) (.int i t)=Db:=by simp[Eb,Value.isInt]
def Kj(x:Str)(t:Tok):Eb (.inr x) (.str x t)=Db:=by simp[Eb,Value.isStrOf]
def RV(a b:Int):decide ((Sum.inl a:qL)=Sum.inl b)=(a==b):=by
 by_cases e:a=b
 .subst e;simp
 .have h:¬(Sum.inl a:qL)=Sum.inl b:=λq=>e (Sum.inl.inj q);rw[eD h];exact(fW.mpr e).symm
def Rr(a b:Str):decide ((Sum.inr a:qL)=Sum.inr b)=decide (a=b):=by
 by_cases e:a=b
 .subst e;simp
 .have h:¬(Sum.inr a:qL)=Sum.inr b:=λq=>e (jR q);rw[eD h,eD e]
def Rb(a:Int)(b:Str):decide ((Sum.inl a:qL)=Sum.inr b)=pc:=eD (λq=>nomatch q)
def SO(a:Str)(b:Int):decide ((Sum.inr a:qL)=Sum.inl b)=pc:=eD (λq=>nomatch q)
noncomputable def rg(prog:Pg)(w:Wo):PySem.KeyKind prog w qL where
 is:=Eb
 hash:=WB w
 inj:=λv a b ha hb=>by
  rcases sd ha with⟨i,t,rfl,rfl⟩|⟨x,t,rfl,rfl⟩
  .rcases sd hb with⟨j,u,rfl,e⟩|⟨y,u,rfl,e⟩
   .injection e with e1 _;rw[e1]
   .exact nomatch e
  .rcases sd hb with⟨j,u,rfl,e⟩|⟨y,u,rfl,e⟩
   .exact nomatch e
   .injection e with e1 _;rw[e1]
 byValue:=λk v h=>by rcases sd h with⟨i,t,rfl,rfl⟩|⟨x,t,rfl,rfl⟩<;>rfl
 pyHash:=λhv h=>by
  rcases sd hv with⟨i,t,rfl,rfl⟩|⟨x,t,rfl,rfl⟩
  .exact wpAny_pyHash_int h
  .exact ly h
 eqBool:=λhu hv h=>by
  rcases sd hu with⟨i,t,rfl,rfl⟩|⟨x,t,rfl,rfl⟩
  .rcases sd hv with⟨j,u,rfl,rfl⟩|⟨y,u,rfl,rfl⟩
   .rw[RV]at h;exact wpAny_eqBool_int h
   .rw[Rb]at h;exact kA i t y u _ _ _ _ h
  .rcases sd hv with⟨j,u,rfl,rfl⟩|⟨y,u,rfl,rfl⟩
   .rw[SO]at h;exact kB x t j u _ _ _ _ h
   .rw[Rr]at h;exact wpAny_eqBool_str h
 «strs»:=λk x t v h=>by
  rcases sd h with⟨i,u,rfl,e⟩|⟨y,u,rfl,e⟩
  .exact nomatch e
  .injection e with e1 _
   subst e1;cases v<;>rfl
def F1(prog:Pg)(w:Wo)(i:Int)(t:Tok):(rg prog w).is (.inl i) (.int i t)=Db:=JJ i t
def Az(prog:Pg)(w:Wo)(x:Str)(t:Tok):(rg prog w).is (.inr x) (.str x t)=Db:=Kj x t
inductive V where
 | mC|bl (b:Bool)|int (i:Int)|str (x:Str)|byt (b:Array UInt8)|flt (b:UInt64)|ref (a:lf)|ty (n:String)
 deriving DecidableEq
def qy:V->Vl->Prop
 | .mC,u=>u=Value.none
 | .bl b,u=>u=Value.bool b
 | .int i,u=>∃t,u=Value.int i t
 | .str x,u=>∃t,u=Value.str x t
 | .byt b,u=>∃t,u=Value.bytes b t
 | .flt b,u=>∃t,u=Value.float b t
 | .ref a,u=>u=Value.ref a
 | .ty n,u=>u=Value.type n
abbrev qw:T0 V->T0 Vl->Prop:=Paired qy
def qw.length(r:qw xs us):xs.length=us.length:=jg r
theorem qw.get:∀{xs:T0 V} {us:T0 Vl} {i:Nat} {x:V},qw xs us->xs[i]?=ga x->∃u,us[i]?=ga u/\qy x u
 | _,_,_,_,.nil,e=>by simp at e
 | _,_,0,_,.cons r _,e=>by simp at e;subst e;exact⟨_,Z',r⟩
 | _,_,i+1,x,.cons _ t,e=>by obtain⟨u,h1,h2⟩:=qw.get (i:=i) (x:=x) t (by simpa using e);exact⟨u,by simpa using h1,h2⟩
theorem qw.set(r:qy x u):∀{xs:T0 V} {us:T0 Vl} (i:Nat),qw xs us->qw (xs.set i x) (us.set i u)
 | _,_,_,.nil=>.nil
 | _,_,0,.cons _ t=>.cons r t
 | _,_,i+1,.cons q t=>.cons q (qw.set r i t)
theorem qw.append:∀{xs ys:T0 V} {us ws:T0 Vl},qw xs us->qw ys ws->qw (xs++ys) (us++ws)
 | _,_,_,_,.nil,s=>s
 | _,_,_,_,.cons r t,s=>.cons r (qw.append t s)
theorem qw.take:∀{xs:T0 V} {us:T0 Vl} (n:Nat),qw xs us->qw (xs.take n) (us.take n)
 | _,_,0,_=>.nil
 | _,_,_+1,.nil=>.nil
 | _,_,n+1,.cons r t=>.cons r (qw.take n t)
theorem qw.drop:∀{xs:T0 V} {us:T0 Vl} (n:Nat),qw xs us->qw (xs.drop n) (us.drop n)
 | _,_,0,r=>r
 | _,_,_+1,.nil=>.nil
 | _,_,n+1,.cons _ t=>qw.drop n t
def xn:Option V->Option Vl->Prop
 | some v,ga u=>qy v u
 | none,none=>True
 | _,_=>False
def KV{κ:Type}:T0 (κ×V)->T0 (κ×Vl)->Prop:=Paired λ(p:κ×V) (q:κ×Vl)=>p.1=q.1/\qy p.2 q.2
noncomputable def kV:qL->V
 | .inl i=>.int i
 | .inr x=>.str x
inductive HO where
 | lst (xs:List V)
 | tup (xs:List V)
 | dK (kvs:List (qL×V))|dT (kvs:List (List qL×V))
 | set (S:Int->Bool) (n:Nat)
 | ins (C dx:lf) (fs:List (Str×V))
 | own (x:lf)
 | xd (fs:List (Str×V))
 | met (f x:lf)
 | rng (lo hi:Int)
 | frz (o:Obj) (u:HO)
 | tbl (ps:Array Vl)
 | ext (φ:Go->Prop)
abbrev Hp:=lf->Option HO
noncomputable def upd(H:Hp)(a:lf)(o:HO):Hp:=λb=>if b=a then ga o else H b
def pT:upd H a o a=ga o:=by unfold upd;rw[df Z']
def pS{a b:lf}(h:b≠a):upd H a o b=H b:=by unfold upd;rw[de h]
def Ob:upd (upd H a o) a u=upd H a u:=by funext b;unfold upd;split<;>rfl
def Ug{H:Hp}{a b:lf}{o u:HO}(h:H a=ga o)(h':H b=ga u)(d:o≠u):a≠b:=by intro e;subst e;rw[h]at h';exact d (dv h')
def qK{H:Hp}{a b:lf}{o:HO}(h:H a=ga o)(h':H b=Fa):a≠b:=by intro e;subst e;rw[h]at h';cases h'
section
variable (P:Pg)(w:Wo)
def EZ(h:Go)(a:lf)(its:Array Vl):Prop:=∃o,h.get? a=ga o/\o.cls=.type "tuple"/\(∃n,o.data=.seq its n)/\o.dict=Fa
def rZ(H:Hp)(h:Go)(a:lf):HO->Prop
 | .lst xs=>xs.length<=Uf/\∃(its:T0 Vl) (n:Nat),qw xs its/\h.get? a=ga {cls:=.type "list",data:=.seq its.toArray n}
 | .tup xs=>xs.length<=Uf/\∃its:T0 Vl,qw xs its/\EZ h a its.toArray
 | .dK kvs=>kvs.length<=Uf/\(a==TD)=pc/\∃vs,KV kvs vs/\h.DictOf (rg P w) a vs
 | .dT kvs=>kvs.length<=Uf/\(a==TD)=pc/\∃xs:T0 (List qL×lf×Vl),Paired (λ(p:List qL×V) (q:List qL×lf×Vl)=>p.1=q.1/\H q.2.1=ga (.tup (p.1.map kV))/\qy p.2 q.2.2) kvs xs/\
   ∃o es ep,h.get? a=ga o/\o.ExactDict/\o.data=.dict es ep/\es.toList=xs.map (entryOfKey (tupleKind (rg P w)))/\(xs.map (·.1)).Nodup
 | .set S n=>h.SetOf (intKind P w) a S n
 | .ins C dx fs=>H dx=ga (.own a)/\fs.length<=1000/\dx≠a/\h.get? a=ga (W.instObj C dx)/\
   ∃mA,h.Ns1 dx mA/\(∀f,xn (fs.lookup f) (mA f))/\PySem.Within mA (fs.map (·.1))
 | .own _=>∃o,h.get? a=ga o
 | .xd fs=>∃mA,h.Ns1 a mA/\∀f,xn (fs.lookup f) (mA f)
 | .rng lo hi=>∃t u v,h.get? a=ga {cls:=.type "range",data:=.fields #[.int lo t,.int hi u,.int 1 v]}
 | .frz o u=>h.get? a=ga o/\rZ H h a u
 | .tbl ps=>h.get? a=ga {cls:=.none,data:=.fields ps}
 | .met f x=>h.get? a=ga (W.methodObj (.ref f) (.ref x))
 | .ext φ=>φ h/\(∃o,h.get? a=ga o)/\∀h1 h2:Go,φ h1->(∀o,h1.get? a=ga o->h2.get? a=ga o)->φ h2
def yp(H:Hp)(h:Go):Prop:=∀a o,H a=ga o->rZ P w H h a o
end
variable {H H':Hp}{h h':Go}
section
variable {P:Pg}{w:Wo}{a:lf}{o:HO}
def EZ.is(x:EZ h a its):IsTup h a its:=let⟨o,e,c,d,_⟩:=x;⟨o,e,c,d⟩
def EZ.new(h:Go)(Xo:Array Vl):EZ (h.push {cls:=.type "tuple",data:=.seq Xo}) h.objs.size Xo:=⟨_,dJ _ Z',Z',⟨_,Z'⟩,Z'⟩
def rZ.lt(x:rZ P w H h a o):a<h.objs.size:=by
 cases o with
 | lst xs=>obtain⟨_,_,_,_,e⟩:=x;exact dE e
 | tup xs=>obtain⟨_,_,_,_,e,_⟩:=x;exact dE e
 | dK kvs=>obtain⟨_,_,_,_,o,_,_,e,_⟩:=x;exact dE e
 | dT kvs=>obtain⟨_,_,_,_,o,_,_,e,_⟩:=x;exact dE e
 | set S n=>obtain⟨o,_,_,_,e,_⟩:=x;exact dE e
 | ins C dx fs=>obtain⟨_,_,_,e,_⟩:=x;exact dE e
 | own y=>obtain⟨_,e⟩:=x;exact dE e
 | xd fs=>obtain⟨_,⟨_,_,_,e,_⟩,_⟩:=x;exact dE e
 | rng lo hi=>obtain⟨_,_,_,e⟩:=x;exact dE e
 | frz ob u=>obtain⟨e,_⟩:=x;exact dE e
 | tbl ps=>exact dE (show h.get? a=ga _ from x)
 | met f y=>exact dE (show h.get? a=ga _ from x)
 | ext φ=>obtain⟨_,⟨_,e⟩,_⟩:=x;exact dE e
theorem Paired.nY{α β:Type}{F G:α->β->Prop}:∀{l₁:List α} {l₂:List β},Paired F l₁ l₂->(∀a b,F a b->G a b)->Paired G l₁ l₂
 | _,_,.nil,_=>.nil
 | _,_,.cons r t,f=>.cons (f _ _ r) (Paired.nY t f)
def rZ.nq(x:rZ P w H h a o)(k:∀b u,(b=a\/H b=ga (.own a))->h.get? b=ga u->h'.get? b=ga u) (ho:∀b,H b=ga (.own a)->H' b=ga (.own a)) (ht:∀b xs,H b=ga (.tup xs)->H' b=ga (.tup xs)):rZ P w H' h' a o:=by
 induction o with
 | lst xs=>obtain⟨z,its,n,r,e⟩:=x;exact⟨z,its,n,r,k _ _ (.inl Z') e⟩
 | tup xs=>obtain⟨z,its,r,ob,e,c⟩:=x;exact⟨z,its,r,ob,k _ _ (.inl Z') e,c⟩
 | dK kvs=>obtain⟨z,y,vs,r,ob,es,ep,e,c⟩:=x;exact⟨z,y,vs,r,ob,es,ep,k _ _ (.inl Z') e,c⟩
 | dT kvs=>obtain⟨z,y,xs,r,ob,es,ep,e,c⟩:=x;exact⟨z,y,xs,Paired.nY r λp q z=>⟨z.1,ht _ _ z.2.1,z.2.2⟩,ob,es,ep,k _ _ (.inl Z') e,c⟩
 | set S n=>obtain⟨ob,es,ep,t,e,c⟩:=x;exact⟨ob,es,ep,t,k _ _ (.inl Z') e,c⟩
 | ins C dx fs=>obtain⟨d,z,ne,e,mA,⟨od,es,ep,e2,c⟩,r⟩:=x;exact⟨ho _ d,z,ne,k _ _ (.inl Z') e,mA,⟨od,es,ep,k _ _ (.inr d) e2,c⟩,r⟩
 | own y=>obtain⟨ob,e⟩:=x;exact⟨ob,k _ _ (.inl Z') e⟩
 | xd fs=>obtain⟨mA,⟨od,es,ep,e,c⟩,r⟩:=x;exact⟨mA,⟨od,es,ep,k _ _ (.inl Z') e,c⟩,r⟩
 | rng lo hi=>obtain⟨t,u,v,e⟩:=x;exact⟨t,u,v,k _ _ (.inl Z') e⟩
 | frz ob u ih=>obtain⟨e,q⟩:=x;exact⟨k _ _ (.inl Z') e,ih q⟩
 | tbl ps=>have e:h.get? a=ga {cls:=.none,data:=.fields ps}:=x;show h'.get? a=ga {cls:=.none,data:=.fields ps};exact k a _ (.inl Z') e
 | met f y=>have e:h.get? a=ga (W.methodObj (.ref f) (.ref y)):=x;show h'.get? a=ga (W.methodObj (.ref f) (.ref y));exact k a _ (.inl Z') e
 | ext φ=>obtain⟨p,⟨o,e⟩,st⟩:=x;exact⟨st _ _ p λo q=>k _ _ (.inl Z') q,⟨o,k _ _ (.inl Z') e⟩,st⟩
def yp.lt(x:yp P w H h)(e:H a=ga o):a<h.objs.size:=(x a o e).lt
def yp.fresh(x:yp P w H h)(e:h.objs.size<=a):H a=Fa:=by
 cases q:H a with
 | none=>rfl
 | some u=>exact absurd (dQ (x.lt q) e) (eS _)
def yp.kept(x:yp P w H h)(k:∀b u,h.get? b=ga u->h'.get? b=ga u):yp P w H h':=λa o e=>(x a o e).nq (λb u _ q=>k b u q) (λ_ q=>q) λ_ _ q=>q
def yp.laid(x:yp P w H h)(k:∀b u,h.get? b=ga u->h'.get? b=ga u)(hp:h.objs.size<=a)(new:rZ P w (upd H a o) h' a o):yp P w (upd H a o) h':=λb u e=>by
 have hn:=x.fresh hp;by_cases hb:b=a
 .subst hb;rw[pT]at e;cases e;exact new
 .rw[pS hb]at e;exact(x b u e).nq (λc v _ q=>k c v q) (λc q=>by rw[pS (qK q hn)];exact q) λc xs q=>by rw[pS (qK q hn)];exact q
end
def Rd(H:Hp)(a:lf)(u:HO):Prop:=H a=ga u\/∃o,H a=ga (.frz o u)
def Rd.ok(r:Rd H a u)(x:yp P w H h):rZ P w H h a u:=by
 rcases r with r|⟨o,r⟩
 .exact x a u r
 .obtain⟨_,q⟩:=x a _ r;exact q
def Uz:Option HO->Prop
 | some (.lst _)=>True
 | some (.dK _)=>True
 | some (.dT _)=>True
 | some (.set _ _)=>True
 | some (.ins _ _ _)=>True
 | some (.ext _)=>True
 | _=>False
variable {o':HO}
section
variable {P:Pg}{w:Wo}{x e:lf}
def yp.write(ok:yp P w H h)(mu:Uz (H x))(he:e=x\/H e=ga (.own x))(k:∀b u,b≠e->h.get? b=ga u->h'.get? b=ga u)(heo:∃u,h'.get? e=ga u) (new:rZ P w (upd H x o') h' x o'):yp P w (upd H x o') h':=λb u q=>by
 have nown:∀c y,H c=ga (.own y)->c≠x:=λc y r z=>by subst z;rw[r]at mu;exact mu
 have ntup:∀c xs,H c=ga (.tup xs)->c≠x:=λc xs r z=>by subst z;rw[r]at mu;exact mu
 by_cases hb:b=x
 .subst hb;rw[pT]at q;cases q;exact new
 .rw[pS hb]at q;by_cases hbe:b=e
  .have q':H b=ga (.own x):=by
    rcases he with z|z
    .exact absurd (hbe.trans z) hb
    .rw[hbe];exact z
   rw[q]at q';cases q';obtain⟨v,hv⟩:=heo;exact⟨v,by rw[hbe];exact hv⟩
  .refine(ok b u q).nq (λc v hc r=>k c v ?_ r) (λc r=>by rw[pS (nown c b r)];exact r) λc xs r=>by rw[pS (ntup c xs r)];exact r
   rcases hc with rfl|hc
   .exact hbe
   .rintro rfl
    rcases he with z|z
    .exact nown c b hc z
    .rw[hc]at z;cases z;exact hb Z'
end
structure Un(fs ex:QXQ)(H H':Hp)(h h':Go):Prop where
 keep:∀b o,h.get? b=ga o->H b=Fa->b∉fs->b∉ex->h'.get? b=ga o
 slot:∀b o,h.get? b=ga o->H b=Fa->b∈fs->b∉ex->∃sl,h'.get? b=ga {o with slots:=sl}
 free:∀b o,h.get? b=ga o->H b=Fa->b∉ex->H' b=Fa
 there:∀b o,h.get? b=ga o->b∉ex->∃o',h'.get? b=ga o'
 nk:∀b xs,H b=ga (.tup xs)->H' b=ga (.tup xs)
 mZ:∀b o u,H b=ga (.frz o u)->H' b=ga (.frz o u)
 nB:∀b ps,H b=ga (.tbl ps)->∃more,H' b=ga (.tbl (ps++more))
variable {ex ex':QXQ}{H1 H2:Hp}{h1 h2:Go}
section
variable {fs fs':QXQ}{a x e:lf}{o:HO}
def Un.any(u:Un fs ex H H1 h h1){b:lf}{ob:Obj}(q:h.get? b=ga ob)(n:H b=Fa)(hx:b∉ex):∃sl,h1.get? b=ga {ob with slots:=sl}:=by
 by_cases hb:b∈fs
 .exact u.slot b ob q n hb hx
 .exact⟨ob.slots,u.keep b ob q n hb hx⟩
def Un.trans(a:Un fs ex H H1 h h1)(b:Un fs ex H1 H2 h1 h2):Un fs ex H H2 h h2 where
 keep:=λc ob q n hc hx=>b.keep c ob (a.keep c ob q n hc hx) (a.free c ob q n hx) hc hx
 slot:=λc ob q n hc hx=>by obtain⟨sl,e1⟩:=a.slot c ob q n hc hx;obtain⟨YR,e2⟩:=b.slot c _ e1 (a.free c ob q n hx) hc hx;exact⟨YR,e2⟩
 free:=λc ob q n hx=>by obtain⟨o',e1⟩:=a.there c ob q hx;exact b.free c o' e1 (a.free c ob q n hx) hx
 there:=λc ob q hx=>by obtain⟨o',e1⟩:=a.there c ob q hx;exact b.there c o' e1 hx
 nk:=λc xs q=>b.nk c xs (a.nk c xs q)
 mZ:=λc ob xs q=>b.mZ c ob xs (a.mZ c ob xs q)
 nB:=λc ps q=>by obtain⟨m1,e1⟩:=a.nB c ps q;obtain⟨m2,e2⟩:=b.nB c _ e1;exact⟨m1++m2,by rw[e2,kC]⟩
def Un.kept(k:∀b u,h.get? b=ga u->h'.get? b=ga u):Un fs ex H H h h':=
 ⟨λb ob q _ _ _=>k b ob q,λb ob q _ _ _=>⟨ob.slots,k b ob q⟩,λ_ _ _ n _=>n,λb ob q _=>⟨ob,k b ob q⟩,λ_ _ q=>q,λ_ _ _ q=>q,λ_ ps q=>⟨#[],by rw[q];simp⟩⟩
def Un.refl:Un fs ex H H h h:=Un.kept λ_ _ q=>q
def Un.laid(k:∀b u,h.get? b=ga u->h'.get? b=ga u)(hp:h.objs.size<=a)(hn:H a=Fa):Un fs ex H (upd H a o) h h' where
 keep:=λb u q _ _ _=>k b u q
 slot:=λb u q _ _ _=>⟨u.slots,k b u q⟩
 free:=λb u q n _=>by rw[pS (dU (dQ (dE q) hp))];exact n
 there:=λb u q _=>⟨u,k b u q⟩
 nk:=λb xs q=>by rw[pS (qK q hn)];exact q
 mZ:=λb u xs q=>by rw[pS (qK q hn)];exact q
 nB:=λb ps q=>⟨#[],by rw[pS (qK q hn),q];simp⟩
def Un.write(mu:Uz (H x))(he:e=x\/H e=ga (.own x))(k:∀b u,b≠e->h.get? b=ga u->h'.get? b=ga u)(heo:∃u,h'.get? e=ga u):Un fs ex H (upd H x o) h h':=by
 have hx:∀b,H b=Fa->b≠x:=λb n z=>by subst z;rw[n]at mu;exact mu
 have hb:∀b,H b=Fa->b≠e:=λb n z=>by
  subst z;rcases he with r|r
  .exact hx b n r
  .rw[n]at r;cases r
 have hm:∀b u,H b=ga u->¬Uz (ga u)->b≠x:=λb u q nm z=>by subst z;rw[q]at mu;exact nm mu
 refine⟨λb u q n _ _=>k b u (hb b n) q,λb u q n _ _=>⟨u.slots,k b u (hb b n) q⟩,λb u q n _=>by rw[pS (hx b n)];exact n,λb u q _=>?_,λb xs q=>by rw[pS (hm b _ q λz=>z)];exact q,λb u xs q=>by rw[pS (hm b _ q λz=>z)];exact q,λb ps q=>⟨#[],by rw[pS (hm b _ q λz=>z),q];simp⟩⟩
 by_cases hbe:b=e
 .subst hbe;exact heo
 .exact⟨u,k b u hbe q⟩
end
noncomputable def Vw(h:Go)(H:Hp):QXQ:=(List.range h.objs.size).filter λa=>(H a).isSome
noncomputable def FF(h:Go)(H:Hp):Go:=W.hideAll h (Vw h H)
def J0(h:Go)(H:Hp):(FF h H).objs.size=h.objs.size:=W.hideAll_size _ _
def Nw{h:Go}{H:Hp}{b:lf}{o:Obj}(e:h.get? b=ga o)(n:H b=Fa):(FF h H).get? b=ga o:=
 W.hideAll_get _ e λhm=>by have q:(H b).isSome=Db:=(fE.mp hm).2;rw[n]at q;simp at q
def O2{b:lf}{o:Obj}(e:(FF h H).get? b=ga o):h.get? b=ga o/\H b=Fa:=by
 have e':h.get? b=ga o:=W.of_hideAll (Vw h H) e;refine⟨e',?_⟩;cases q:H b with
 | none=>rfl
 | some x=>have hm:b∈Vw h H:=fE.mpr ⟨gy.mpr (dE e'),by simp[q]⟩;have z:(FF h H).get? b=Fa:=W.hideAll_none (Vw h H) hm;rw[z]at e;cases e
structure Mod(K:qk)(mg:QQZ)(base:Go):Prop where
 nW:K.In base
 glob:base.Ns Ps mg
 blt:∃mb,base.Ns builtinsNs mb/\∀x:Str,x≠"__name__"->mb x=Tl x
 nolimit:base.NoLimit
structure Cx where
 prog:Pg
 w:Wo
 K:qk
 mg:QQZ
 base:Go
 A:Ar
 N:QQQ
 s₀:Sd
 H₀:Hp
 env:Env
 outer:List Env
 stack:List Env
 ex:QXQ
 fn:Str->Bool
 calm:Bool
 pn:QQY
 xe:QQX
abbrev A9(X:Cx)(e:zn)(es:T0 zn):Prop:=Tk (e::es) X.env=(pc,No e X.env)::Tk es X.env
abbrev CP(X:Cx)(p:Pos)(es:T0 zn):Prop:=(wv p (Tk es X.env)).any (·.1)=pc
abbrev zb(x:Str):Prop:=(x==("__debug__":Str))=pc
abbrev KL(X:Cx)(x:Str):Prop:=X.fn x=Db\/X.env.scope.names.lookup x=ga .local
noncomputable def vZ(l:T0 Env):QXQ:=l.filterMap (·.frame)
abbrev Cx.fs(X:Cx):QXQ:=vZ X.outer
def Ut(sc:XXa)(x:Str):Prop:=sc.names.lookup x=ga .local\/sc.names.lookup x=ga .cell\/sc.names.lookup x=ga .free
def KM(sc:XXa)(x:Str):Prop:=sc.names.lookup x=ga .local\/sc.names.lookup x=ga .cell
def VS(env:Env)(h:Go)(m:QQZ)(x:Str)(u:Vl):Prop:=
 (env.kindOf x=ga .local/\m x=ga u)\/((env.kindOf x=ga .cell\/env.kindOf x=ga .free)/\∃c,env.cells.lookup x=ga c/\h.IsCell c (ga u))
structure Cx.Ok(X:Cx):Prop where
 mod:Mod X.K X.mg X.base
 kind:X.env.scope.kind=.function
 glob:X.env.globals=Ps
 blt:X.env.builtins=builtinsNs
 above:X.s₀.heap.objs.size<=X.env.locals
 inj:∀x y c,X.env.cells.lookup x=ga c->X.env.cells.lookup y=ga c->x=y
 has:∀x,(X.env.kindOf x=ga .cell\/X.env.kindOf x=ga .free)->∃c,X.env.cells.lookup x=ga c
 og:∀x c,X.fn x=Db->X.env.cells.lookup x=ga c->X.s₀.heap.objs.size<=c
 hd:X.calm=Db->X.A.handled=Fa
 frames:X.A.frames=ga X.stack
 oA:X.stack=X.outer\/(X.stack=X.env::X.outer/\X.env.frame=ga X.env.locals)
 oR:∀b∈X.ex,b≠X.env.locals/\∀x c,X.env.cells.lookup x=ga c->c≠b
 bs:∀b o,X.base.get? b=ga o->X.s₀.heap.get? b=ga o/\X.H₀ b=Fa
 nO:X.base.objs.size<=X.s₀.heap.objs.size
 nF:∀b o,X.base.get? b=ga o->b∉X.ex
 nM:∀b∈X.ex,b∉X.fs
 nj:X.s₀.heap.FunFrames X.base X.outer
 nX:∀b∈X.fs,X.H₀ b=Fa
structure Inv(X:Cx)(Xn:QQY)(Y:List (Option V))(H:Hp)(s:Sd):Prop where
 ok:X.Ok
 os:s.os=X.s₀.os
 bare:XXj s.gens
 base:Un X.fs X.ex X.H₀ H X.s₀.heap s.heap
 loc:∃m,s.heap.Ns X.env.locals m/\∀(i:Nat) (x:Str) (v:V),X.N[i]?=ga x->Y[i]?=ga (ga v)->Ut X.env.scope x->∃u,qy v u/\VS X.env s.heap m x u
 cell:∀x c,X.env.cells.lookup x=ga c->∃v,s.heap.IsCell c v
 free:H X.env.locals=Fa
 mM:∀x c,X.env.cells.lookup x=ga c->H c=Fa
 pin:∀p∈X.pn++Xn,s.heap.get? p.1=ga p.2/\H p.1=Fa/\p.1≠X.env.locals/\p.1∉X.fs/\∀v,p.2.data≠.cell v
 mH:yp X.prog X.w H s.heap
 len:Y.length=X.N.length
variable {X:Cx}{Xn:T0 (lf × Obj)}{s:Sd}
section
variable {Y:T0 (Option V)}
def Cx.Ok.nofr(ok:X.Ok){b:lf}{o:Obj}(e:X.base.get? b=ga o):b∉X.fs:=λhb=>by have:=(ok.nj.mem hb).1;rw[e]at this;cases this
def Inv.bs(I:Inv X Xn Y H s):∀b o,X.base.get? b=ga o->s.heap.get? b=ga o/\H b=Fa:=λb o e=>⟨I.base.keep b o (I.ok.bs b o e).1 (I.ok.bs b o e).2 (I.ok.nofr e) (I.ok.nF b o e),I.base.free b o (I.ok.bs b o e).1 (I.ok.bs b o e).2 (I.ok.nF b o e)⟩
def Inv.bk(I:Inv X Xn Y H s):∀b o,X.base.get? b=ga o->s.heap.get? b=ga o:=λb o e=>(I.bs b o e).1
def Inv.mod(I:Inv X Xn Y H s):Mod X.K X.mg X.base:=I.ok.mod
def Inv.mR(I:Inv X Xn Y H s):X.K.In s.heap:=I.ok.mod.nW.keeps I.bk
def Inv.lt(I:Inv X Xn Y H s):X.env.locals<s.heap.objs.size:=let⟨_,hn,_⟩:=I.loc;hn.lt
def Inv.sz(I:Inv X Xn Y H s):X.s₀.heap.objs.size<=s.heap.objs.size:=dZ I.ok.above (kD I.lt)
def Inv.oO(I:Inv X Xn Y H s){a:lf}(h:s.heap.objs.size<=a):a∉X.fs:=λhb=>by obtain⟨_,o,ho,_⟩:=I.ok.nj.mem hb;exact absurd (dQ (dE ho) (dZ I.sz h)) (eS _)
def Inv.oS(I:Inv X Xn Y H s):∀x c,X.env.cells.lookup x=ga c->c≠X.env.locals:=λx c e z=>by obtain⟨v,o,ho,hd⟩:=I.cell x c e;obtain⟨m,⟨o',es,ep,X6,hd',_⟩,_⟩:=I.loc;rw[z,X6]at ho;cases ho;rw[hd']at hd;cases hd
def Inv.nj(I:Inv X Xn Y H s):s.heap.FunFrames X.base X.outer:=by
 have all:∀(l:T0 Env),(∀b∈vZ l,b∈X.fs)->X.s₀.heap.FunFrames X.base l->s.heap.FunFrames X.base l:=by
  intro l;induction l with
  | nil=>intro _ _;trivial
  | cons env r ih=>intro hs hl;obtain⟨hk,⟨L,o,hf,hn,ho,hd⟩,hr⟩:=hl;have hL:L∈X.fs:=hs L (by unfold vZ;rw[fX,hf];exact dH);obtain⟨sl,e⟩:=I.base.slot L o ho (I.ok.nX L hL) hL λz=>I.ok.nM L z hL;exact⟨hk,⟨L,_,hf,hn,e,hd⟩,ih (λb hb=>hs b (by unfold vZ;rw[fX,hf];exact dF _ hb)) hr⟩
 exact all X.outer (λ_ hb=>hb) I.ok.nj
def Inv.stack(I:Inv X Xn Y H s):s.heap.FunFrames X.base X.stack:=by
 rcases I.ok.oA with e|⟨e,hf⟩
 .rw[e];exact I.nj
 .rw[e];obtain⟨m,hn,_⟩:=I.loc;refine .cons (by rw[I.ok.kind];decide) hf hn ?_ I.nj;exact gO (dZ I.ok.nO I.ok.above)
def Inv.m9(I:Inv X Xn Y H s):∀b∈vZ X.stack,b∈X.env.locals::X.fs:=λb hb=>by
 rcases I.ok.oA with e|⟨e,hf⟩
 .rw[e]at hb;exact dF _ hb
 .rw[e]at hb;unfold vZ at hb;rw[fX,hf]at hb;exact hb
def Inv.nv(I:Inv X Xn Y H s):∀b∈vZ X.stack,H b=Fa:=λb hb=>by
 rcases dz.mp (I.m9 b hb)with e|hb
 .rw[e];exact I.free
 .obtain⟨_,o,ho,_⟩:=I.ok.nj.mem hb;exact I.base.free b o ho (I.ok.nX b hb) λz=>I.ok.nM b z hb
def Inv.step{g':Array GenState}{t':Nat}{d':Drawn}{ch:QXQ}(I:Inv X Xn Y H s) (Yo:∀b∈ch,(b∈X.ex\/X.s₀.heap.objs.size<=b)/\b≠X.env.locals/\(∀x c,X.env.cells.lookup x=ga c->c≠b)/\∀p∈X.pn++Xn,p.1≠b) (keep:∀b o,b≠X.env.locals->b∉X.fs->b∉ch->s.heap.get? b=ga o->H b=Fa->h'.get? b=ga o) (slot:∀b o,b≠X.env.locals->b∈X.fs->b∉ch->s.heap.get? b=ga o->H b=Fa->∃sl,h'.get? b=ga {o with slots:=sl}) (free:∀b o,b∉ch->s.heap.get? b=ga o->H b=Fa->H' b=Fa)
  (there:∀b o,b∉ch->s.heap.get? b=ga o->∃o',h'.get? b=ga o')
  (nk:∀b xs,H b=ga (.tup xs)->H' b=ga (.tup xs)) (mZ:∀b o u,H b=ga (.frz o u)->H' b=ga (.frz o u)) (nB:∀b ps,H b=ga (.tbl ps)->∃more,H' b=ga (.tbl (ps++more)))
  (ns:∀m,s.heap.Ns X.env.locals m->h'.Ns X.env.locals m) (mH:yp X.prog X.w H' h') (hg:XXj g'):
  Inv X Xn Y H' {s with heap:=h',gens:=g',drawn:=d',toks:=t'}:=by
 have neL:∀b o,X.s₀.heap.get? b=ga o->b≠X.env.locals:=λb o e=>dU (dQ (dE e) I.ok.above);have neC:∀b o,X.s₀.heap.get? b=ga o->b∉X.ex->b∉ch:=λb o e hx hb=>by
  rcases(Yo b hb).1 with z|z
  .exact hx z
  .exact absurd (dQ (dE e) z) (eS _)
 have ZP:∀x c,X.env.cells.lookup x=ga c->∀v,s.heap.IsCell c v->h'.IsCell c v:=λx c e v ⟨o,ho,hd⟩=>by
  have nch:c∉ch:=λz=>(Yo c z).2.2.1 x c e Z';by_cases hc:c∈X.fs
  .obtain⟨sl,q⟩:=slot c o (I.oS x c e) hc nch ho (I.mM x c e);exact⟨_,q,hd⟩
  .exact⟨o,keep c o (I.oS x c e) hc nch ho (I.mM x c e),hd⟩
 refine⟨I.ok,I.os,hg,⟨λb o e n hb hx=>?_,λb o e n hb hx=>?_,λb o e n hx=>?_,λb o e hx=>?_,λb xs e=>nk b xs (I.base.nk b xs e),λb o xs e=>mZ b o xs (I.base.mZ b o xs e),λb ps e=>?_⟩,?_,λx c e=>?_,?_,λx c e=>?_,λp hp=>?_,mH,I.len⟩
 .exact keep b o (neL b o e) hb (neC b o e hx) (I.base.keep b o e n hb hx) (I.base.free b o e n hx)
 .obtain⟨sl,e1⟩:=I.base.slot b o e n hb hx;obtain⟨YR,e2⟩:=slot b _ (neL b o e) hb (neC b o e hx) e1 (I.base.free b o e n hx);exact⟨YR,e2⟩
 .obtain⟨o',e1⟩:=I.base.there b o e hx;exact free b o' (neC b o e hx) e1 (I.base.free b o e n hx)
 .obtain⟨o',e1⟩:=I.base.there b o e hx;exact there b o' (neC b o e hx) e1
 .obtain⟨m1,e1⟩:=I.base.nB b ps e;obtain⟨m2,e2⟩:=nB b _ e1;exact⟨m1++m2,by rw[e2,kC]⟩
 .obtain⟨m,hn,hl⟩:=I.loc;refine⟨m,ns m hn,λi x v e1 e2 e3=>?_⟩;obtain⟨u,r,l⟩:=hl i x v e1 e2 e3;refine⟨u,r,?_⟩;rcases l with l|⟨k,c,e,z⟩
  .exact .inl l
  .exact .inr ⟨k,c,e,ZP x c e _ z⟩
 .obtain⟨v,z⟩:=I.cell x c e;exact⟨v,ZP x c e v z⟩
 .obtain⟨m,⟨o,_,_,ho,_⟩,_⟩:=I.loc;exact free _ o (λz=>(Yo _ z).2.1 Z') ho I.free
 .obtain⟨v,o,ho,hd⟩:=I.cell x c e;exact free c o (λz=>(Yo c z).2.2.1 x c e Z') ho (I.mM x c e)
 .obtain⟨e,n,ne,nf,d⟩:=I.pin p hp;have nch:p.1∉ch:=λz=>(Yo p.1 z).2.2.2 p hp Z';exact⟨keep p.1 p.2 ne nf nch e n,free p.1 p.2 nch e n,ne,nf,d⟩
def Inv.un{t':Nat}(I:Inv X Xn Y H s)(u:Un X.fs [] H H' s.heap h')(mH:yp X.prog X.w H' h'):Inv X Xn Y H' {s with heap:=h',toks:=t'}:=by
 obtain⟨m,⟨o,es,ep,ho,r⟩,_⟩:=id I.loc;obtain⟨sl,hL⟩:=u.any ho I.free (by simp);exact I.step (g':=s.gens) (d':=s.drawn) (ch:=[]) (λ_ z=>nomatch z) (λb o _ hb _ e n=>u.keep b o e n hb (by simp)) (λb o _ hb _ e n=>u.slot b o e n hb (by simp)) (λb o _ e n=>u.free b o e n (by simp)) (λb o _ e=>u.there b o e (by simp)) u.nk u.mZ u.nB (λm' hm=>by
  obtain⟨o',es',ep',X6,r'⟩:=hm;rw[ho]at X6;cases X6;exact⟨_,es',ep',hL,r'⟩) mH I.bare
def Inv.call{t':Nat}{d':Drawn}(I:Inv X Xn Y H s)(u:Un (vZ X.stack) ch H H' s.heap h')(mH:yp X.prog X.w H' h')(hg:XXj g') (Yo:∀b∈ch,(b∈X.ex\/X.s₀.heap.objs.size<=b)/\b≠X.env.locals/\(∀x c,X.env.cells.lookup x=ga c->c≠b)/\∀p∈X.pn++Xn,p.1≠b):
  Inv X Xn Y H' {s with heap:=h',gens:=g',drawn:=d',toks:=t'}:=by
 obtain⟨m,⟨o,es,ep,ho,r⟩,_⟩:=id I.loc;obtain⟨sl,hL⟩:=u.any ho I.free λz=>(Yo _ z).2.1 Z';exact I.step (ch:=ch) Yo (λb o hL hb hc e n=>u.keep b o e n (λz=>(dz.mp (I.m9 b z)).elim hL hb) hc) (λb o _ _ hc e n=>u.any e n hc) (λb o hc e n=>u.free b o e n hc) (λb o hc e=>u.there b o e hc) u.nk u.mZ u.nB (λm' hm=>by
  obtain⟨o',es',ep',X6,r'⟩:=hm;rw[ho]at X6;cases X6;exact⟨_,es',ep',hL,r'⟩) mH hg
def Inv.turned{t':Nat}{it:lf}(I:Inv X Xn Y H s)(k:∀b o,b≠it->s.heap.get? b=ga o->h'.get? b=ga o)(hn:H it=Fa)(hL:it≠X.env.locals) (h1:it∈X.ex\/X.s₀.heap.objs.size<=it) (h2:∀x c,X.env.cells.lookup x=ga c->c≠it) (h3:∀p∈X.pn++Xn,p.1≠it):Inv X Xn Y H {s with heap:=h',toks:=t'}:=by
 have nit:∀b u,H b=ga u->b≠it:=λb u e z=>by rw[z,hn]at e;cases e
 refine I.step (g':=s.gens) (d':=s.drawn) (ch:=[it]) (λb hb=>?_) (λb o _ _ hc e _=>k b o (λz=>hc (by simp[z])) e) (λb o _ _ hc e _=>⟨o.slots,k b o (λz=>hc (by simp[z])) e⟩) (λ_ _ _ _ n=>n)
  (λb o hc e=>⟨o,k b o (λz=>hc (by simp[z])) e⟩) (λ_ _ e=>e) (λ_ _ _ e=>e) (λb ps e=>⟨#[],by rw[e];simp⟩) (λm hm=>?_) (λb u e=>?_) I.bare
 .have e:b=it:=by simpa using hb
  subst e;exact⟨h1,hL,h2,h3⟩
 .obtain⟨o,es,ep,ho,r⟩:=hm;exact⟨o,es,ep,k _ o (dX hL) ho,r⟩
 .refine(I.mH b u e).nq (λc v hc q=>k c v ?_ q) (λ_ q=>q) λ_ _ q=>q;rcases hc with z|z
  .rw[z];exact nit b u e
  .exact nit c _ z
def Inv.tok(I:Inv X Xn Y H s)(t:Nat):Inv X Xn Y H {s with toks:=t}:=I.un (h':=s.heap) (t':=t) Un.refl I.mH
def Inv.kept{t':Nat}(I:Inv X Xn Y H s)(k:∀b u,s.heap.get? b=ga u->h'.get? b=ga u):Inv X Xn Y H {s with heap:=h',toks:=t'}:=I.un (Un.kept k) (I.mH.kept k)
def Inv.laid{a:lf}{t':Nat}(I:Inv X Xn Y H s)(k:∀b u,s.heap.get? b=ga u->h'.get? b=ga u)(hp:s.heap.objs.size<=a)(new:rZ X.prog X.w (upd H a o) h' a o):
  Inv X Xn Y (upd H a o) {s with heap:=h',toks:=t'}:=I.un (Un.laid k hp (I.mH.fresh hp)) (I.mH.laid k hp new)
def Inv.write{x e:lf}{t':Nat}(I:Inv X Xn Y H s)(mu:Uz (H x))(he:e=x\/H e=ga (.own x))(k:∀b u,b≠e->s.heap.get? b=ga u->h'.get? b=ga u)(heo:∃u,h'.get? e=ga u) (new:rZ X.prog X.w (upd H x o) h' x o):Inv X Xn Y (upd H x o) {s with heap:=h',toks:=t'}:=I.un (Un.write mu he k heo) (I.mH.write mu he k heo new)
def Inv.nG{Yp:QQY}(I:Inv X Xn Y H s)(h:∀p∈Yp,s.heap.get? p.1=ga p.2/\H p.1=Fa/\p.1≠X.env.locals/\p.1∉X.fs/\∀v,p.2.data≠.cell v):Inv X Yp Y H s:=
 ⟨I.ok,I.os,I.bare,I.base,I.loc,I.cell,I.free,I.mM,λp hp=>(dO.mp hp).elim (λz=>I.pin p (fi _ z)) (h p),I.mH,I.len⟩
def Gi{N:QQQ}(hN:N.Nodup){i j:Nat}{x:Str}(a:N[i]?=ga x)(b:N[j]?=ga x):i=j:=by obtain⟨h1,e1⟩:=cZ.mp a;obtain⟨h2,e2⟩:=cZ.mp b;exact(lz hN).mp (e1.trans e2.symm)
def Dw{M:Model}{A:Ar}{E:QQX}{i:Nat}{x:Str}{Q:Unit->Sd->Prop}(I:Inv X Xn Y H s)(hN:X.N.Nodup)(hi:X.N[i]?=ga x)(hx:KM X.env.scope x)(r:qy v u) (h:∀s',Inv X Xn (Y.set i (ga v)) H s'->(∃a,Heap.SameBut a s.heap s'.heap/\(a=X.env.locals\/X.env.cells.lookup x=ga a))->Q () s') (hf:KL X x:=by first|exact .inl Z'|exact .inr Z'|assumption):Ch M A (storeName X.env x u) Q E s:=by
 obtain⟨m,hn,hl⟩:=id I.loc;have hcls:(X.env.scope.kind==.class||(X.env.scope.kind==.module&&X.env.locals != X.env.globals))=pc:=by rw[I.ok.kind];rfl
 have hiσ:i<Y.length:=by rw[I.len];exact(cZ.mp hi).1
 have oS:=I.oS;have XB:∀{a:lf} {h':Go},(∃o,s.heap.get? a=ga o/\H a=Fa)->Heap.SameBut a s.heap h'->yp X.prog X.w H h':=λ{a h'} ha hs b ob e=>by
  obtain⟨_,_,Ye⟩:=ha;refine(I.mH b ob e).nq (λc w' hc q=>(hs.2 c ?_).trans q) (λ_ q=>q) λ_ _ q=>q
  rintro rfl
  rcases hc with rfl|hc
  .rw[Ye]at e;cases e
  .rw[Ye]at hc;cases hc
 rcases hx with hk|hk
 .refine wpAny_storeName_local hk hn (λh' Zl hs=>?_) hcls;obtain⟨oL,_,_,hoL,_⟩:=id hn;refine h _ ⟨I.ok,I.os,I.bare,⟨λb o e n hb hx=>?_,λb o e n hb hx=>?_,I.base.free,λb o e hx=>?_,I.base.nk,I.base.mZ,I.base.nB⟩,⟨_,Zl,λj y v' e1 e2 e3=>?_⟩,λy c e=>?_,I.free,I.mM,λp hp=>?_,XB ⟨oL,hoL,I.free⟩ hs,by simpa using I.len⟩ ⟨_,hs,.inl Z'⟩
  .exact(hs.2 b (dU (dQ (dE e) I.ok.above))).trans (I.base.keep b o e n hb hx)
  .obtain⟨sl,e1⟩:=I.base.slot b o e n hb hx;exact⟨sl,(hs.2 b (dU (dQ (dE e) I.ok.above))).trans e1⟩
  .obtain⟨o',e1⟩:=I.base.there b o e hx;exact⟨o',(hs.2 b (dU (dQ (dE e) I.ok.above))).trans e1⟩
  .by_cases hj:j=i
   .subst hj;rw[hi]at e1;cases e1;rw[fC hiσ]at e2;cases e2;exact⟨u,r,.inl ⟨hk,by simp⟩⟩
   .rw[fB (dX hj)]at e2;obtain⟨u',r',q⟩:=hl j y v' e1 e2 e3;refine⟨u',r',?_⟩;rcases q with⟨k,e⟩|⟨k,c,e,z⟩
    .refine .inl ⟨k,?_⟩;have:y≠x:=λe=>hj (Gi hN e1 (e ▸ hi));simp[this,e]
    .exact .inr ⟨k,c,e,z.sameBut hs (oS y c e)⟩
  .obtain⟨w',z⟩:=I.cell y c e;exact⟨w',z.sameBut hs (oS y c e)⟩
  .obtain⟨e,n,ne,nf,d⟩:=I.pin p hp;exact⟨(hs.2 p.1 ne).trans e,n,ne,nf,d⟩
 .have hfn:X.fn x=Db:=by
   rcases hf with z|z
   .exact z
   .rw[z]at hk;cases hk
  obtain⟨c,hc⟩:=I.ok.has x (.inl hk);obtain⟨w',z⟩:=I.cell x c hc;refine wpAny_storeName_cell I.ok.kind hk hc z (λh' hc' hs=>?_);obtain⟨oc,hoc,hocd⟩:=id z;refine h {s with heap:=h'} ⟨I.ok,I.os,I.bare,⟨λb o e n hb hx=>?_,λb o e n hb hx=>?_,I.base.free,λb o e hx=>?_,I.base.nk,I.base.mZ,I.base.nB⟩,⟨m,hn.sameBut hs (dX (oS x c hc)),λj y v' e1 e2 e3=>?_⟩,λy c' e=>?_,I.free,I.mM,λp hp=>?_,XB ⟨oc,hoc,I.mM x c hc⟩ hs,by simpa using I.len⟩ ⟨c,hs,.inr hc⟩
  .exact(hs.2 b (dU (dQ (dE e) (I.ok.og x c hfn hc)))).trans (I.base.keep b o e n hb hx)
  .obtain⟨sl,e1⟩:=I.base.slot b o e n hb hx;exact⟨sl,(hs.2 b (dU (dQ (dE e) (I.ok.og x c hfn hc)))).trans e1⟩
  .obtain⟨o',e1⟩:=I.base.there b o e hx;exact⟨o',(hs.2 b (dU (dQ (dE e) (I.ok.og x c hfn hc)))).trans e1⟩
  .by_cases hj:j=i
   .subst hj;rw[hi]at e1;cases e1;rw[fC hiσ]at e2;cases e2;exact⟨u,r,.inr ⟨.inl hk,c,hc,hc'⟩⟩
   .rw[fB (dX hj)]at e2;obtain⟨u',r',q⟩:=hl j y v' e1 e2 e3;refine⟨u',r',?_⟩;rcases q with q|⟨k,c',e,z'⟩
    .exact .inl q
    .refine .inr ⟨k,c',e,z'.sameBut hs ?_⟩
     rintro rfl
     exact hj (Gi hN e1 (I.ok.inj _ _ _ e hc ▸ hi))
  .by_cases ZQ:c'=c
   .subst ZQ;exact⟨_,hc'⟩
   .obtain⟨w2,z2⟩:=I.cell y c' e;exact⟨w2,z2.sameBut hs ZQ⟩
  .obtain⟨e,n,ne,nf,d⟩:=I.pin p hp;refine⟨(hs.2 p.1 ?_).trans e,n,ne,nf,d⟩;intro q;rw[q,hoc]at e;have q':oc=p.2:=dv e;exact d w' (by rw[<-q'];exact hocd)
def Cw{M:Model}{A:Ar}{E:QQX}{i:Nat}{x:Str}{Q:Unit->Sd->Prop}(I:Inv X Xn Y H s)(hN:X.N.Nodup)(hi:X.N[i]?=ga x)(hx:KM X.env.scope x)(r:qy v u) (h:∀s',Inv X Xn (Y.set i (ga v)) H s'->Q () s') (hf:KL X x:=by first|exact .inl Z'|exact .inr Z'|assumption):Ch M A (storeName X.env x u) Q E s:=
 Dw I hN hi hx r (λs' I' _=>h s' I') hf
def Inv.oB{s':Sd}(I:Inv X Xn Y H s)(ho:s'.os=s.os)(u:Un (vZ X.stack) ch H H' s.heap s'.heap)(mH:yp X.prog X.w H' s'.heap)(hg:XXj s'.gens) (Yo:∀b∈ch,(b∈X.ex\/X.s₀.heap.objs.size<=b)/\b≠X.env.locals/\(∀x c,X.env.cells.lookup x=ga c->c≠b)/\∀p∈X.pn++Xn,p.1≠b):Inv X Xn Y H' s':=by
 obtain⟨h',g',d',t',o'⟩:=s';have e:o'=s.os:=ho;subst e;exact I.call (g':=g') (t':=t') (d':=d') u mH hg Yo
end
abbrev XK:=Vl->Option lf->Hp->Prop
abbrev St:=T0 (Option V)
abbrev VK:=V->Hp->Prop
abbrev TE:=St->Hp->VK->Prop
abbrev TT:=St->Hp->(Bool->Hp->Prop)->Prop
abbrev TA:=St->Hp->(T0 V->Hp->Prop)->Prop
structure EC where
 nx:St->Hp->Prop
 rt:VK
 bk:St->Hp->Prop:=λ_ _=>False
 ct:St->Hp->Prop:=λ_ _=>False
abbrev TS:=EC->St->Hp->Prop
def EP(X:Cx)(Xn:QQY)(Y:St)(Q:VK)(u:Vl)(s':Sd):Prop:=∃v H',Inv X Xn Y H' s'/\qy v u/\Q v H'
def TP(X:Cx)(Xn:QQY)(Y:St)(Q:Bool->Hp->Prop)(b:Bool)(s':Sd):Prop:=∃H',Inv X Xn Y H' s'/\Q b H'
def AP(X:Cx)(Xn:QQY)(Y:St)(Q:T0 V->Hp->Prop)(us:T0 Vl)(s':Sd):Prop:=∃vs H',Inv X Xn Y H' s'/\qw vs us/\Q vs H'
def SP(X:Cx)(Xn:QQY)(D:EC)(f:Flow)(s':Sd):Prop:=
 match f with
 | .next=>∃σ' H',Inv X Xn σ' H' s'/\D.nx σ' H'
 | .brk=>∃σ' H',Inv X Xn σ' H' s'/\D.bk σ' H'
 | .cont=>∃σ' H',Inv X Xn σ' H' s'/\D.ct σ' H'
 | .ret u=>∃v σ' H',Inv X Xn σ' H' s'/\qy v u/\D.rt v H'
def PE(X:Cx)(e:zn)(t:TE):Prop:=
 ∀(Xn:QQY) (s:Sd) (Y:St) (H:Hp) (Q:VK),Inv X Xn Y H s->t Y H Q->Ch (pi X.prog X.w) X.A (No e X.env) (EP X Xn Y Q) X.xe s
def PT(X:Cx)(e:zn)(t:TT):Prop:=
 ∀(Xn:QQY) (s:Sd) (Y:St) (H:Hp) (Q:Bool->Hp->Prop),Inv X Xn Y H s->t Y H Q->Ch (pi X.prog X.w) X.A (isTrue e X.env (No e X.env)) (TP X Xn Y Q) X.xe s
def PW(X:Cx)(e:zn)(t:TT):Prop:=
 ∀(XX:Sem Vl) (Xn:QQY) (s:Sd) (Y:St) (H:Hp) (Q:Bool->Hp->Prop),Inv X Xn Y H s->t Y H Q->Ch (pi X.prog X.w) X.A (isTrue e X.env XX) (TP X Xn Y Q) X.xe s
def PW.pt(h:PW X e t):PT X e t:=h _
def PA(X:Cx)(es:T0 zn)(t:TA):Prop:=
 ∀(pos:Pos) (Xn:QQY) (s:Sd) (Y:St) (H:Hp) (Q:T0 V->Hp->Prop),Inv X Xn Y H s->t Y H Q->Ch (pi X.prog X.w) X.A (spliced (wv pos (Tk es X.env))) (AP X Xn Y Q) X.xe s
def PS(X:Cx)(st:xz)(t:TS):Prop:=
 ∀(Xn:QQY) (s:Sd) (Y:St) (H:Hp) (D:EC),Inv X Xn Y H s->t D Y H->Ch (pi X.prog X.w) X.A (exec st X.env) (SP X Xn D) X.xe s
def B7(X:Cx)(st:T0 xz)(t:TS):Prop:=
 ∀(Xn:QQY) (s:Sd) (Y:St) (H:Hp) (D:EC),Inv X Xn Y H s->t D Y H->Ch (pi X.prog X.w) X.A (execs st X.env) (SP X Xn D) X.xe s
def rR{α:Type}{t:Sem α}{Q Q':α->Sd->Prop}{M:Model}{A:Ar}{E:QQX}{s:Sd}(h:Ch M A t Q E s)(hQ:∀a s,Q a s->Q' a s):Ch M A t Q' E s:=eC h hQ λ_ _ x=>x
variable {tA tB':TT}{ta tb:TE}{pos:Pos}
section
def HJ(i:Nat):TE:=λY H Q=>∃v,Y[i]?=ga (ga v)/\Q v H
def tC(v:V):TE:=λ_ H Q=>Q v H
def Rv{i:Nat}{x:Str}(hN:X.N[i]?=ga x)(hv:Ut X.env.scope x)(hd:zb x:=by decide)(YE:(x==("__classdict__":Str))=pc:=by decide):PE X (.Name x pos) (HJ i):=by
 intro Xn s Y H Q I h;obtain⟨v,e,h⟩:=h;obtain⟨m,hn,hl⟩:=I.loc;obtain⟨u,r,l⟩:=hl i x v hN e hv;have Xs:EP X Xn Y Q u s:=⟨v,H,I,r,h⟩;rcases l with⟨hk,hm⟩|⟨hk,c,hc,hcell⟩
 .exact lM (wpAny_loadName_local I.ok.kind hk hn hm Xs) hd
 .rcases hk with hk|hk
  .exact lM (wpAny_loadName_cell I.ok.kind hk hc hcell Xs) hd
  .exact lM (wpAny_loadName_free I.ok.kind hk hc hcell Xs YE) hd
def SX{i j pos}:PE X (.Constant (.int i) j pos) (tC (.int i)):=λ_ _ _ H _ I h=>wpAny_Constant_int ⟨.int i,H,I.tok _,⟨_,Z'⟩,h⟩
def Ui{b j pos}:PE X (.Constant (.bool b) j pos) (tC (.bl b)):=λ_ _ _ H _ I h=>Constant_bool ⟨.bl b,H,I,Z',h⟩
def Sj{j pos}:PE X (.Constant .none j pos) (tC .mC):=λ_ _ _ H _ I h=>Constant_none ⟨.mC,H,I,Z',h⟩
def RE{x j pos}:PE X (.Constant (.str x) j pos) (tC (.str x)):=λ_ _ _ H _ I h=>Calls.Constant_str ⟨.str x,H,I.tok _,⟨_,Z'⟩,h⟩
def Gl(X:Cx)(x:Str):Prop:=X.env.kindOf x=ga .globalImplicit
def wG{E:QQX}{Xn:QQY}{u:Vl}{Q:QQX}(I:Inv X Xn Y H s)(hg:Gl X x)(hm:X.mg x=ga u)(h:Q u s) (hd:zb x:=by decide):Ch (pi X.prog X.w) X.A (No (.Name x pos) X.env) Q E s:=
 jh I.ok.kind hg (Calls.loadGlobal_global (by rw[I.ok.glob];exact I.mod.glob.keeps I.bk) hm h) hd
def vW{E:QQX}{Xn:QQY}{u:Vl}{Q:QQX}(I:Inv X Xn Y H s)(hg:Gl X x)(hm:X.mg x=Fa)(hv:Tl x=ga u)(h:Q u s) (hn:x≠"__name__":=by decide) (hd:zb x:=by decide):Ch (pi X.prog X.w) X.A (No (.Name x pos) X.env) Q E s:=by
 obtain⟨mb,h1,h2⟩:=I.mod.blt;exact jh I.ok.kind hg (Calls.loadGlobal_builtin (by rw[I.ok.glob];exact I.mod.glob.keeps I.bk) hm (by rw[I.ok.blt];exact h1.keeps I.bk) ((h2 x hn).trans hv) h) hd
def EK{u:Vl}(hg:Gl X x)(hm:X.mg x=ga u)(r:qy v u)(hd:zb x:=by decide):PE X (.Name x pos) (tC v):=
 λ_ _ _ H _ I h=>wG I hg hm ⟨v,H,I,r,h⟩ hd
def O5{u:Vl}(hg:Gl X x)(hm:X.mg x=Fa)(hv:Tl x=ga u)(r:qy v u)(hn:x≠"__name__":=by decide)(hd:zb x:=by decide):PE X (.Name x pos) (tC v):=
 λ_ _ _ H _ I h=>vW I hg hm hv ⟨v,H,I,r,h⟩ hn hd
variable {a b:zn}
def tB(t:TE):TT:=λY H Q=>t Y H λx H1=>∃c,x=.bl c/\Q c H1
def R5(h:PE X e t)(he:∀XX,isTrue e X.env XX=(do let v<-XX;X' e.pos;At [v] (truthy v)):=by intro _;rfl):PT X e (tB t):=by intro Xn s Y H Q I hw;refine isTrue_plain (rR (h Xn s Y H _ I hw) λv s1 zz=>x5 zz λx H1 I1 r1 q1=>?_) (he _);obtain⟨d,rfl,q⟩:=q1;cases r1;exact fh ⟨H1,I1,q⟩
variable {rest:T0 zn}
def WK(t u:TT):TT:=λY H Q=>t Y H λc H1=>if c=Db then u Y H1 Q else Q pc H1
def Xm(t u:TT):TT:=λY H Q=>t Y H λc H1=>if c=Db then Q Db H1 else u Y H1 Q
def Wy(t:TT):TT:=λY H Q=>t Y H λc H1=>Q (!c) H1
def QB(ha:PT X a tA):PW X (.BoolOp .And [a] pos) tA:=by
 intro wh Xn s Y H Q I h;refine isTrue_and (rR (ha Xn s Y H Q I h) λc s1 e=>?_);cases c with
 | true=>exact isTrue_and_nil e
 | false=>exact e
def Sr(ha:PT X a tA):PW X (.BoolOp .Or [a] pos) tA:=by
 intro wh Xn s Y H Q I h;refine isTrue_or (rR (ha Xn s Y H Q I h) λc s1 e=>?_);cases c with
 | false=>exact isTrue_or_nil e
 | true=>exact e
def Sl(ha:PT X a tA)(hb:PW X (.BoolOp .And (b::rest) pos) tB'):PW X (.BoolOp .And (a::b::rest) pos) (WK tA tB'):=by
 intro wh Xn s Y H Q I h;refine isTrue_and (rR (ha Xn s Y H _ I h) λc s1 ⟨H1,I1,q1⟩=>?_);cases c with
 | true=>exact hb wh Xn s1 Y H1 Q I1 q1
 | false=>exact⟨H1,I1,q1⟩
def UX(ha:PT X a tA)(hb:PW X (.BoolOp .Or (b::rest) pos) tB'):PW X (.BoolOp .Or (a::b::rest) pos) (Xm tA tB'):=by
 intro wh Xn s Y H Q I h;refine isTrue_or (rR (ha Xn s Y H _ I h) λc s1 ⟨H1,I1,q1⟩=>?_);cases c with
 | true=>exact⟨H1,I1,q1⟩
 | false=>exact hb wh Xn s1 Y H1 Q I1 q1
def SB(ha:PT X a tA):PT X (.UnaryOp .Not a pos) (Wy tA):=by intro Xn s Y H Q I h;exact isTrue_not (ha Xn s Y H (λc H1=>Q (!c) H1) I h)
def UN(ta tb:TE):TE:=λY H Q=>ta Y H λx H1=>∃c,x=.bl c/\if c=Db then tb Y H1 Q else Q (.bl pc) H1
def Wf(ta tb:TE):TE:=λY H Q=>ta Y H λx H1=>∃c,x=.bl c/\if c=Db then Q (.bl Db) H1 else tb Y H1 Q
def TK(ta:TE):TE:=λY H Q=>ta Y H λx H1=>∃c,x=.bl c/\Q (.bl (!c)) H1
def Tg{op}(h:PE X a t):PE X (.BoolOp op [a] pos) t:=λXn s Y H Q I hw=>BoolOp_one (h Xn s Y H Q I hw)
def SQ(ha:PE X a ta)(hb:PE X (.BoolOp .And (b::rest) pos) tb):PE X (.BoolOp .And (a::b::rest) pos) (UN ta tb):=by
 intro Xn s Y H Q I h;refine BoolOp_and (rR (ha Xn s Y H _ I h) λv s1 zz=>x5 zz λx H1 I1 r1 q1=>?_);obtain⟨c,rfl,q1⟩:=q1;cases r1;refine fh ?_;cases c with
 | true=>exact hb Xn s1 Y H1 Q I1 q1
 | false=>exact⟨.bl pc,H1,I1,Z',q1⟩
def Vo(ha:PE X a ta)(hb:PE X (.BoolOp .Or (b::rest) pos) tb):PE X (.BoolOp .Or (a::b::rest) pos) (Wf ta tb):=by
 intro Xn s Y H Q I h;refine BoolOp_or (rR (ha Xn s Y H _ I h) λv s1 zz=>x5 zz λx H1 I1 r1 q1=>?_);obtain⟨c,rfl,q1⟩:=q1;cases r1;refine fh ?_;cases c with
 | false=>exact hb Xn s1 Y H1 Q I1 q1
 | true=>exact⟨.bl Db,H1,I1,Z',q1⟩
def Rf(ha:PE X a ta):PE X (.UnaryOp .Not a pos) (TK ta):=by intro Xn s Y H Q I h;refine UnaryOp_ (rR (ha Xn s Y H _ I h) λv s1 zz=>x5 zz λx H1 I1 r1 q1=>?_);obtain⟨c,rfl,q1⟩:=q1;cases r1;exact not_of (fh ⟨.bl (!c),H1,I1,Z',q1⟩)
def Xg(t:TT)(ta tb:TE):TE:=λY H Q=>t Y H λc H1=>if c=Db then ta Y H1 Q else tb Y H1 Q
def MN(hc:PT X c tA)(ha:PE X a ta)(hb:PE X b tb):PE X (.IfExp c a b pos) (Xg tA ta tb):=by
 intro Xn s Y H Q I h;refine wpAny_IfExp (rR (hc Xn s Y H _ I h) λd s1 ⟨H1,I1,q1⟩=>?_);cases d with
 | true=>exact ha Xn s1 Y H1 Q I1 q1
 | false=>exact hb Xn s1 Y H1 Q I1 q1
end
def xq(K:qk)(H:Hp)(a:lf)(xs:T0 V):Prop:=
 Rd H a (.lst xs)\/
  ∃(o:Obj) (its:Array Vl) (n:Nat),K.lookup a=ga o/\o.cls=.type "list"/\o.dict=Fa/\o.data=.seq its n/\its.size<=Uf/\qw xs its.toList
def vo(K:qk)(H:Hp)(a:lf)(xs:T0 V):Prop:=
 Rd H a (.tup xs)\/
  ∃(o:Obj) (its:Array Vl) (n:Nat),K.lookup a=ga o/\o.cls=.type "tuple"/\o.dict=Fa/\o.data=.seq its n/\its.size<=Uf/\qw xs its.toList
noncomputable def Wg:Vl->Option V
 | .none=>ga .mC
 | .bool b=>ga (.bl b)
 | .int i _=>ga (.int i)
 | .str x _=>ga (.str x)
 | .bytes b _=>ga (.byt b)
 | .float b _=>ga (.flt b)
 | .ref a=>ga (.ref a)
 | .type n=>ga (.ty n)
 | _=>Fa
def qy.abs(r:qy x u):Wg u=ga x:=by
 cases x with
 | mC=>cases r;rfl
 | bl _=>cases r;rfl
 | int _=>obtain⟨t,rfl⟩:=r;rfl
 | str _=>obtain⟨t,rfl⟩:=r;rfl
 | byt _=>obtain⟨t,rfl⟩:=r;rfl
 | flt _=>obtain⟨t,rfl⟩:=r;rfl
 | ref _=>cases r;rfl
 | ty _=>cases r;rfl
def qy.inj(r:qy x u)(q:qy y u):x=y:=dv (r.abs.symm.trans q.abs)
theorem qw.inj:∀{xs ys:T0 V} {us:T0 Vl},qw xs us->qw ys us->xs=ys
 | _,_,_,.nil,.nil=>rfl
 | _,_,_,.cons r t,.cons r' t'=>by rw[r.inj r',qw.inj t t']
variable {xs ys:T0 V}
section
variable {Y:St}{a:lf}
def vo.of{K:qk}(h:H a=ga (.tup xs)):vo K H a xs:=.inl (.inl h)
def Inv.list(I:Inv X Xn Y H s)(h:xq X.K H a xs):∃its:T0 Vl,qw xs its/\PlainL s.heap a its.toArray/\xs.length<=Uf:=by
 rcases h with h|⟨o,its,n,hk,hc,hd,hs,hz,r⟩
 .obtain⟨z,its,n,r,e⟩:=h.ok I.mH;exact⟨its,r,⟨_,n,e,Z',Z',Z'⟩,z⟩
 .refine⟨its.toList,r,⟨o,n,I.mR a o hk,hc,hd,by simpa using hs⟩,?_⟩;have e:=r.length;simp only[iV]at e;lia
def Inv.tuple(I:Inv X Xn Y H s)(h:vo X.K H a xs):∃its:T0 Vl,qw xs its/\IsTup s.heap a its.toArray/\xs.length<=Uf:=by
 rcases h with h|⟨o,its,n,hk,hc,hd,hs,hz,r⟩
 .obtain⟨z,its,r,p⟩:=h.ok I.mH;exact⟨its,r,p.is,z⟩
 .refine⟨its.toList,r,⟨o,I.mR a o hk,hc,n,by simpa using hs⟩,?_⟩;have e:=r.length;simp only[iV]at e;lia
def Inv.nA(I:Inv X Xn Y H s)(h:xq X.K H a xs)(h':xq X.K H a ys):xs=ys:=by
 obtain⟨its,r,⟨o,n,e,_,_,d⟩,_⟩:=I.list h;obtain⟨its',r',⟨o',n',e',_,_,d'⟩,_⟩:=I.list h';rw[e]at e';cases e';rw[d]at d';injection d' with d1 _
 have:its=its':=by simpa using eI Array.toList d1
 subst this;exact r.inj r'
def Inv.ni(I:Inv X Xn Y H s)(h:vo X.K H a xs)(h':vo X.K H a ys):xs=ys:=by
 obtain⟨its,r,⟨o,e,_,n,d⟩,_⟩:=I.tuple h;obtain⟨its',r',⟨o',e',_,n',d'⟩,_⟩:=I.tuple h';rw[e]at e';cases e';rw[d]at d';injection d' with d1 _
 have:its=its':=by simpa using eI Array.toList d1
 subst this;exact r.inj r'
end
abbrev Cx.nC(X:Cx)(E:QQX):Cx:={X with xe:=E}
abbrev Cx.oq(X:Cx):Cx:=X.nC λ_ _=>False
def Cx.Ok.nC{X:Cx}(ok:X.Ok)(E:QQX):(X.nC E).Ok:=
 ⟨ok.mod,ok.kind,ok.glob,ok.blt,ok.above,ok.inj,ok.has,ok.og,ok.hd,ok.frames,ok.oA,ok.oR,ok.bs,ok.nO,ok.nF,ok.nM,ok.nj,ok.nX⟩
def Cx.Ok.mU{X:Cx}{E:QQX}(ok:(X.nC E).Ok):X.Ok:=
 ⟨ok.mod,ok.kind,ok.glob,ok.blt,ok.above,ok.inj,ok.has,ok.og,ok.hd,ok.frames,ok.oA,ok.oR,ok.bs,ok.nO,ok.nF,ok.nM,ok.nj,ok.nX⟩
section
variable {Y:St}{E:QQX}
def Inv.nC(I:Inv X Xn Y H s)(E:QQX):Inv (X.nC E) Xn Y H s:=⟨I.ok.nC E,I.os,I.bare,I.base,I.loc,I.cell,I.free,I.mM,I.pin,I.mH,I.len⟩
def Inv.mU(I:Inv (X.nC E) Xn Y H s):Inv X Xn Y H s:=⟨I.ok.mU,I.os,I.bare,I.base,I.loc,I.cell,I.free,I.mM,I.pin,I.mH,I.len⟩
def SP.mU{D:EC}(h:SP (X.nC E) Xn D f s'):SP X Xn D f s':=by
 cases f with
 | next=>obtain⟨σ',H',I,q⟩:=h;exact⟨σ',H',I.mU,q⟩
 | brk=>obtain⟨σ',H',I,q⟩:=h;exact⟨σ',H',I.mU,q⟩
 | cont=>obtain⟨σ',H',I,q⟩:=h;exact⟨σ',H',I.mU,q⟩
 | ret u=>obtain⟨v,σ',H',I,r,q⟩:=h;exact⟨v,σ',H',I.mU,r,q⟩
def B7.oq{st:T0 xz}(h:B7 X.oq st t):B7 X st t:=λXn s Y H D I hw=>eC (h Xn s Y H D (I.nC _) hw) (λ_ _ q=>q.mU) λ_ _ z=>False.elim z
end
variable {st:xz}{u:TS}{te:TE}
section
variable {rest:T0 xz}{t:TS}{e:zn}
def TZ:TS:=λD Y H=>D.nx Y H
def V5(t u:TS):TS:=λD Y H=>t {D with nx:=u D} Y H
def Qc:B7 X [] TZ:=λ_ _ Y H _ I h=>gZ ⟨Y,H,I,h⟩
def Nz(h1:PS X st t)(h2:B7 X rest u):B7 X (st::rest) (V5 t u):=by
 intro Xn s Y H D I h;refine jv (rR (h1 Xn s Y H {D with nx:=u D} I h) λf s1 q=>?_);cases f with
 | next=>obtain⟨σ',H',I',q⟩:=q;exact h2 Xn s1 σ' H' D I' q
 | ret v=>exact q
 | brk=>exact q
 | cont=>exact q
def IL(h1:PS X st t):B7 X [st] t:=by
 intro Xn s Y H D I h;refine jv (rR (h1 Xn s Y H D I h) λf s1 q=>?_);cases f with
 | next=>exact gZ q
 | ret v=>exact q
 | brk=>exact q
 | cont=>exact q
def Inv.quiet{Xn:QQY}(I:Inv X Xn Y H s):interactive X.env=pc:=by simp[interactive,I.ok.kind]
def Ve(te:TE):TS:=λD Y H=>te Y H λ_ H1=>D.nx Y H1
def OR(he:PE X e te)(hs:Ix e Fa pos.line X.env=pure pc:=by rfl):PS X (.Expr e pos) (Ve te):=by intro Xn s Y H D I h;exact wpAny_Expr_any (rR (he Xn s Y H _ I h) λv s1 zz=>x5 zz λx H1 I1 r1 q1=>⟨Y,H1,I1,q1⟩) I.quiet hs
def VP(te:TE):TS:=λD Y H=>te Y H D.rt
def SK(he:PE X e te):PS X (.Return (ga e) pos) (VP te):=by intro Xn s Y H D I h;exact wpAny_Return_some (rR (he Xn s Y H _ I h) λv s1 zz=>x5 zz λx H1 I1 r1 q1=>⟨x,Y,H1,I1,r1,q1⟩)
def WD(c:TT)(t u:TS):TS:=λD Y H=>c Y H λb H1=>if b=Db then t D Y H1 else u D Y H1
def UB(hc:PT X c tc)(ha:B7 X a t)(hb:B7 X b u):PS X (.If c a b pos) (WD tc t u):=by
 intro Xn s Y H D I h;refine wpAny_If (rR (hc Xn s Y H _ I h) λd s1 ⟨H1,I1,q1⟩=>?_);cases d with
 | true=>exact ha Xn s1 Y H1 D I1 q1
 | false=>exact hb Xn s1 Y H1 D I1 q1
def Ro:TS:=λ_ _ _=>False
def MB:PS X st Ro:=λ_ _ _ _ _ _ h=>h.elim
end
abbrev TG:=V->St->Hp->(St->Hp->Prop)->Prop
abbrev OC:=T0 V->St->Hp->(St->Hp->Prop)->Prop
def PG(X:Cx)(XS:zn)(t:TG):Prop:=
 ∀(Xn:QQY) (s:Sd) (Y:St) (H:Hp) (v:V) (u:Vl) (Q:St->Hp->Prop),Inv X Xn Y H s->qy v u->t v Y H Q->
  Ch (pi X.prog X.w) X.A (assign XS X.env u) (λ_ s'=>∃σ' H',Inv X Xn σ' H' s'/\Q σ' H') X.xe s
def NX(X:Cx)(ts:T0 zn)(t:OC):Prop:=
 ∀(Xn:QQY) (s:Sd) (Y:St) (H:Hp) (vs:T0 V) (us:T0 Vl) (Q:St->Hp->Prop),Inv X Xn Y H s->qw vs us->t vs Y H Q->
  Ch (pi X.prog X.w) X.A (assignInOrder ((IN ts X.env).map (·.2)) us) (λ_ s'=>∃σ' H',Inv X Xn σ' H' s'/\Q σ' H') X.xe s
abbrev Nf:=V->V->V->Hp->(Hp->Prop)->Prop
def RB(X:Cx)(t:Nf):Prop:=
 ∀(Xn:QQY) (s:Sd) (Y:St) (H:Hp) (o i v:V) (ov iv u:Vl) (Q:Hp->Prop),Inv X Xn Y H s->qy o ov->qy i iv->qy v u->t o i v H Q->
  Ch (pi X.prog X.w) X.A (setItem ov iv u) (λ_ s'=>∃H',Inv X Xn Y H' s'/\Q H') X.xe s
abbrev WH:=V->V->Hp->VK->Prop
def Xd(X:Cx)(op:XXe)(t:WH):Prop:=
 ∀(Xn:QQY) (s:Sd) (Y:St) (H:Hp) (x y:V) (v u:Vl) (Q:VK),Inv X Xn Y H s->qy x v->qy y u->t x y H Q->
  Ch (pi X.prog X.w) X.A (inplaceOp op v u) (EP X Xn Y Q) X.xe s
def Mq(i:Nat):TG:=λv Y H Q=>Q (Y.set i (ga v)) H
def QA{i:Nat}{x:Str}(hN:X.N.Nodup)(hi:X.N[i]?=ga x)(hx:KM X.env.scope x)(hf:KL X x:=by first|exact .inl Z'|exact .inr Z'|assumption):PG X (.Name x pos) (Mq i):=by intro Xn s Y H v u Q I r h;exact kU (Cw I hN hi hx r (λs' I'=>⟨_,H,I',h⟩) hf)
def VZ:OC:=λvs Y H Q=>vs=[]/\Q Y H
def Vq(t:TG)(u:OC):OC:=λvs Y H Q=>∃v r,vs=v::r/\t v Y H λσ' H'=>u r σ' H' Q
def Qp:NX X [] VZ:=by intro Xn s Y H vs us Q I r h;obtain⟨e,h⟩:=h;subst e;cases r;exact assignInOrder_nil ⟨Y,H,I,h⟩
def Nq{u:OC}(h1:PG X e t)(h2:NX X es u) (hs:(IN (e::es) X.env).map (·.2)=assign e X.env::(IN es X.env).map (·.2):=by rfl):NX X (e::es) (Vq t u):=by
 intro Xn s Y H vs us Q I r h;obtain⟨v,vr,e1,h⟩:=h;subst e1;cases r with
 | cons r rr=>rw[hs];refine assignInOrder_cons (rR (h1 Xn s Y H _ _ _ I r h) λ_ s1 ⟨σ1,H1,I1,q1⟩=>?_);exact h2 Xn s1 σ1 H1 _ _ Q I1 rr q1
def VM(K:qk)(n:Nat)(t:OC):TG:=λv Y H Q=>∃a xs,v=.ref a/\vo K H a xs/\xs.length=n/\t xs Y H Q
def Rp{n:Nat}(hc:X.calm=Db)(h:NX X es t) (hn:(IN es X.env).length=n:=by rfl) (XJ:(IN es X.env).findIdx? (·.1)=Fa:=by rfl):PG X (.Tuple es k pos) (VM X.K n t):=by
 intro Xn s Y H v u Q I r hw;obtain⟨a,xs,e1,hq,hl,hw⟩:=hw;subst e1;cases r;obtain⟨its,rv,ht,hz⟩:=I.tuple hq;refine assign_Tuple_tuple (I.ok.hd hc) ht (by simp[hn,<-hl,rv.length]) XJ λh' hx=>?_;have I1:Inv X Xn Y H {s with heap:=h'}:=I.kept (t':=s.toks) λb o e=>hx b o (dU (dE e)) e;exact h Xn _ Y H xs _ Q I1 (by simpa using rv) hw
def WL(to ti:TE)(t:Nf):TG:=λv Y H Q=>to Y H λo H1=>ti Y H1 λi H2=>t o i v H2 λH3=>Q Y H3
def SZ(ho:PE X o to)(hi:PE X i ti)(hs:RB X t) (ha:∀v,assign (.Subscript o i pos) X.env v=(do
   let ov<-At [v] (No o X.env);let iv<-At [v,ov] (No i X.env)
   X' pos
   At [v,ov,iv] (setItem ov iv v)
   release [v,ov,iv] []):=by intro _;rfl):PG X (.Subscript o i pos) (WL to ti t):=by
 intro Xn s Y H v u Q I r h;rw[ha];refine cX (e9 (rR (ho Xn s Y H _ I h) λov s1 zz=>x5 zz λx H1 I1 r1 q1=>?_));refine cX (e9 (rR (hi Xn s1 Y H1 _ I1 q1) λiv s2 zz=>x5 zz λy H2 I2 r2 q2=>?_));refine cX (im (cX (e9 (rR (hs Xn s2 Y H2 x y v ov iv u _ I2 r1 r2 r q2) λ_ s3 ⟨H3,I3,q3⟩=>?_))));exact wpAny_release ⟨Y,H3,I3,q3⟩
def Ri(te:TE)(g:TG):TS:=λD Y H=>te Y H λx H1=>g x Y H1 D.nx
def RG(he:PE X e te)(hg:PG X tg g)(hs:swapsWithSole [tg] e pos.line X.env=pure pc:=by rfl)(hw:swappedStores [tg] e X.env=pure Fa:=by rfl)
  (h1:(IN [tg] X.env).map (·.2)=[assign tg X.env]:=by rfl):PS X (.Assign [tg] e pos) (Ri te g):=by
 intro Xn s Y H D I h;refine wpAny_Assign_stores (rR (he Xn s Y H _ I h) λv s1 zz=>x5 zz λx H1 I1 r1 q1=>?_) hs hw;rw[h1];exact rR (hg Xn s1 Y H1 x v _ I1 r1 q1) λ_ s2 q=>q
def SA{i:Nat}{x:Str}(hN:X.N.Nodup)(hi:X.N[i]?=ga x)(hx:KM X.env.scope x)(he:PE X e te)(hs:Ix e (ga (.Name x Xw)) pos.line X.env=pure pc:=by rfl)(hf:KL X x:=by first|exact .inl Z'|exact .inr Z'|assumption):
  PS X (.Assign [.Name x Xw] e pos) (Ri te (Mq i)):=by
 intro Xn s Y H D I h;refine kW (rR (he Xn s Y H _ I h) λv s1 zz=>x5 zz λy H1 I1 r1 q1=>?_) hs;exact Cw I1 hN hi hx r1 (λs2 I2=>⟨_,H1,I2,q1⟩) hf
def Uk(to ti te:TE)(Zw:V->V->Hp->VK->Prop)(tip:WH)(Zx:Nf):TS:=λD Y H=>to Y H λo H1=>ti Y H1 λi H2=>Zw o i H2 λx H3=>te Y H3 λy H4=>tip x y H4 λz H5=>Zx o i z H5 λH6=>D.nx Y H6
def T9(X:Cx)(t:V->V->Hp->VK->Prop):Prop:=
 ∀(Xn:QQY) (s:Sd) (Y:St) (H:Hp) (o i:V) (ov iv:Vl) (Q:VK),Inv X Xn Y H s->qy o ov->qy i iv->t o i H Q->
  Ch (pi X.prog X.w) X.A (Y' ov iv) (EP X Xn Y Q) X.xe s
def PD(ho:PE X o to)(hi:PE X i ti)(hg:T9 X Zw)(he:PE X e te)(hp:Xd X op tip)(hs:RB X Zx) (ha:∀ov iv new,augStore i ov iv new=(do At [new,ov,iv] (setItem ov iv new);release [new,ov,iv] [];pure .next):=by intros;rfl):PS X (.AugAssign (.Subscript o i Yq) op e pos) (Uk to ti te Zw tip Zx):=by
 intro Xn s Y H D I h;refine wpAny_AugAssign_SubscriptAny (rR (ho Xn s Y H _ I h) λov s1 zz=>x5 zz λx1 H1 I1 r1 q1=>?_) ha;refine rR (hi Xn s1 Y H1 _ I1 q1) λiv s2 zz=>x5 zz λx2 H2 I2 r2 q2=>?_;refine rR (hg Xn s2 Y H2 x1 x2 ov iv _ I2 r1 r2 q2) λXY s3 zz=>x5 zz λx3 H3 I3 r3 q3=>?_;refine rR (he Xn s3 Y H3 _ I3 q3) λv s4 zz=>x5 zz λx4 H4 I4 r4 q4=>?_;refine rR (hp Xn s4 Y H4 x3 x4 XY v _ I4 r3 r4 q4) λnew s5 zz=>x5 zz λx5 H5 I5 r5 q5=>?_;exact rR (hs Xn s5 Y H5 x1 x2 x5 ov iv new _ I5 r1 r2 r5 q5) λ_ s6 ⟨H6,I6,q6⟩=>⟨Y,H6,I6,q6⟩
def Rk(c:TT)(tb:TS):TS:=λD Y H=>∃W:Nat->St->Hp->Prop,(∃m,W m Y H)/\∀m Y H,W m Y H->
 c Y H λb H1=>if b=Db then ∃N:St->Hp->Prop,(∀σ' H',N σ' H'->∃m',m'<m/\W m' σ' H')/\tb {D with nx:=N,ct:=N,bk:=D.nx} Y H1 else D.nx Y H1
def Np{tb:TS}(hp:PassesOwn (pi X.prog X.w) X.A X.env X.xe)(hc:PT X c tc)(hb:B7 X body tb):PS X (.While c body [] pos) (Rk tc tb):=by
 intro Xn s Y H D I h;obtain⟨W,⟨m0,w0⟩,turn⟩:=h;refine wpAny_While (codeAny_whileLoop (λn s'=>∃σ' H',Inv X Xn σ' H' s'/\W n σ' H') ?_ m0 ⟨Y,H,I,w0⟩)
 rintro n s1 ⟨σ1,H1,I1,w1⟩
 refine gF hp (rR (hc Xn s1 σ1 H1 _ I1 (turn n σ1 H1 w1)) λb s2 ⟨H2,I2,q2⟩=>?_);cases b with
 | true=>
  obtain⟨N,hN,q2⟩:=q2;rw[df Z'];refine gF hp (rR (hb Xn s2 σ1 H2 _ I2 q2) λf s3 q3=>?_);cases f with
  | next=>obtain⟨σ3,H3,I3,n3⟩:=q3;obtain⟨m',hm,w3⟩:=hN σ3 H3 n3;exact⟨m',hm,σ3,H3,I3,w3⟩
  | cont=>obtain⟨σ3,H3,I3,n3⟩:=q3;obtain⟨m',hm,w3⟩:=hN σ3 H3 n3;exact⟨m',hm,σ3,H3,I3,w3⟩
  | brk=>exact q3
  | ret v=>exact q3
 | false=>rw[de dC];exact gZ ⟨σ1,H2,I2,q2⟩
structure It where
 go:Nat->Hp->Prop
 oN:Nat->Hp->V->Hp->Prop
 stop:Nat->Hp->Prop
def zE(X:Cx)(Xn:QQY)(H:Hp)(b:lf):Prop:=
 H b=Fa/\b≠X.env.locals/\b∉X.fs/\(b∈X.ex\/X.s₀.heap.objs.size<=b)/\(∀x c,X.env.cells.lookup x=ga c->c≠b)/\∀p∈X.pn++Xn,p.1≠b
def Inv.nL{Xn:QQY}{H H':Hp}{b:lf}(I:Inv X Xn Y H s)(hb:s.heap.objs.size<=b)(hn:H' b=Fa):zE X Xn H' b:=by
 refine⟨hn,ia (dQ I.lt hb),I.oO hb,.inr (dZ I.sz hb),λx c e z=>?_,λp hp z=>?_⟩
 .obtain⟨v,q⟩:=I.cell x c e;exact absurd (dQ q.lt (by rw[z];exact hb)) (eS _)
 .exact absurd (dQ (dE (I.pin p hp).1) (by rw[z];exact hb)) (eS _)
structure Gv(P:Pg)(w:Wo)(K:qk)(tg:zn)(J:It)(fp:QXQ)(it:lf)(tn:Nat->Go->Prop):Prop where
 mem:it∈fp
 obj:∀i h,tn i h->∀b∈fp,∃o,h.get? b=ga o/\∀v,o.data≠.cell v
 keep:∀i h h',tn i h->(∀b∈fp,∀o,h.get? b=ga o->h'.get? b=ga o)->tn i h'
 item:∀(X:Cx),X.prog=P->X.w=w->X.K=K->X.calm=Db->∀(i:Nat) (Xn:QQY) (s:Sd) (Y:St) (H:Hp) (E:QQX),Inv X Xn Y H s->(∀b∈fp,zE X Xn H b)->tn i s.heap->J.go i H->
  Ch (pi P w) X.A (pyNext (.ref it)) (λr s1=>∃u,r=ga u/\
   Ch (pi P w) X.A (XXf tg (.ref it) u) (λ_ s2=>∃x H',Inv X Xn Y H' s2/\qy x u/\J.oN i H x H'/\tn (i+1) s2.heap/\∀b∈fp,H' b=Fa) E s1) E s
 done:∀(X:Cx),X.prog=P->X.w=w->X.K=K->X.calm=Db->∀(i:Nat) (Xn:QQY) (s:Sd) (Y:St) (H:Hp) (E:QQX),Inv X Xn Y H s->(∀b∈fp,zE X Xn H b)->tn i s.heap->J.stop i H->
  Ch (pi P w) X.A (pyNext (.ref it)) (λr s1=>r=Fa/\Inv X Xn Y H s1) E s
 self:∀(A:Ar) (i:Nat) (s:Sd) (Q:QQX) (E:QQX),tn i s.heap->Q (.ref it) s->Ch (pi P w) A (pyIter (.ref it)) Q E s
abbrev TI:=St->Hp->(It->Hp->Prop)->Prop
def V4(X:Cx)(Xn:QQY)(Y:St)(tg:zn)(R:It->Hp->Prop)(itv:Vl)(s2:Sd):Prop:=
 ∃(it:lf) (fp:QXQ) (tn:Nat->Go->Prop) (J:It) (H':Hp),itv=.ref it/\Inv X Xn Y H' s2/\Gv X.prog X.w X.K tg J fp it tn/\tn 0 s2.heap/\(∀b∈fp,zE X Xn H' b)/\R J H'
def PI(X:Cx)(tg iter:zn)(wi:TI):Prop:=
 ∀(Xn:QQY) (s:Sd) (Y:St) (H:Hp) (R:It->Hp->Prop),Inv X Xn Y H s->wi Y H R->
  Ch (pi X.prog X.w) X.A (No iter X.env) (λv s1=>Ch (pi X.prog X.w) X.A (pyIter v) (V4 X Xn Y tg R) X.xe s1) X.xe s
def Iz{M:Model}{A:Ar}{E:QQX}{s:Sd}{tg:zn}{it:lf}{u:Vl}{o:Obj}{n:String}{vs:Array Vl}{Q:Unit->Sd->Prop}(ho:s.heap.get? it=ga o)(hc:o.cls=.type n)(hd:o.data=.fields vs) (hn:["enumerate","zip","dict_itemiterator","dict_reverseitemiterator","odict_iterator","itertools.zip_longest","itertools.pairwise"].contains n=pc) (hQ:Q () s):Ch M A (XXf tg (.ref it) u) Q E s:=by
  unfold XXf;cases tg<;>first
    | exact dw hQ
    | (cases u<;>first
        | exact dw hQ
        | (refine cX (wpAny_load ho ?_)
           rw[hc,hd];show Ch M A (if (["enumerate","zip","dict_itemiterator","dict_reverseitemiterator","odict_iterator","itertools.zip_longest","itertools.pairwise"].contains n&&vs[0]?==ga (o0 _))=Db then _ else _) Q E s;rw[de (by intro h;rw[hn,eR]at h;cases h)];exact dw hQ))
noncomputable def VD(K:qk)(a:lf):It:=
 ⟨λi H=>∃xs x,xq K H a xs/\xs[i]?=ga x,λi H x H'=>H'=H/\∀xs,xq K H a xs->xs[i]?=ga x,λi H=>∃xs,xq K H a xs/\xs.length<=i⟩
noncomputable def Wp(K:qk)(a:lf):It:=
 ⟨λi H=>∃xs x,vo K H a xs/\xs[i]?=ga x,λi H x H'=>H'=H/\∀xs,vo K H a xs->xs[i]?=ga x,λi H=>∃xs,vo K H a xs/\xs.length<=i⟩
noncomputable def UC(lo:Int)(n:Nat):It:=⟨λi _=>i<n,λi H x H'=>H'=H/\x=.int (lo+i),λi _=>n<=i⟩
def J5{K:qk}(a it:lf):Gv P w K tg (VD K a) [it] it (λi h=>h.IsListIter it a i) where
 mem:=by simp
 obj:=λi h st b hb=>by
  have e:b=it:=by simpa using hb
  subst e;obtain⟨o,e,c,d⟩:=st;exact⟨o,e,λv z=>by rw[d]at z;cases z⟩
 keep:=λi h h' st k=>st.at λo e=>k it (by simp) o e
 item:=by intro X hP hw hK hc i Xn s Y H E I hf st hg;subst hP hw hK;obtain⟨xs,x,hq,hx⟩:=hg;obtain⟨its,rv,p,hz⟩:=I.list hq;obtain⟨u,hu,ru⟩:=rv.get hx;obtain⟨f0,f1,f2,f3,f4,f5⟩:=hf it (by simp);refine wpAny_pyNext_list_item st p.isList (x:=u) (by simpa using hu) λh' YM sb=>?_;have I1:Inv X Xn Y H {s with heap:=h'}:=I.turned (t':=s.toks) (λb o hb e=>(sb.2 b hb).trans e) f0 f1 f3 f4 f5;obtain⟨o,e,c,d⟩:=id YM;exact⟨u,Z',Iz (s:={s with heap:=h'}) e c d (by decide) ⟨x,H,I1,ru,⟨Z',λys hy=>by rw[I.nA hy hq];exact hx⟩,YM,λb hb=>(hf b hb).1⟩⟩
 done:=by intro X hP hw hK hc i Xn s Y H E I hf st hg;subst hP hw hK;obtain⟨xs,hq,hx⟩:=hg;obtain⟨its,rv,p,hz⟩:=I.list hq;obtain⟨f0,f1,f2,f3,f4,f5⟩:=hf it (by simp);have hl:=rv.length;exact wpAny_pyNext_list_end (I.ok.hd hc) st p.isList (by simp;lia) λh' eb=>⟨Z',I.turned (t':=s.toks) (λb o hb e=>eb b o hb e) f0 f1 f3 f4 f5⟩
 self:=λ_ _ _ _ _ st h=>wpAny_pyIter_listiter st h
def G9{K:qk}(a it:lf):Gv P w K tg (Wp K a) [it] it (λi h=>h.IsTupleIter it a i) where
 mem:=by simp
 obj:=λi h st b hb=>by
  have e:b=it:=by simpa using hb
  subst e;obtain⟨o,e,c,d⟩:=st;exact⟨o,e,λv z=>by rw[d]at z;cases z⟩
 keep:=λi h h' st k=>st.at λo e=>k it (by simp) o e
 item:=by intro X hP hw hK hc i Xn s Y H E I hf st hg;subst hP hw hK;obtain⟨xs,x,hq,hx⟩:=hg;obtain⟨its,rv,p,hz⟩:=I.tuple hq;obtain⟨u,hu,ru⟩:=rv.get hx;obtain⟨f0,f1,f2,f3,f4,f5⟩:=hf it (by simp);refine wpAny_pyNext_tuple_item st (show s.heap.IsTuple a its.toArray from p) (x:=u) (by simpa using hu) λh' YM sb=>?_;have I1:Inv X Xn Y H {s with heap:=h'}:=I.turned (t':=s.toks) (λb o hb e=>(sb.2 b hb).trans e) f0 f1 f3 f4 f5;obtain⟨o,e,c,d⟩:=id YM;exact⟨u,Z',Iz (s:={s with heap:=h'}) e c d (by decide) ⟨x,H,I1,ru,⟨Z',λys hy=>by rw[I.ni hy hq];exact hx⟩,YM,λb hb=>(hf b hb).1⟩⟩
 done:=by intro X hP hw hK hc i Xn s Y H E I hf st hg;subst hP hw hK;obtain⟨xs,hq,hx⟩:=hg;obtain⟨its,rv,p,hz⟩:=I.tuple hq;obtain⟨f0,f1,f2,f3,f4,f5⟩:=hf it (by simp);have hl:=rv.length;exact wpAny_pyNext_tuple_end (I.ok.hd hc) st (show s.heap.IsTuple a its.toArray from p) (by simp;lia) λh' eb=>⟨Z',I.turned (t':=s.toks) (λb o hb e=>eb b o hb e) f0 f1 f3 f4 f5⟩
 self:=λ_ _ _ _ _ st h=>wpAny_pyIter_tupleiter st h
def Hu{K:qk}(it:lf)(lo:Int)(n:Nat):Gv P w K tg (UC lo n) [it] it (λi h=>IsRangeIter h it (lo+(i:Nat)*1) ((n:Int) - (i:Nat)) 1) where
 mem:=by simp
 obj:=λi h st b hb=>by
  have e:b=it:=by simpa using hb
  subst e;exact⟨_,st,λv z=>by
   have z':Data.fields _=Data.cell v:=z;cases z'⟩
 keep:=λi h h' st k=>k it (by simp) _ st
 item:=by intro X hP hw hK hc i Xn s Y H E I hf st hg;subst hP hw hK;obtain⟨f0,f1,f2,f3,f4,f5⟩:=hf it (by simp);have W:=Walks.range (prog:=X.prog) (w:=X.w) (I.ok.hd hc) it lo 1 n;refine W.item i s _ _ hg st λv h' tk hv YM kk=>?_;obtain⟨t,rfl⟩:=hv;have I1:Inv X Xn Y H {s with heap:=h',toks:=tk}:=I.turned (λb o hb e=>kk b o (by simpa using hb) e) f0 f1 f3 f4 f5;refine⟨_,Z',Iz (s:={s with heap:=h',toks:=tk}) (n:="range_iterator") YM Z' Z' (by decide) ⟨.int (lo+i),H,I1,⟨t,?_⟩,⟨Z',Z'⟩,YM,λb hb=>(hf b hb).1⟩⟩;rw[Int.mul_one]
 done:=by intro X hP hw hK hc i Xn s Y H E I hf st hg;subst hP hw hK;obtain⟨f0,f1,f2,f3,f4,f5⟩:=hf it (by simp);exact wpAny_pyNext_range_end (I.ok.hd hc) st (by have:n<=i:=hg;lia) λh' eb=>⟨Z',I.turned (t':=s.toks) (λb o hb e=>eb b o hb e) f0 f1 f3 f4 f5⟩
 self:=λ_ _ _ _ _ st h=>wpAny_pyIter_rangeiter st h
variable {tg:zn}
def FV{Xn:QQY}{R:It->Hp->Prop}{E:QQX}{lo hi:Int}{t u v:Tok}{tk:Nat}(I:Inv X Xn Y H s)(h1:-(2 ^ 62)<=lo)(h2:lo<2 ^ 62)(h3:-(2 ^ 62)<=hi)(h4:hi<2 ^ 62) (q:R (UC lo (hi - lo).toNat) H):Ch (pi X.prog X.w) X.A (pyIter (.ref s.heap.objs.size)) (V4 X Xn Y tg R) E {s with heap:=s.heap.push {cls:=.type "range",data:=.fields #[.int lo t,.int hi u,.int 1 v]},toks:=tk}:=by
 refine wpAny_pyIter_range (IsRange.new ..) (small_one h1 h2 h3 h4) ?_;have I1:Inv X Xn Y H {s with heap:=s.heap.push {cls:=.type "range",data:=.fields #[.int lo t,.int hi u,.int 1 v]},toks:=tk}:=I.kept λb o e=>dg _ e;refine⟨(s.heap.push {cls:=.type "range",data:=.fields #[.int lo t,.int hi u,.int 1 v]}).objs.size,[(s.heap.push {cls:=.type "range",data:=.fields #[.int lo t,.int hi u,.int 1 v]}).objs.size],_,_,H,Z',I1.kept (t':=tk) λb o e=>dg _ e,Hu _ lo (hi - lo).toNat,?_,λb hb=>?_,q⟩
 .have e1:lo+((0:Nat):Int)*1=lo:=by simp
  have e2:(((hi - lo).toNat:Nat):Int) - ((0:Nat):Int)=Builtin.Range.rangeSize lo hi 1:=by rw[rangeSize_one];split<;>lia
  show IsRangeIter _ _ (lo+((0:Nat):Int)*1) ((((hi - lo).toNat:Nat):Int) - ((0:Nat):Int)) 1;rw[e1,e2];exact dJ _ Z'
 .have e:b=(s.heap.push {cls:=.type "range",data:=.fields #[.int lo t,.int hi u,.int 1 v]}).objs.size:=by simpa using hb
  subst e;exact I1.nL (dq _) (I1.mH.fresh (dq _))
def Vm(ta:TA):TI:=λY H R=>ta Y H λvs H1=>∃j:Int,vs=[.int j]/\-(2 ^ 62)<=j/\j<2 ^ 62/\R (UC 0 j.toNat) H1
def U9(ta:TA):TI:=λY H R=>ta Y H λvs H1=>∃i j:Int,vs=[.int i,.int j]/\(-(2 ^ 62)<=i/\i<2 ^ 62/\-(2 ^ 62)<=j/\j<2 ^ 62)/\R (UC i (j - i).toNat) H1
def JP{a:zn}{ta:TA}(hg:Gl X "range")(hm:X.mg "range"=Fa)(ha:PA X [a] ta)(hs:Tk [a] X.env=[(pc,No a X.env)]:=by rfl):PI X tg (.Call (.Name "range" p) [a] [] pos) (Vm ta):=by
 intro Xn s Y H R I h;refine Call_ (vW I hg hm boot_range (fz (rR (ha pos Xn s Y H _ I h) λus s1 zz=>x5 zz λvs H1 I1 r1 q1=>?_) hs Z'));obtain⟨j,e,q1,q2,q⟩:=q1;subst e;cases r1 with
 | cons r rr=>cases rr;obtain⟨t,rfl⟩:=r;exact call_range_1 (FV I1 (by lia) (by lia) q1 q2 (by simpa using q))
def Kr{a b:zn}{ta:TA}{p pos:Pos}(hg:Gl X "range")(hm:X.mg "range"=Fa)(ha:PA X [a,b] ta)(hs:Tk [a,b] X.env=[(pc,No a X.env),(pc,No b X.env)]:=by rfl)(X7:Tk [b] X.env=[(pc,No b X.env)]:=by rfl):
  PI X tg (.Call (.Name "range" p) [a,b] [] pos) (U9 ta):=by
 intro Xn s Y H R I h;refine Call_ (vW I hg hm boot_range (fz (rR (ha pos Xn s Y H _ I h) λus s1 zz=>x5 zz λvs H1 I1 r1 q1=>?_) (by rw[hs,X7]) (by rw[X7];rfl)));obtain⟨i,j,e,⟨q1,q2,q3,q4⟩,q⟩:=q1;subst e;cases r1 with
 | cons r rr=>
  cases rr with
  | cons r' rr=>cases rr;obtain⟨t,rfl⟩:=r;obtain⟨t',rfl⟩:=r';exact call_range_2 (FV I1 q1 q2 q3 q4 q)
def We(wi:TI)(g:TG)(tb:TS):TS:=λD Y H=>wi Y H λJ H1=>∃W:Nat->Nat->St->Hp->Prop,(∃m,W 0 m Y H1)/\∀i m Y H,W i m Y H->
 (J.stop i H/\D.nx Y H)\/(J.go i H/\∃N:St->Hp->Prop,(∀σ' H',N σ' H'->∃m',m'<m/\W (i+1) m' σ' H')/\∀x H',J.oN i H x H'->g x Y H' λσ2 H2=>tb {D with nx:=N,ct:=N,bk:=D.nx} σ2 H2)
noncomputable def Bz(fp:QXQ)(h:Go):QQY:=fp.filterMap λb=>(h.get? b).map λo=>(b,o)
def vc{fp:QXQ}{h:Go}{b:lf}{o:Obj}(hb:b∈fp)(e:h.get? b=ga o):(b,o)∈Bz fp h:=kE.mpr ⟨b,hb,by rw[e];rfl⟩
def KG{p:lf×Obj}(hp:p∈Bz fp h):p.1∈fp/\h.get? p.1=ga p.2:=by
 obtain⟨b,hb,e⟩:=kE.mp hp;cases q:h.get? b with
 | none=>rw[q]at e;cases e
 | some o=>rw[q]at e;have e':(b,o)=p:=dv e;subst e';exact⟨hb,q⟩
def Inv.pinned{Xn:QQY}{fp:QXQ}(I:Inv X Xn Y H s)(hf:∀b∈fp,zE X Xn H b)(ho:∀b∈fp,∃o,s.heap.get? b=ga o/\∀v,o.data≠.cell v):Inv X (Xn++Bz fp s.heap) Y H s:=
 I.nG λp hp=>(dO.mp hp).elim (λz=>I.pin p (eh _ z)) λz=>by obtain⟨hb,e⟩:=KG z;obtain⟨f0,f1,f2,_⟩:=hf p.1 hb;obtain⟨o,e',d⟩:=ho p.1 hb;rw[e]at e';cases e';exact⟨e,f0,f1,f2,d⟩
def Inv.mO{Xn pl:QQY}(I:Inv X (Xn++pl) Y H s):Inv X Xn Y H s:=I.nG λp hp=>I.pin p (eh _ (fi _ hp))
def RI{tb:TS}(hp:PassesOwn (pi X.prog X.w) X.A X.env X.xe)(hc:X.calm=Db)(hi:PI X tg iter wi)(hg:PG X tg g)(hb:B7 X body tb) (hs:∀x,AT iter X.env x=pure x:=by intro _;rfl):PS X (.For tg iter body [] pos) (We wi g tb):=by
 intro Xn s Y H D I h;refine wpAny_For (rR (hi Xn s Y H _ I h) λv s1 h1=>rR h1 λitv s2 h2=>?_) hs;obtain⟨it,fp,tn,J,H2,e,I2,T,XM,f2,W,⟨m0,w0⟩,turn⟩:=h2;subst e;have YF:∀{H':Hp},(∀b∈fp,H' b=Fa)->∀b∈fp,zE X Xn H' b:=λhn b hb=>⟨hn b hb,(f2 b hb).2⟩;refine codeAny_forLoop_any (λn s'=>∃i σ' H',Inv X Xn σ' H' s'/\tn i s'.heap/\(∀b∈fp,H' b=Fa)/\W i n σ' H') ?_ m0 ⟨0,Y,H2,I2,XM,λb hb=>(f2 b hb).1,w0⟩
 rintro n s3 ⟨i,σ3,H3,I3,X8,fr3,w3⟩
 rcases turn i n σ3 H3 w3 with⟨stop,qn⟩|⟨go,N,hN,step⟩
 .refine gF hp (rR (T.done X Z' Z' Z' hc i Xn s3 σ3 H3 X.xe I3 (YF fr3) X8 stop) λr s4 ⟨hr,I4⟩=>?_);subst hr;exact gZ ⟨σ3,H3,I4,qn⟩
 .refine gF hp (rR (T.item X Z' Z' Z' hc i Xn s3 σ3 H3 X.xe I3 (YF fr3) X8 go) λr s4 ⟨u,hr,h4⟩=>?_);subst hr;refine gF hp (rR h4 λ_ s5 zz=>?_);obtain⟨x,H5,I5,r5,y5,ZR,fr5⟩:=zz;have I5':=I5.pinned (YF fr5) (T.obj _ _ ZR);refine gF hp (rR (hg _ s5 σ3 H5 x u _ I5' r5 (step x H5 y5)) λ_ s6 ⟨σ6,H6,I6,q6⟩=>?_);refine gF hp (rR (hb _ s6 σ6 H6 _ I6 q6) λf s7 q7=>?_);have again:∀{σ7:St} {H7:Hp},Inv X (Xn++Bz fp s5.heap) σ7 H7 s7->N σ7 H7->∃m,m<n/\∃i σ' H',Inv X Xn σ' H' s7/\tn i s7.heap/\(∀b∈fp,H' b=Fa)/\W i m σ' H':=λ{σ7 H7} I7 n7=>by obtain⟨m',hm,w7⟩:=hN σ7 H7 n7;refine⟨m',hm,i+1,σ7,H7,I7.mO,T.keep _ _ _ ZR λb hb o e=>(I7.pin (b,o) (eh _ (eh _ (vc hb e)))).1,λb hb=>?_,w7⟩;obtain⟨o,e,d⟩:=T.obj _ _ ZR b hb;exact(I7.pin (b,o) (eh _ (eh _ (vc hb e)))).2.1
  cases f with
  | next=>obtain⟨σ7,H7,I7,n7⟩:=q7;exact again I7 n7
  | cont=>obtain⟨σ7,H7,I7,n7⟩:=q7;exact again I7 n7
  | brk=>obtain⟨σ7,H7,I7,q7⟩:=q7;exact⟨σ7,H7,I7.mO,q7⟩
  | ret v=>obtain⟨x7,σ7,H7,I7,r7,q7⟩:=q7;exact⟨x7,σ7,H7,I7.mO,r7,q7⟩
abbrev R2:=V->V->Hp->VK->Prop
def xo(X:Cx)(f:Vl->Vl->Sem Vl)(r:R2):Prop:=
 ∀(Xn:QQY) (s:Sd) (Y:St) (H:Hp) (x y:V) (v u:Vl) (Q:VK),Inv X Xn Y H s->qy x v->qy y u->r x y H Q->
  Ch (pi X.prog X.w) X.A (f v u) (EP X Xn Y Q) X.xe s
def VQ(X:Cx)(f:Vl->Sem Vl)(r:V->Hp->VK->Prop):Prop:=
 ∀(Xn:QQY) (s:Sd) (Y:St) (H:Hp) (x:V) (v:Vl) (Q:VK),Inv X Xn Y H s->qy x v->r x H Q->
  Ch (pi X.prog X.w) X.A (f v) (EP X Xn Y Q) X.xe s
def yt(X:Cx)(f:Vl)(r:T0 V->Hp->VK->Prop):Prop:=
 ∀(Xn:QQY) (s:Sd) (Y:St) (H:Hp) (xs:T0 V) (us:T0 Vl) (Q:VK),Inv X Xn Y H s->qw xs us->r xs H Q->
  Ch (pi X.prog X.w) X.A (call f us) (EP X Xn Y Q) X.xe s
def UY(r:R2)(ta tb:TE):TE:=λY H Q=>ta Y H λx H1=>tb Y H1 λy H2=>r x y H2 Q
def Xb(r:V->Hp->VK->Prop)(ta:TE):TE:=λY H Q=>ta Y H λx H1=>r x H1 Q
def rI(C:Int->Int->Prop)(g:Int->Int->V):R2:=λx y H Q=>∃i j,x=.int i/\y=.int j/\C i j/\Q (g i j) H
def QZ(g:Int->Int->V):R2:=λx y H Q=>∃i j,x=.int i/\y=.int j/\Q (g i j) H
def rU(g:Int->V):V->Hp->VK->Prop:=λx H Q=>∃i,x=.int i/\Q (g i) H
variable {tc:TE}
section
variable {a b c:zn}
def Ru(ha:PE X a ta)(hb:PE X b tb){Xn:QQY}{s:Sd}{Y:St}{H:Hp}{R:V->V->Hp->Prop}(I:Inv X Xn Y H s) (h:ta Y H λx H1=>tb Y H1 λy H2=>R x y H2) {Q:QQX} {f:Vl->Vl->Sem Vl} (hf:∀v u s2 x y H2,Inv X Xn Y H2 s2->qy x v->qy y u->R x y H2->Ch (pi X.prog X.w) X.A (f v u) Q X.xe s2):
  Ch (pi X.prog X.w) X.A (No a X.env) (λv s₁=>Ch (pi X.prog X.w) X.A (No b X.env) (λu s₂=>Ch (pi X.prog X.w) X.A (f v u) Q X.xe s₂) X.xe s₁) X.xe s:=by
 refine rR (ha Xn s Y H _ I h) λv s1 zz=>x5 zz λx H1 I1 r1 q1=>?_;refine rR (hb Xn s1 Y H1 _ I1 q1) λu s2 zz=>x5 zz λy H2 I2 r2 q2=>?_;exact hf v u s2 x y H2 I2 r1 r2 q2
def Nj{op:XXe}(ho:xo X (dL op) r)(ha:PE X a ta)(hb:PE X b tb):PE X (.BinOp a op b pos) (UY r ta tb):=by intro Xn s Y H Q I h;exact wpAny_BinOp (Ru ha hb I h λv u s2 x y H2 I2 rx ry q=>ho Xn s2 Y H2 x y v u Q I2 rx ry q)
def UZ{op:UnaryOp}(ho:VQ X (unaryOp op) r)(ha:PE X a ta):PE X (.UnaryOp op a pos) (Xb r ta):=by intro Xn s Y H Q I h;exact UnaryOp_ (rR (ha Xn s Y H _ I h) λv s1 zz=>x5 zz λx H1 I1 r1 q1=>ho Xn s1 Y H1 x v Q I1 r1 q1)
def VY{f:Vl->Vl->Sem Vl}{C:Int->Int->Prop}{g:Int->Int->Int} (rule:∀(i j:Int) (t u:Tok) (s:Sd) (Q:QQX) (E:QQX),C i j->Q (.int (g i j) s.toks) {s with toks:=s.toks+1}->Ch (pi X.prog X.w) X.A (f (.int i t) (.int j u)) Q E s):
  xo X f (rI C λi j=>.int (g i j)):=by
 intro Xn s Y H x y v u Q I rx ry h;obtain⟨i,j,rfl,rfl,hc,q⟩:=h;obtain⟨t,rfl⟩:=rx;obtain⟨t',rfl⟩:=ry;exact rule i j t t' s _ _ hc ⟨.int (g i j),H,I.tok _,⟨_,Z'⟩,q⟩
def T6{f:Vl->Vl->Sem Vl}{g:Int->Int->Int} (rule:∀(i j:Int) (t u:Tok) (s:Sd) (Q:QQX) (E:QQX),Q (.int (g i j) s.toks) {s with toks:=s.toks+1}->Ch (pi X.prog X.w) X.A (f (.int i t) (.int j u)) Q E s):
  xo X f (QZ λi j=>.int (g i j)):=by
 intro Xn s Y H x y v u Q I rx ry h;obtain⟨i,j,rfl,rfl,q⟩:=h;obtain⟨t,rfl⟩:=rx;obtain⟨t',rfl⟩:=ry;exact rule i j t t' s _ _ ⟨.int (g i j),H,I.tok _,⟨_,Z'⟩,q⟩
def Qt{f:Vl->Vl->Sem Vl}{g:Int->Int->Bool} (rule:∀(i j:Int) (t u:Tok) (s:Sd) (Q:QQX) (E:QQX),Q (.bool (g i j)) s->Ch (pi X.prog X.w) X.A (f (.int i t) (.int j u)) Q E s):
  xo X f (QZ λi j=>.bl (g i j)):=by
 intro Xn s Y H x y v u Q I rx ry h;obtain⟨i,j,rfl,rfl,q⟩:=h;obtain⟨t,rfl⟩:=rx;obtain⟨t',rfl⟩:=ry;exact rule i j t t' s _ _ ⟨.bl (g i j),H,I,Z',q⟩
def U5(i j:Int):Prop:=0<j/\j<1073741824
def C8(i j:Int):Prop:=(-(2 ^ 64)<i/\i<2 ^ 64)\/(-(2 ^ 64)<j/\j<2 ^ 64)
def C8.ok(h:C8 i j):IntMulOk i j:=by
 rcases h with⟨h1,h2⟩|⟨h1,h2⟩
 .exact .of_left (intBits_le_64 h1 h2)
 .exact .of_right (intBits_le_64 h1 h2)
def RC:xo X (dL .Add) (QZ λi j=>.int (i+j)):=T6 λ_ _ _ _ _ _ _ q=>add_int q
def Sk:xo X (dL .Sub) (QZ λi j=>.int (i - j)):=T6 λ_ _ _ _ _ _ _ q=>sub_int q
def Td:xo X (dL .Mult) (rI C8 λi j=>.int (i*j)):=VY λ_ _ _ _ _ _ _ hc q=>mul_int q hc.ok
def NY:xo X (dL .FloorDiv) (rI U5 λi j=>.int (i / j)):=VY λi j _ _ _ _ _ hc q=>by have h1:(0:Int)<j:=hc.1;have h2:j<1073741824:=hc.2;exact floordiv_int (by lia) (by rw[Int.fdiv_eq_ediv_of_nonneg i (by lia)];exact q) (.inl (PyProof.noPylong_small (by lia)))
def RW:xo X (dL .Mod) (rI (λ_ j=>0<j) λi j=>.int (i % j)):=VY λi j _ _ _ _ _ hc q=>by have h1:(0:Int)<j:=hc;exact mod_int' (by lia) (by rw[Int.fmod_eq_emod_of_nonneg i (by lia)];exact q)
def W6{f:Vl->Sem Vl}{g:Int->Int} (rule:∀(i:Int) (t:Tok) (s:Sd) (Q:QQX) (E:QQX),Q (.int (g i) s.toks) {s with toks:=s.toks+1}->Ch (pi X.prog X.w) X.A (f (.int i t)) Q E s):
  VQ X f (rU λi=>.int (g i)):=by
 intro Xn s Y H x v Q I rx h;obtain⟨i,rfl,q⟩:=h;obtain⟨t,rfl⟩:=rx;exact rule i t s _ _ ⟨.int (g i),H,I.tok _,⟨_,Z'⟩,q⟩
def RM:VQ X (unaryOp .USub) (rU λi=>.int (-i)):=W6 λ_ _ _ _ _ q=>neg_int q
end
section
variable {a b c:zn}
def Hh{Xn:QQY}{Q:VK}{k k':Bool}(I:Inv X Xn Y H s)(q:Q (.bl k) H)(e:k=k'):EP X Xn Y Q (.bool k') s:=by subst e;exact⟨.bl k,H,I,Z',q⟩
def UT:xo X (wp .Lt) (QZ λi j=>.bl (decide (i<j))):=Qt λ_ _ _ _ _ _ _ q=>lt_int q
def US:xo X (wp .LtE) (QZ λi j=>.bl (decide (i<=j))):=Qt λ_ _ _ _ _ _ _ q=>le_int q
def Vd:xo X (wp .Gt) (QZ λi j=>.bl (decide (j<i))):=Qt λ_ _ _ _ _ _ _ q=>gt_int q
def Uj:xo X (wp .GtE) (QZ λi j=>.bl (decide (j<=i))):=Qt λ_ _ _ _ _ _ _ q=>ge_int q
def Kh:xo X (wp .In) (λx y H Q=>∃i j,x=.str i/\y=.str j/\Q (.bl (!(Builtin.Str.occurrences j i 0 j.length 1).isEmpty)) H):=by intro Xn s Y H x y v u Q I rx ry h;obtain⟨i,j,rfl,rfl,q⟩:=h;obtain⟨t,rfl⟩:=rx;obtain⟨t',rfl⟩:=ry;exact in_str (Hh I q Z')
def Th:xo X (wp .Is) (λx y H Q=>y=.mC/\Q (.bl (decide (x=.mC))) H):=by
 intro Xn s Y H x y v u Q I rx ry h;obtain⟨rfl,q⟩:=h;cases ry;refine is_none_gen (Hh I q ?_);cases x<;>first
  | (cases rx;rfl)
  | (obtain⟨t,rfl⟩:=rx;rfl)
def P0:xo X (wp .IsNot) (λx y H Q=>y=.mC/\Q (.bl (!decide (x=.mC))) H):=by
 intro Xn s Y H x y v u Q I rx ry h;obtain⟨rfl,q⟩:=h;cases ry;refine isnot_none_gen (Hh I q ?_);cases x<;>first
  | (cases rx;rfl)
  | (obtain⟨t,rfl⟩:=rx;rfl)
def Ht(b:zn){op:CmpOp}(h:op≠.In:=by decide)(h2:op≠.NotIn:=by decide):wT op b=pc:=by
 have e1:(op==CmpOp.In)=pc:=by cases op<;>first|rfl|exact absurd Z' h
 have e2:(op==CmpOp.NotIn)=pc:=by cases op<;>first|rfl|exact absurd Z' h2
 cases b<;>simp[wT,e1,e2]
def Jz{op:CmpOp}(ho:xo X (wp op) r)(ha:PE X a ta)(hb:PE X b tb)(hm:wT op b=pc):PE X (.Compare a [op] [b] pos) (UY r ta tb):=by intro Xn s Y H Q I h;exact wpAny_Compare1 (Ru ha hb I h λv u s2 x y H2 I2 rx ry q=>ho Xn s2 Y H2 x y v u Q I2 rx ry q) hm
def QV(t:TE):TT:=λY H Q=>t Y H λx H'=>∃k,x=.bl k/\Q k H'
def JB{op:CmpOp}(ho:xo X (wp op) r)(ha:PE X a ta)(hb:PE X b tb)(hm:wT op b=pc):PT X (.Compare a [op] [b] pos) (QV (UY r ta tb)):=by
 intro Xn s Y H Q I h;refine wpAny_isTrue_Compare1 (rR (ha Xn s Y H _ I h) λv s1 zz=>x5 zz λx H1 I1 r1 q1=>rR (hb Xn s1 Y H1 _ I1 q1) λu s2 zz=>x5 zz λy H2 I2 r2 q2=>
  rR (ho Xn s2 Y H2 x y v u _ I2 r1 r2 q2) λc s3 zz=>?_) hm
 obtain⟨z,H3,I3,r3,k,e,q3⟩:=zz;subst e;cases r3;exact fh ⟨H3,I3,q3⟩
def ML(r r':R2)(ta tb tc:TE):TE:=λY H Q=>ta Y H λx H1=>tb Y H1 λy H2=>r x y H2 λz H3=>∃k,z=.bl k/\
 (if k=Db then tc Y H3 λw' H4=>r' y w' H4 Q else Q (.bl pc) H3)
def Ll{op Yi:CmpOp}(ho:xo X (wp op) r)(X6:xo X (wp Yi) r')(ha:PE X a ta)(hb:PE X b tb)(hc:PE X c tc) (hm:lastMarks [op,Yi] [b,c]=pc:=by with_unfolding_all rfl):PE X (.Compare a [op,Yi] [b,c] pos) (ML r r' ta tb tc):=by
 intro Xn s Y H Q I h;refine Compare_chain (rR (ha Xn s Y H _ I h) λv s1 zz=>x5 zz λx H1 I1 r1 q1=>chain_link (rR (hb Xn s1 Y H1 _ I1 q1) λu s2 zz=>x5 zz λy H2 I2 r2 q2=>
  rR (ho Xn s2 Y H2 x y v u _ I2 r1 r2 q2) λd s3 zz=>?_)) hm
 obtain⟨z,H3,I3,r3,k,e,q3⟩:=zz;subst e;cases r3;refine fh ?_;cases k with
 | false=>exact ite_ff ⟨.bl pc,H3,I3,Z',q3⟩
 | true=>exact ite_tt (chain_last (rR (hc Xn s3 Y H3 _ I3 q3) λw' s4 zz=>x5 zz λz' H4 I4 r4 q4=>X6 Xn s4 Y H4 y z' u w' Q I4 r2 r4 q4))
def LQ{op Yi:CmpOp}(ho:xo X (wp op) r)(X6:xo X (wp Yi) r')(ha:PE X a ta)(hb:PE X b tb)(hc:PE X c tc) (hm:lastMarks [op,Yi] [b,c]=pc:=by with_unfolding_all rfl):PT X (.Compare a [op,Yi] [b,c] pos) (QV (ML r r' ta tb tc)):=by
 intro Xn s Y H Q I h;refine isTrue_chain (rR (ha Xn s Y H _ I h) λv s1 zz=>x5 zz λx H1 I1 r1 q1=>test_link (rR (hb Xn s1 Y H1 _ I1 q1) λu s2 zz=>x5 zz λy H2 I2 r2 q2=>
  rR (ho Xn s2 Y H2 x y v u _ I2 r1 r2 q2) λd s3 zz=>?_)) hm
 obtain⟨z,H3,I3,r3,k,e,q3⟩:=zz;subst e;cases r3;refine fh ?_;cases k with
 | false=>obtain⟨k',e',q'⟩:=q3;cases e';exact ite_ff ⟨H3,I3,q'⟩
 | true=>refine ite_tt (test_last (rR (hc Xn s3 Y H3 _ I3 q3) λw' s4 zz=>x5 zz λz' H4 I4 r4 q4=>rR (X6 Xn s4 Y H4 y z' u w' _ I4 r2 r4 q4) λd' s5 zz=>?_));obtain⟨z2,H5,I5,r5,k2,e2,q5⟩:=zz;subst e2;cases r5;exact fh ⟨H5,I5,q5⟩
def xT:(Uf:Nat)<2 ^ 63:=by rw[dP];decide
def HG:xo X (dL .Add) (λx y H Q=>∃i j,x=.str i/\y=.str j/\i.length+j.length<=Uf/\Q (.str (i++j)) H):=by intro Xn s Y H x y v u Q I rx ry h;obtain⟨i,j,rfl,rfl,hz,q⟩:=h;obtain⟨t,rfl⟩:=rx;obtain⟨t',rfl⟩:=ry;exact add_str (λt' tk=>⟨.str (i++j),H,I.tok _,⟨_,Z'⟩,q⟩) hz
def xh{x:V}(r:qw [x] us):∃u,us=[u]/\qy x u:=by
 cases r with
 | cons r1 r2=>cases r2;exact⟨_,Z',r1⟩
def IW{x y:V}(r:qw [x,y] us):∃u w',us=[u,w']/\qy x u/\qy y w':=by
 cases r with
 | cons r1 r2=>
  cases r2 with
  | cons r3 r4=>cases r4;exact⟨_,_,Z',r1,r3⟩
def KB(hc:X.calm=Db):yt X (.builtin "min") (λxs H Q=>∃i j,xs=[.int i,.int j]/\Q (.int (if j<i then j else i)) H):=by
 intro Xn s Y H xs us Q I r h;obtain⟨i,j,rfl,q⟩:=h;obtain⟨u,w',rfl,⟨t,rfl⟩,⟨t',rfl⟩⟩:=IW r;refine min_two_ints (I.ok.hd hc) λh' tk k=>⟨_,H,I.kept k,?_,q⟩;by_cases hj:j<i
 .rw[df hj,df hj];exact⟨_,Z'⟩
 .rw[de hj,de hj];exact⟨_,Z'⟩
def DM:yt X (.type "int") (λxs H Q=>(∃i,xs=[.int i]/\Q (.int i) H)\/∃k,xs=[.bl k]/\Q (.int (if k then 1 else 0)) H):=by
 intro Xn s Y H xs us Q I r h;rcases h with⟨i,rfl,q⟩|⟨k,rfl,q⟩
 .obtain⟨u,rfl,t,rfl⟩:=xh r;exact call_int_int ⟨.int i,H,I,⟨_,Z'⟩,q⟩
 .obtain⟨u,rfl,r1⟩:=xh r;cases r1;exact call_int_bool ⟨.int (if k then 1 else 0),H,I.tok _,⟨_,Z'⟩,q⟩
end
structure Hd(h:Go)(x dx C:lf)(mA:QQZ):Prop where
 obj:h.get? x=ga (W.instObj C dx)
 ns:h.Ns1 dx mA
 ne:dx≠x
def J1{h:Go}{dx:lf}{mA:QQZ}(n:h.Ns1 dx mA):∃od,h.get? dx=ga od/\∀name,W.lookIn name od=ga (mA name):=by
 obtain⟨o,es,ep,ho,hd,hk,_,hm⟩:=n;refine⟨o,ho,λname=>?_⟩;have e:=hm name;unfold nsFind findBy at e;rw[<-Array.find?_toList]at e;unfold W.lookIn;rw[hd];dsimp only;split
 .rename_i y q;rw[q]at e;exact eI ga e
 .rename_i q;rw[q]at e;have a:es.toList.any (·.refKey)=pc:=by rw[kX];intro y hy;obtain⟨z,t,hkey⟩:=hk y (j5.mp hy);simp[DictEntry.refKey,hkey]
  have a':¬es.toList.any (·.refKey)=Db:=by rw[a];exact dC
  rw[de a'];exact eI ga e
def Hd.look(I:Hd h x dx C mA):∃od,W.InstAt h x (W.instObj C dx) C (ga od)/\∀name,W.lookIn name od=ga (mA name):=
 let⟨od,ho,hl⟩:=J1 I.ns
 ⟨od,⟨I.obj,Z',Z',ho⟩,hl⟩
variable {prog:Pg}{A:Ar}{K:qk}{dx C:lf}{mA:QQZ}{name:Str}
section
variable {w:Wo}{E:QQX}{x f:lf}{v:Vl}
def N0{expr:Bool}{Q:QQX}(X:K.In s.heap)(I:Hd s.heap x dx C mA)(hg:W.plainGet K C name=Db)(hh:W.hasDictIn K C=Db) (ha:W.findIn K (.ref C) name=ga Fa) (hv:mA name=ga v) (hv':W.handedIn v=Db) (h:Q v {s with toks:=s.toks+1}):
  Ch (pi prog w) A (getAttr (.ref x) name expr) Q E s:=by
 obtain⟨od,J,hl⟩:=I.look;exact W.get_value X J (kl hg).1 (W.findObj_own hh ha Z' (by rw[hl,hv])) hv' h
def MD{pl:Sem Bool}{Q:Vl×T0 Vl->Sd->Prop}(X:K.In s.heap)(I:Hd s.heap x dx C mA)(hg:W.plainGet K C name=Db) (hf:W.findIn K (.ref C) name=ga (ga (.ref f))) (ht:W.isFn K (.ref f)=Db) (hv:mA name=Fa) (h:Q (.ref f,[.ref x]) s):
  Ch (pi prog w) A (XV (.ref x) name pl) Q E s:=by
 obtain⟨od,J,hl⟩:=I.look;exact W.method_fn X J (kl hg).1 (kl hg).2 hf (fj.mp ht) (by show(W.lookIn name od).map (·.isSome)=ga pc;rw[hl,hv];rfl) h
def PU{Q:Unit->Sd->Prop}(X:K.In s.heap)(I:Hd s.heap x dx C mA) (hs:W.findIn K (.ref C) "__setattr__"=ga (ga (.builtin "object.__setattr__"))) (hp:W.plainOver K C=Db) (ht:W.takerIn K C name=ga Fa) (hh:W.hasDictIn K C=Db) (hw:PySem.Within mA ns) (hsz:ns.length<=Uf) (h:∀h',Hd h' x dx C (λy=>if y=name then ga v else mA y)->Heap.SameBut dx s.heap h'->Q () {s with heap:=h',toks:=s.toks+2}):
  Ch (pi prog w) A (setAttr (.ref x) name v) Q E s:=by
 obtain⟨od,J,hl⟩:=I.look;refine W.set_plain X J hs (W.osa_open (s:={s with toks:=s.toks+1}) (r:=none) X J hp ht λb=>?_);obtain⟨cd,hc,hd'⟩:=W.any_some hh;have hx:s.heap.get? x=ga ⟨.ref C,ga dx,.plain,#[]⟩:=I.obj;refine cX (dw (cX (cX (wpAny_loadPart hx (cX (lZ (s:={s with toks:=s.toks+1}) (km X hc) ?_))))));rw[hd'];refine dw (a:=some dx) (cX (dw (cX ?_)));refine wpAny_nsSet1 (s:={s with toks:=s.toks+1}) I.ns λh' Z5 X7=>?_;obtain⟨oD,esD,epD,hoD,Gq,hcD⟩:=Z5.count (PySem.Within.cons name v hw);refine cX (lA hoD (by rw[Gq];exact lB (dZ hcD (by rw[eA];lia))) ?_);exact dw (h _ ⟨(X7.2 _ (dX I.ne)).trans I.obj,Z5,I.ne⟩ X7)
def Lm{vs:T0 Vl}{kw:T0 (Str×Vl)}(X:K.In s.heap)(hm:W.makesIn K C=Db) (hi:W.findIn K (.ref C) "__init__"=ga (ga (.ref f))) (hf:W.typeIn K (.ref f)=ga (.type "function")) (h:XXg (pi prog w) (A.under (.builtin "type.__call__" ⟨.ref C::vs,kw⟩)) (.call (.ref f) ⟨.ref (s.heap.objs.size+1)::vs,kw⟩) (W.InitBack (s.heap.objs.size+1) R) {s with heap:=(s.heap.push W.emptyDict).push (W.instObj C s.heap.objs.size)}):
  XXg (pi prog w) A (.call (.ref C) ⟨vs,kw⟩) R s:=by
 obtain⟨hh,g,d,t,os⟩:=s;exact W.make_core (W.makes_of X hm) (lV X hi) (λself=>W.bind_fn X self hf) (.inl Z') h
end
noncomputable def vq(f:Str)(v:V):T0 (Str×V)->T0 (Str×V)
 | []=>[(f,v)]
 | (g,x)::r=>if g=f then(g,v)::r else(g,x)::vq f v r
theorem As(f g:Str)(v:V):∀fs:T0 (Str×V),(vq f v fs).lookup g=if g=f then ga v else fs.lookup g
 | []=>by
  show List.lookup g [(f,v)]=_;by_cases h:g=f
  .have hb:(g==f)=Db:=fj.mpr h;simp only[List.lookup,hb,df h]
  .have hb:(g==f)=pc:=fW.mpr h;simp only[List.lookup,hb,de h]
 | (k,x)::r=>by
  have ih:=As f g v r;rw[show vq f v ((k,x)::r)=(if k=f then(k,v)::r else(k,x)::vq f v r)from Z'];by_cases hk:k=f
  .rw[df hk];by_cases h:g=k
   .have hb:(g==k)=Db:=fj.mpr h;simp only[List.lookup,hb,df (h.trans hk)]
   .have hb:(g==k)=pc:=fW.mpr h;simp only[List.lookup,hb,de (λe:g=f=>h (e.trans hk.symm))]
  .rw[de hk];by_cases h:g=k
   .have hb:(g==k)=Db:=fj.mpr h;simp only[List.lookup,hb,de (λe:g=f=>hk (h.symm.trans e))]
   .have hb:(g==k)=pc:=fW.mpr h;simp only[List.lookup,hb];exact ih
theorem Af(f:Str)(v:V):∀fs:T0 (Str×V),f∈(vq f v fs).map (·.1)/\∀g,g∈fs.map (·.1)->g∈(vq f v fs).map (·.1)
 | []=>⟨by simp[vq],λg h=>by simp at h⟩
 | (k,x)::r=>by
  obtain⟨i1,i2⟩:=Af f v r;rw[show vq f v ((k,x)::r)=(if k=f then(k,v)::r else(k,x)::vq f v r)from Z'];by_cases hk:k=f
  .rw[df hk];subst hk;exact⟨by simp,λg h=>by simpa using h⟩
  .rw[de hk];refine⟨?_,λg h=>?_⟩
   .rw[d6];exact dF _ i1
   .rw[d6]at h ⊢;rcases dz.mp h with e|e
    .exact dz.mpr (.inl e)
    .exact dF _ (i2 g e)
theorem AB(f:Str)(v:V):∀fs:T0 (Str×V),(vq f v fs).length<=fs.length+1
 | []=>by simp[vq]
 | (k,x)::r=>by
  have ih:=AB f v r;rw[show vq f v ((k,x)::r)=(if k=f then(k,v)::r else(k,x)::vq f v r)from Z'];by_cases hk:k=f
  .rw[df hk,eA,eA];lia
  .rw[de hk,eA,eA];lia
def xn.some_of{v:V}(r:xn (ga v) o):∃u,o=ga u/\qy v u:=by
 cases o with
 | none=>exact(show False from r).elim
 | some u=>exact⟨u,Z',r⟩
def xn.none_of{o:Option Vl}(r:xn Fa o):o=Fa:=by
 cases o with
 | none=>rfl
 | some u=>exact(show False from r).elim
def Kd{u:Vl}(r:qy v u):W.handedIn u=Db:=by
 cases v with
 | mC=>cases(show u=Value.none from r);rfl
 | bl b=>cases(show u=Value.bool b from r);rfl
 | int i=>obtain⟨t,e⟩:=(show ∃t,u=Value.int i t from r);cases e;rfl
 | str x=>obtain⟨t,e⟩:=(show ∃t,u=Value.str x t from r);cases e;rfl
 | byt b=>obtain⟨t,e⟩:=(show ∃t,u=Value.bytes b t from r);cases e;rfl
 | flt b=>obtain⟨t,e⟩:=(show ∃t,u=Value.float b t from r);cases e;rfl
 | ref a=>cases(show u=Value.ref a from r);rfl
 | ty n=>cases(show u=Value.type n from r);rfl
section
variable {P:Pg}{w:Wo}{a:lf}{fs fs':T0 (Str × V)}
def Be(mH:yp P w H h)(e:H a=ga (.ins C dx fs)):∃mA,Hd h a dx C mA/\(∀f,xn (fs.lookup f) (mA f))/\PySem.Within mA (fs.map (·.1))/\fs.length<=1000/\H dx=ga (.own a):=by obtain⟨d,z,ne,ob,mA,n,r,q⟩:=(show rZ P w H h a (.ins C dx fs)from mH a _ e);exact⟨mA,⟨ob,n,ne⟩,r,q,z,d⟩
end
structure Cls(K:qk)(C:lf):Prop where
 pg:W.plainGet K C Str.empty=Db
 hd:W.hasDictIn K C=Db
 po:W.plainOver K C=Db
 sa:W.findIn K (.ref C) "__setattr__"=ga (ga (.builtin "object.__setattr__"))
def Cls.get{K:qk}(c:Cls K C)(f:Str):W.plainGet K C f=Db:=c.pg
def tU(K:qk)(C:lf)(f:Str):Prop:=W.findIn K (.ref C) f=ga Fa
def tU.oK{K:qk}(n:tU K C f):W.takerIn K C f=ga Fa:=by unfold W.takerIn;rw[show W.findIn K (.ref C) f=ga Fa from n];rfl
structure vp(K:qk)(C:lf)(m:Str)(f:lf):Prop where
 at_:W.findIn K (.ref C) m=ga (ga (.ref f))
 fn:W.isFn K (.ref f)=Db
 kp:W.keepIn K (.ref f)=Db
section
variable {Y:St}{a:lf}{fs:T0 (Str × V)}{f:Str}{v:V}{E:QQX}
def Cm{b:Bool}{Q:QQX}(I:Inv X Xn Y H s)(e:H a=ga (.ins C dx fs))(c:Cls X.K C)(n:tU X.K C f)(l:fs.lookup f=ga v) (h:∀u s',Inv X Xn Y H s'->qy v u->Q u s'):Ch (pi X.prog X.w) A (getAttr (.ref a) f b) Q E s:=by
 obtain⟨mA,O,r,_,_,_⟩:=Be I.mH e;obtain⟨u,hu,ru⟩:=xn.some_of (v:=v) (o:=mA f) (by rw[<-l];exact r f);exact N0 I.mR O (c.get f) c.hd n hu (Kd ru) (h u _ (I.tok _) ru)
def Ca{pl:Sem Bool}{Q:Vl×T0 Vl->Sd->Prop}(I:Inv X Xn Y H s)(e:H a=ga (.ins C dx fs))(c:Cls X.K C)(k:vp X.K C m g)(l:fs.lookup m=Fa) (h:Q (.ref g,[.ref a]) s):Ch (pi X.prog X.w) A (XV (.ref a) m pl) Q E s:=by
 obtain⟨mA,O,r,_,_,_⟩:=Be I.mH e;have hn:mA m=Fa:=xn.none_of (by rw[<-l];exact r m);exact MD I.mR O (c.get m) k.at_ k.fn hn h
def BI{u:Vl}{Q:Unit->Sd->Prop}(I:Inv X Xn Y H s)(e:H a=ga (.ins C dx fs))(c:Cls X.K C)(n:tU X.K C f)(hl:fs.length<1000)(ry:qy y u) (h:∀s',Inv X Xn Y (upd H a (.ins C dx (vq f y fs))) s'->Q () s'):Ch (pi X.prog X.w) A (setAttr (.ref a) f u) Q E s:=by
 obtain⟨mA,O,r,wi,_,ho⟩:=Be I.mH e;have hz:(fs.map (·.1)).length<=Uf:=by rw[cW,dP];lia
 refine PU I.mR O c.sa c.po n.oK c.hd wi hz λh' O' sb=>h _ ?_;have hd:∃o,h'.get? dx=ga o:=let⟨o,_,_,e',_⟩:=O'.ns;⟨o,e'⟩;refine I.write (x:=a) (e:=dx) (by rw[e];exact True.intro) (.inr ho) (λb q hb z=>(sb.2 b hb).trans z) hd ?_;refine⟨by rw[pS O.ne];exact ho,?_,O.ne,O'.obj,_,O'.ns,λg=>?_,λg hg=>?_⟩
 .have:=AB f y fs;lia
 .show xn ((vq f y fs).lookup g) (if g=f then ga u else mA g);rw[As];by_cases q:g=f
  .rw[df q,df q];exact ry
  .rw[de q,de q];exact r g
 .by_cases q:g=f
  .rw[q];exact(Af f y fs).1
  .refine(Af f y fs).2 g (wi g λz=>hg ?_);show(if g=f then ga u else mA g)=Fa;rw[de q];exact z
def Inv.made(I:Inv X Xn Y H s):Inv X Xn Y (upd (upd H s.heap.objs.size (.own (s.heap.objs.size+1))) (s.heap.objs.size+1) (.ins C s.heap.objs.size [])) {s with heap:=(s.heap.push W.emptyDict).push (W.instObj C s.heap.objs.size)}:=by
 have e1:(s.heap.push W.emptyDict).get? s.heap.objs.size=ga W.emptyDict:=dJ s.heap Z';have e2:((s.heap.push W.emptyDict).push (W.instObj C s.heap.objs.size)).get? (s.heap.objs.size+1)=ga (W.instObj C s.heap.objs.size):=by
  have:=dJ (s.heap.push W.emptyDict) (o:=W.instObj C s.heap.objs.size) Z'
  rwa [fK]at this
 have e3:(s.heap.push W.emptyDict).Ns s.heap.objs.size (λ_=>Fa):=⟨W.emptyDict,#[],_,e1,Z',(λe he=>absurd he (by simp)),λ_=>rfl⟩;have I1:=I.laid (a:=s.heap.objs.size) (o:=.own (s.heap.objs.size+1)) (h':=s.heap.push W.emptyDict) (t':=s.toks) (λb u q=>dg _ q) (dq _) ⟨_,e1⟩;refine I1.laid (a:=s.heap.objs.size+1) (o:=.ins C s.heap.objs.size []) (t':=s.toks) (λb u q=>dg _ q) (kF (fK _ _)) ?_;have ne:s.heap.objs.size≠s.heap.objs.size+1:=dU (fG _);refine⟨by rw[pS ne,pT],eU _,ne,e2,λ_=>Fa,(kY e3).at λo q=>dg _ q,λ_=>True.intro,λy hy=>absurd Z' hy⟩
def Oe{prog:Pg}{w:Wo}{env:Env}{e:zn}{f:Str}{s:Sd}{Q:QQX}(hb:wE e f env (No e env)=No e env) (h:Ch (pi prog w) A (No e env) (λo s₁=>Ch (pi prog w) A (getAttr o f Db) Q E s₁) E s):Ch (pi prog w) A (No (.Attribute e f pos) env) Q E s:=
 Attribute_any_ h (by rw[arm_eval_Attribute,hb])
end
def VV(K:qk)(ta:TE)(f:Str):TE:=λY H Q=>ta Y H λx H1=>∃a C dx fs v,x=.ref a/\H1 a=ga (.ins C dx fs)/\Cls K C/\tU K C f/\fs.lookup f=ga v/\Q v H1
def Wh(K:qk)(ta tv:TE)(f:Str):TS:=λD Y H=>tv Y H λy H1=>ta Y H1 λx H2=>∃a C dx fs,x=.ref a/\H2 a=ga (.ins C dx fs)/\Cls K C/\tU K C f/\fs.length<1000/\
 D.nx Y (upd H2 a (.ins C dx (vq f y fs)))
def OG(X:Cx)(op:XXe)(rd:V->V->Hp->VK->Prop):Prop:=
 ∀(Xn:QQY) (s:Sd) (Y:St) (H:Hp) (x y:V) (u v:Vl) (Q:VK),Inv X Xn Y H s->qy x u->qy y v->rd x y H Q->Ch (pi X.prog X.w) X.A (inplaceOp op u v) (EP X Xn Y Q) X.xe s
def Pc(K:qk)(ta tv:TE)(rd:V->V->Hp->VK->Prop)(f:Str):TS:=λD Y H=>ta Y H λx H1=>∃a C dx fs v,x=.ref a/\H1 a=ga (.ins C dx fs)/\Cls K C/\tU K C f/\fs.lookup f=ga v/\
 tv Y H1 λy H2=>rd v y H2 λz H3=>∃Z6 fs',H3 a=ga (.ins C Z6 fs')/\fs'.length<1000/\D.nx Y (upd H3 a (.ins C Z6 (vq f z fs')))
variable {value:zn}{Xw Yq:Pos}{tv:TE}
section
variable {o e:zn}{f:Str}
def R8(he:PE X e ta)(hb:wE e f X.env (No e X.env)=No e X.env):PE X (.Attribute e f pos) (VV X.K ta f):=by intro Xn s Y H Q I h;refine Oe hb (rR (he Xn s Y H _ I h) λu s1 zz=>?_);obtain⟨x,H1,I1,rx,a,C,dx,fs,v,ex,ea,c,n,l,q⟩:=zz;subst ex;obtain rfl:u=Value.ref a:=rx;exact Cm I1 ea c n l λu' s2 I2 ru=>⟨v,H1,I2,ru,q⟩
def Ta(ha:PE X o ta)(hv:PE X value tv)(hs:Ix value (ga (.Attribute o f Xw)) pos.line X.env=pure pc):PS X (.Assign [.Attribute o f Xw] value pos) (Wh X.K ta tv f):=by intro Xn s Y H D I h;refine iM (rR (hv Xn s Y H _ I h) λu s1 zz=>x5 zz λy H1 I1 ry q=>rR (ha Xn s1 Y H1 _ I1 q) λov s2 zz=>?_) hs;obtain⟨x,H2,I2,rx,a,C,dx,fs,ex,ea,c,n,l,q2⟩:=zz;subst ex;obtain rfl:ov=Value.ref a:=rx;exact BI I2 ea c n l ry λs3 I3=>⟨Y,_,I3,q2⟩
def Kf(ha:PE X o ta)(hv:PE X value tv)(hop:OG X op rd):PS X (.AugAssign (.Attribute o f Yq) op value pos) (Pc X.K ta tv rd f):=by intro Xn s Y H D I h;refine wpAny_AugAssign_AttributeAny (rR (ha Xn s Y H _ I h) λov s1 zz=>?_);obtain⟨x,H1,I1,rx,a,C,dx,fs,v,ex,ea,c,n,l,q⟩:=zz;subst ex;obtain rfl:ov=Value.ref a:=rx;refine Cm I1 ea c n l λu s2 I2 ru=>rR (hv Xn s2 Y H1 _ I2 q) λw3 s3 zz=>x5 zz λy H2 I3 ry q3=>rR (hop Xn s3 Y H2 v y u w3 _ I3 ru ry q3) λw4 s4 zz=>?_;obtain⟨z,H3,I4,rz,Z6,fs',ea',l',q4⟩:=zz;exact BI I4 ea' c n l' rz λs5 I5=>⟨Y,_,I5,q4⟩
def V7:V->V->Hp->VK->Prop:=λx y H Q=>∃i j,x=.int i/\y=.int j/\Q (.int (i+j)) H
def VX:V->V->Hp->VK->Prop:=λx y H Q=>∃i j,x=.int i/\y=.int j/\Q (.int (i - j)) H
def Rn:OG X .Add V7:=by
 rintro Xn s Y H x y u v Q I rx ry ⟨i,j,rfl,rfl,q⟩
 obtain⟨t,rfl⟩:=(show ∃t,u=Value.int i t from rx);obtain⟨t',rfl⟩:=(show ∃t',v=Value.int j t' from ry);exact PyProof.Rows.iadd_int ⟨.int (i+j),H,I.tok _,⟨_,Z'⟩,q⟩
def Ra:OG X .Sub VX:=by
 rintro Xn s Y H x y u v Q I rx ry ⟨i,j,rfl,rfl,q⟩
 obtain⟨t,rfl⟩:=(show ∃t,u=Value.int i t from rx);obtain⟨t',rfl⟩:=(show ∃t',v=Value.int j t' from ry);exact PyProof.Rows.isub_int ⟨.int (i - j),H,I.tok _,⟨_,Z'⟩,q⟩
end
variable {Q:QQX}
section
variable {Y:St}{E:QQX}{c:Vl}{b:Bool}
inductive AF(K:qk)(H:Hp):V->Vl->Prop where
 | mC:AF K H .mC (.type "NoneType")
 | bl (x:Bool):AF K H (.bl x) (.type "bool")
 | int (i:Int):AF K H (.int i) (.type "int")
 | str (x:Str):AF K H (.str x) (.type "str")
 | flt (x:UInt64):AF K H (.flt x) (.type "float")
 | lst {a:lf} {xs:List V} (e:H a=ga (.lst xs)):AF K H (.ref a) (.type "list")
 | frz {a:lf} {o:Obj} {xs:List V} (e:H a=ga (.frz o (.lst xs))):AF K H (.ref a) (.type "list")
 | tup {a:lf} {xs:List V} (e:H a=ga (.tup xs)):AF K H (.ref a) (.type "tuple")
 | dK {a:lf} {kvs:List (qL×V)} (e:H a=ga (.dK kvs)):AF K H (.ref a) (.type "dict")
 | dT {a:lf} {kvs:List (List qL×V)} (e:H a=ga (.dT kvs)):AF K H (.ref a) (.type "dict")
 | ins {a C dx:lf} {fs:List (Str×V)} (e:H a=ga (.ins C dx fs)) (cl:Cls K C) (ha:W.findIn K (.ref C) "__class__"=ga (ga (.builtin "object.__class__")))
   (hn:W.specialIn K (.builtin "object.__class__") "__get__"=ga (ga (.builtin "getset_descriptor.__get__"))) (htk:W.takesIn K (.builtin "object.__class__")=ga Db)
   (hm:W.mroIn K C (.type "object")=ga Db):AF K H (.ref a) (.ref C)
def uA{u t:Vl}(I:Inv X Xn Y H s)(rx:qy x u)(ty:AF X.K H x t)(e:W.kitOne X.K t c=ga b)(h:∀tk,Q (.bool b) {s with toks:=tk}):
  Ch (pi X.prog X.w) A (call (.builtin "isinstance") [u,c]) Q E s:=by
 cases ty with
 | mC=>cases(show u=Value.none from rx);exact gu W.kitx_none I.mR True.intro e (λz=>nomatch z) h
 | bl y=>cases(show u=Value.bool y from rx);exact gu W.kitx_bool I.mR True.intro e (λz=>nomatch z) h
 | int i=>obtain⟨t,q⟩:=(show ∃t,u=Value.int i t from rx);cases q;exact gu W.kitx_int I.mR True.intro e (λz=>nomatch z) h
 | str y=>obtain⟨t,q⟩:=(show ∃t,u=Value.str y t from rx);cases q;exact gu W.kitx_str I.mR True.intro e (λz=>nomatch z) h
 | flt y=>obtain⟨t,q⟩:=(show ∃t,u=Value.float y t from rx);cases q;exact gu W.kitx_float I.mR True.intro e (λz=>nomatch z) h
 | @lst a xs ea=>cases(show u=Value.ref a from rx);obtain⟨_,_,n,_,h1⟩:=(show rZ X.prog X.w H s.heap a (.lst xs)from I.mH a _ ea);exact gu lq I.mR ⟨_,h1,Z'⟩ e (λz=>nomatch z) h
 | @frz a ob xs ea=>cases(show u=Value.ref a from rx);obtain⟨_,_,_,n,_,h1⟩:=(show rZ X.prog X.w H s.heap a (.frz ob (.lst xs))from I.mH a _ ea);exact gu lq I.mR ⟨_,h1,Z'⟩ e (λz=>nomatch z) h
 | @tup a xs ea=>cases(show u=Value.ref a from rx);obtain⟨_,_,_,p⟩:=(show rZ X.prog X.w H s.heap a (.tup xs)from I.mH a _ ea);obtain⟨o,h1,h2,_⟩:=p;exact gu W.kitx_tuple I.mR ⟨o,h1,h2⟩ e (λz=>nomatch z) h
 | @dK a kvs ea=>cases(show u=Value.ref a from rx);obtain⟨_,_,vs,_,p⟩:=(show rZ X.prog X.w H s.heap a (.dK kvs)from I.mH a _ ea);obtain⟨o,es,ep,h1,h2,_⟩:=p;exact gu W.kitx_dict I.mR ⟨o,h1,h2.1⟩ e (λz=>nomatch z) h
 | @dT a kvs ea=>cases(show u=Value.ref a from rx);obtain⟨_,_,xs,_,o,es,ep,h1,h2,_⟩:=(show rZ X.prog X.w H s.heap a (.dT kvs)from I.mH a _ ea);exact gu W.kitx_dict I.mR ⟨o,h1,h2.1⟩ e (λz=>nomatch z) h
 | @ins a C dx fs ea cl ha hn htk hm=>cases(show u=Value.ref a from rx);obtain⟨mA,O,_⟩:=Be I.mH ea;obtain⟨od,J,_⟩:=O.look;exact gu (W.kitx_own (cl.get _) cl.hd ha hn htk hm) I.mR J e (λz=>nomatch z) h
end
structure rS(k:Nat)(A:Ar):Prop where
 hd:A.handled=Fa
 dp:A.depth+3*k+5<recursionLimit
 un:A.units+16*k+200<wP
def rS.mono{j k:Nat}(r:rS k A)(h:j<=k):rS j A:=⟨r.hd,by have:=r.dp;lia,by have:=r.un;lia⟩
def rS.deeper{k:Nat}(r:rS (k+1) A)(env:Env):rS k (A.deeper env):=
 ⟨r.hd,by have:=r.dp;show A.depth+1+3*k+5<_;lia,by have:=r.un;show A.units+3+16*k+200<_;lia⟩
def Hs{A:Ar}{C:lf}{us:T0 Vl}{kw:T0 (Str×Vl)}:(A.under (.builtin "type.__call__" ⟨.ref C::us,kw⟩)).depth=A.depth+1:=by first|rfl|simp[Around.under,Code.weight,Code.isCreation,Code.isGuard,Code.isCaller,Code.frames,Code.isFrame,guardIds]
def HK{A:Ar}{C:lf}{us:T0 Vl}{kw:T0 (Str×Vl)}:(A.under (.builtin "type.__call__" ⟨.ref C::us,kw⟩)).units=A.units+1:=by first|rfl|simp[Around.under,Code.cUnits,Code.frames,Code.isFrame]
def rS.make{k:Nat}(r:rS (k+1) A)(C:lf)(us:T0 Vl)(kw:T0 (Str×Vl)):rS k (A.under (.builtin "type.__call__" ⟨.ref C::us,kw⟩)):=
 ⟨r.hd,by have:=r.dp;rw[Hs];lia,by have:=r.un;rw[HK];lia⟩
def rS.depth(r:rS k A):A.depth<recursionLimit:=by have:=r.dp;lia
def rS.units(r:rS k A):A.units+64<wP:=by have:=r.un;lia
def T4:TA:=λ_ H Q=>Q [] H
def UP(ta:TE)(tr:TA):TA:=λY H Q=>ta Y H λx H1=>tr Y H1 λxs H2=>Q (x::xs) H2
variable {es:T0 zn}
section
variable {e:zn}{t:TA}
def SC:PA X [] T4:=λ_ _ _ _ H Q I h=>iG ⟨[],H,I,.nil,h⟩
def Px(ha:PE X e te)(hr:PA X es t)(hs:A9 X e es:=by rfl):PA X (e::es) (UP te t):=by intro pos Xn s Y H Q I h;rw[hs];show Ch _ _ (spliced ((pc,No e X.env)::wv pos (Tk es X.env))) _ _ s;refine g9 (rR (ha Xn s Y H _ I h) λu s1 zz=>x5 zz λx H1 I1 r1 q1=>?_);exact rR (hr pos Xn s1 Y H1 _ I1 q1) λus s2 zz=>x5 zz λxs H2 I2 r2 q2=>⟨x::xs,H2,I2,.cons r1 r2,q2⟩
def Wc(t:TA):TE:=λY H Q=>t Y H λxs H1=>xs.length<=Uf/\∀p,H1 p=Fa->Q (.ref p) (upd H1 p (.tup xs))
def Wq(t:TA):TE:=λY H Q=>t Y H λxs H1=>xs.length<=Uf/\∀p,H1 p=Fa->Q (.ref p) (upd H1 p (.lst xs))
def RU{x1}(h:PA X es t):PE X (.Tuple es x1 pos) (Wc t):=by intro Xn s Y H Q I hq;refine wpAny_Tuple_spliced (rR (h pos Xn s Y H _ I hq) λus s1 ⟨xs,H1,I1,r,z,q⟩=>⟨by rw[<-r.length];exact z,?_⟩);have hf:H1 s1.heap.objs.size=Fa:=I1.mH.fresh (dq _);refine⟨.ref s1.heap.objs.size,upd H1 s1.heap.objs.size (.tup xs),I1.laid (t':=s1.toks) (λb u e=>dg _ e) (dq _) ?_,Z',q _ hf⟩;exact⟨z,us,r,⟨_,dJ _ Z',Z',⟨_,Z'⟩,Z'⟩⟩
def S6(h:PA X es t):PE X (.List es pos) (Wq t):=by intro Xn s Y H Q I hq;refine wpAny_List_spliced (rR (h pos Xn s Y H _ I hq) λus s1 ⟨xs,H1,I1,r,z,q⟩=>⟨by rw[<-r.length];exact z,?_⟩);have hf:H1 s1.heap.objs.size=Fa:=I1.mH.fresh (dq _);refine⟨.ref s1.heap.objs.size,upd H1 s1.heap.objs.size (.lst xs),I1.laid (t':=s1.toks) (λb u e=>dg _ e) (dq _) ?_,Z',q _ hf⟩;exact⟨z,us,0,r,dJ _ Z'⟩
end
abbrev Sp:=T0 V->Hp->VK->XK->Prop
abbrev KN:=T0 Env->Hp->Sd->XK->Vl->Sd->Prop
structure Hq(P:Pg)(w:Wo)(K:qk)(mg:QQZ)(base:Go)(A:Ar)(outer:List Env)(s:Sd)(H:Hp):Prop where
 frames:A.frames=ga outer
 mod:Mod K mg base
 bs:∀b o,base.get? b=ga o->s.heap.get? b=ga o/\H b=Fa
 nO:base.objs.size<=s.heap.objs.size
 nj:s.heap.FunFrames base outer
 nX:∀b∈vZ outer,H b=Fa
 mH:yp P w H s.heap
 bare:XXj s.gens
def CE(outer:T0 Env)(P:Pg)(w:Wo)(H:Hp)(s:Sd)(Q:VK)(u:Vl)(s':Sd):Prop:=
 ∃v H',s'.os=s.os/\XXj s'.gens/\Un (vZ outer) [] H H' s.heap s'.heap/\yp P w H' s'.heap/\qy v u/\Q v H'
def CR(CX:KN)(outer:T0 Env)(P:Pg)(w:Wo)(H:Hp)(s:Sd)(Q:VK)(E:XK)(r:Result)(s':Sd):Prop:=
 match r with
 | .ok (.ret u)=>CE outer P w H s Q u s'
 | .ok _=>False
 | .error e=>CX outer H s E e s'
structure xl(P:Pg)(w:Wo)(K:qk)(mg:QQZ)(base:Go)(CX:KN)(k:Nat)(f:lf)(fd:Rs)(ps:QQQ)(sp:Sp):Prop where
 len:∀vs H Q E,sp vs H Q E->vs.length=ps.length
 run:∀(A:Ar) (outer:List Env) (s:Sd) (H:Hp) (args:Args) (us:List Vl) (vs:List V) (Q:VK) (E:XK),rS k A->Hq P w K mg base A outer s H->BindsTo s fd args (ps.zip us)->qw vs us->sp vs H Q E->
  XXg (pi P w) A (.call (.ref f) args) (CR CX outer P w H s Q E) s
def Hq.make{K:qk}(e:Hq P w K mg base A outer s H)(C:lf)(us:T0 Vl)(kw:T0 (Str×Vl)):
  Hq P w K mg base (A.under (.builtin "type.__call__" ⟨.ref C::us,kw⟩)) outer s H:=⟨by first|exact e.frames|(simpa [Around.under,Code.envs,Code.isFrame,pushEnvs]using e.frames),e.mod,e.bs,e.nO,e.nj,e.nX,e.mH,e.bare⟩
variable {s':Sd}
section
variable {Y:St}
def Inv.nR(I:Inv X Xn Y H s):Hq X.prog X.w X.K X.mg X.base X.A X.stack s H:=
 ⟨I.ok.frames,I.ok.mod,I.bs,dZ I.ok.nO I.sz,I.stack,I.nv,I.mH,I.bare⟩
def Inv.after{Q:VK}{u:Vl}(I:Inv X Xn Y H s)(h:CE X.stack X.prog X.w H s Q u s'):EP X Xn Y Q u s':=by obtain⟨v,H',os,bare,un,mH,r,q⟩:=h;obtain⟨hh,g,d,t,os'⟩:=s';obtain rfl:os'=s.os:=os;exact⟨v,H',I.call (h':=hh) (g':=g) (d':=d) (t':=t) (ch:=[]) un mH bare (λb z=>absurd z (by simp)),r,q⟩
end
def TR(sp:Sp)(Yf:T0 V)(E:XK)(t:TA):TE:=λY H Q=>t Y H λvs H1=>sp (vs++Yf) H1 Q E
def UM(C:lf)(sp:Sp)(Yf:T0 V)(E:XK)(t:TA):TE:=λY H Q=>t Y H λvs H1=>∀x dx,H1 x=Fa->H1 dx=Fa->dx≠x->
 sp (.ref x::(vs++Yf)) (upd (upd H1 dx (.own x)) x (.ins C dx [])) (λv H2=>v=.mC/\Q (.ref x) H2) E
def uK(K:qk)(fd:Rs)(ps:QQQ)(ds:T0 Vl):Prop:=
 ∀(s:Sd) (us:T0 Vl),K.In s.heap->(us++ds).length=ps.length->BindsTo s fd ⟨us,[]⟩ (ps.zip (us++ds))
def uK.all{K:qk}{fd:Rs}{ps:QQQ}(h:∀us:T0 Vl,us.length=ps.length->bindArgs fd ⟨us,[]⟩=pure (ps.zip us)):uK K fd ps []:=λs us _ hl=>by rw[eN]at hl ⊢;exact .of_eq (h us hl)
def BW(CX:KN)(X:Cx)(E:XK):Prop:=∀(Xn:QQY) (Y:St) (H:Hp) (s:Sd) (e:Vl) (s':Sd),Inv X Xn Y H s->CX X.stack H s E e s'->X.xe e s'
variable {CX:KN}{k:Nat}{fd:Rs}{ps:QQQ}{sp:Sp}{Yf:T0 V}{ds:T0 Vl}{m:Str}{p Xq:Pos}
section
variable {f:lf}{E:XK}{x:Str}{e o:zn}{t:TA}
def FE{Xn:QQY}{Q:VK}(F:xl X.prog X.w X.K X.mg X.base CX k f fd ps sp)(hr:rS k X.A)(hb:uK X.K fd ps ds)(hd:qw Yf ds)(hx:BW CX X E) (I:Inv X Xn Y H s) (r:qw vs us) (h:sp (vs++Yf) H Q E):Ch (pi X.prog X.w) X.A (call (.ref f) us) (EP X Xn Y Q) X.xe s:=by
 have r2:qw (vs++Yf) (us++ds):=r.append hd;have hl:(us++ds).length=ps.length:=by rw[<-r2.length];exact F.len _ _ _ _ h
 refine iN (gT (F.run X.A X.stack s H ⟨us,[]⟩ (us++ds) (vs++Yf) Q E hr I.nR (hb s us I.mR hl) r2 h) λr s' hq=>?_);cases r with
 | error e=>exact hx Xn Y H s e s' I hq
 | ok fl=>
  cases fl with
  | ret u=>exact I.after hq
  | next=>exact False.elim hq
  | brk=>exact False.elim hq
  | cont=>exact False.elim hq
def OQ(F:xl X.prog X.w X.K X.mg X.base CX k f fd ps sp)(hr:rS k X.A)(hg:Gl X x)(hm:X.mg x=ga (.ref f))(hk:W.keepIn X.K (.ref f)=Db)(hb:uK X.K fd ps ds)(hd:qw Yf ds)(hx:BW CX X E) (ha:PA X (e::es) t) (XF:zb x:=by decide) (he:A9 X e es:=by rfl) (XC:CP X pos es:=by rfl):
  PE X (.Call (.Name x p) (e::es) [] pos) (TR sp Yf E t):=by
 intro Xn s Y H Q I h;refine gh (wG I hg hm ?_ XF);refine iO (h₀:=X.base) I.ok.mod.nW hk (rR (ha pos Xn s Y H _ I h) λus s1 zz=>x5 zz λvs H1 I1 r q=>⟨I1.mR,?_⟩) he XC;exact FE F hr hb hd hx I1 r q
structure Mk(K:qk)(C f:lf):Prop where
 makes:W.makesIn K C=Db
 init:W.findIn K (.ref C) "__init__"=ga (ga (.ref f))
 fn:W.isFn K (.ref f)=Db
 kp:W.keepIn K (.ref C)=Db
def MF{Xn:QQY}{Q:VK}(M:Mk X.K C f)(F:xl X.prog X.w X.K X.mg X.base CX k f fd ps sp)(hr:rS (k+1) X.A)(hb:uK X.K fd ps ds)(hd:qw Yf ds) (hx:BW CX X E) (I:Inv X Xn Y H s) (r:qw vs us) (h:∀x dx,H x=Fa->H dx=Fa->dx≠x->sp (.ref x::(vs++Yf)) (upd (upd H dx (.own x)) x (.ins C dx [])) (λv H2=>v=.mC/\Q (.ref x) H2) E):
  Ch (pi X.prog X.w) X.A (call (.ref C) us) (EP X Xn Y Q) X.xe s:=by
 have hq:=h (s.heap.objs.size+1) s.heap.objs.size (I.mH.fresh (hU _)) (I.mH.fresh (dq _)) (dU (fG _));have I2:=Inv.made (C:=C) I;have r2:qw (V.ref (s.heap.objs.size+1)::(vs++Yf)) (Value.ref (s.heap.objs.size+1)::(us++ds)):=.cons Z' (r.append hd);have hl:(Value.ref (s.heap.objs.size+1)::us++ds).length=ps.length:=by have e:=r2.length;rw[F.len _ _ _ _ hq]at e;exact e.symm
 refine iN (Lm (f:=f) I.mR M.makes M.init (fj.mp M.fn) (gT (F.run _ X.stack _ _ ⟨Value.ref (s.heap.objs.size+1)::us,[]⟩ (Value.ref (s.heap.objs.size+1)::(us++ds)) _ _ E (hr.make C us [])
  (I2.nR.make C us []) (hb _ (Value.ref (s.heap.objs.size+1)::us) I2.mR hl) r2 hq) λr s' Y6=>?_))
 cases r with
 | error e=>exact hx Xn Y _ _ e s' I2 Y6
 | ok fl=>
  cases fl with
  | ret u=>obtain⟨v,H',I3,rv,ev,q3⟩:=I2.after Y6;subst ev;exact⟨rv,⟨V.ref (s.heap.objs.size+1),H',I3,Z',q3⟩⟩
  | next=>exact False.elim Y6
  | brk=>exact False.elim Y6
  | cont=>exact False.elim Y6
def Qw(M:Mk X.K C f)(F:xl X.prog X.w X.K X.mg X.base CX k f fd ps sp)(hr:rS (k+1) X.A)(hg:Gl X x)(hm:X.mg x=ga (.ref C))(hb:uK X.K fd ps ds)(hd:qw Yf ds)(hx:BW CX X E) (ha:PA X (e::es) t) (XF:zb x:=by decide) (he:A9 X e es:=by rfl) (XC:CP X pos es:=by rfl):
  PE X (.Call (.Name x p) (e::es) [] pos) (UM C sp Yf E t):=by
 intro Xn s Y H Q I h;refine gh (wG I hg hm ?_ XF);refine iO (h₀:=X.base) I.ok.mod.nW M.kp (rR (ha pos Xn s Y H _ I h) λus s1 zz=>x5 zz λvs H1 I1 r q=>⟨I1.mR,?_⟩) he XC;exact MF M F hr hb hd hx I1 r q
end
variable {g:T0 Vl→T0 Vl→T0 Vl}{gV:T0 V→T0 V→T0 V}{ks:QQQ}{kpos:Pos}{kws:T0 XXb}{tk:TA}{nm:Option Str}
section
variable {f:lf}{E:XK}{x:Str}{e o:zn}{t:TA}
end
structure sT(N P:QQQ)(sc:XXa):Prop where
 kind:sc.kind=.function
 co:sc.isCoroutine=pc
 gen:sc.isGenerator=pc
 nd:N.Nodup
 pre:N.take P.length=P
 par:∀x∈P,sc.names.lookup x=ga .local\/sc.names.lookup x=ga .cell
 oU:∀y∈sc.names,y.2≠.free
theorem Ea{kindOf:Str->Option wS}{x:Str}:∀{binds:T0 (Str×Vl)} {m:QQZ},(∀v,(x,v)∉binds)->bindL kindOf binds m x=m x
 | [],_,_=>rfl
 | (n,v)::r,m,h=>by
  unfold bindL;rw[Ea λw hw=>h w (dF _ hw)];split
  .have:x≠n:=by rintro rfl;exact h v dH
   simp[this]
  .rfl
theorem Dv{kindOf:Str->Option wS}{x:Str}:∀{binds:T0 (Str×Vl)} {m:QQZ},(∀v,(x,v)∉binds)->bindC kindOf binds m x=m x
 | [],_,_=>rfl
 | (n,v)::r,m,h=>by
  unfold bindC;rw[Dv λw hw=>h w (dF _ hw)];split
  .rfl
  .have:x≠n:=by rintro rfl;exact h v dH
   simp[this]
theorem D4{kindOf:Str->Option wS}{x:Str}{v:Vl}:∀{P:QQQ} {vs:T0 Vl} {i:Nat} {m:QQZ},P.Nodup->P[i]?=ga x->vs[i]?=ga v->kindOf x=ga .local->
  bindL kindOf (P.zip vs) m x=ga v
 | [],_,_,_,_,h,_,_=>by simp at h
 | _::_,[],_,_,_,_,h,_=>by simp at h
 | p::P,w::vs,0,m,nd,h1,h2,hk=>by simp at h1 h2;subst h1;subst h2;show bindL kindOf ((p,w)::P.zip vs) m p=_;unfold bindL;rw[Ea λv hv=>(dR.mp nd).1 (jL hv).1,df hk];simp
 | p::P,w::vs,i+1,m,nd,h1,h2,hk=>by show bindL kindOf ((p,w)::P.zip vs) m x=_;unfold bindL;exact D4 (i:=i) (dR.mp nd).2 (by simpa using h1) (by simpa using h2) hk
theorem DZ{kindOf:Str->Option wS}{x:Str}{v:Vl}:∀{P:QQQ} {vs:T0 Vl} {i:Nat} {m:QQZ},P.Nodup->P[i]?=ga x->vs[i]?=ga v->kindOf x≠ga .local->
  bindC kindOf (P.zip vs) m x=ga v
 | [],_,_,_,_,h,_,_=>by simp at h
 | _::_,[],_,_,_,_,h,_=>by simp at h
 | p::P,w::vs,0,m,nd,h1,h2,hk=>by simp at h1 h2;subst h1;subst h2;show bindC kindOf ((p,w)::P.zip vs) m p=_;unfold bindC;rw[Dv λv hv=>(dR.mp nd).1 (jL hv).1,de hk];simp
 | p::P,w::vs,i+1,m,nd,h1,h2,hk=>by show bindC kindOf ((p,w)::P.zip vs) m x=_;unfold bindC;exact DZ (i:=i) (dR.mp nd).2 (by simpa using h1) (by simpa using h2) hk
noncomputable def start(N:QQQ)(vs:T0 V):St:=vs.map ga++List.replicate (N.length - vs.length) Fa
noncomputable def u9(CX:KN)(P:Pg)(w:Wo)(K:qk)(mg:QQZ)(base:Go)(N:QQQ)(qual:Str)(scope:XXa)(f:lf)(cd:Vl)(A:Ar)(outer:T0 Env)(s:Sd)(H:Hp)(E:XK):Cx where
 prog:=P
 w:=w
 K:=K
 mg:=mg
 base:=base
 A:=A.deeper (sK qual scope s.heap.objs.size f cd)
 N:=N
 s₀:=s
 H₀:=H
 env:=sK qual scope s.heap.objs.size f cd
 outer:=outer
 stack:=sK qual scope s.heap.objs.size f cd::outer
 ex:=[]
 calm:=true
 fn:=λ_=>Db
 pn:=[]
 xe:=λe s'=>Ch (pi P w) (A.deeper (sK qual scope s.heap.objs.size f cd)) (leaving (sK qual scope s.heap.objs.size f cd) e) (λ_ Z7=>CX outer H s E e Z7) (λe' Z7=>CX outer H s E e' Z7) s'
def G0{sc:XXa}{n:Nat}{x:Str}(h:sc.names.lookup x=ga .cell):∃c,(cellsFrom n sc.names []).lookup x=ga c:=by have q:=lC sc.names n [] (.inl h);exact ir.mp q
def JV{CX:KN}{K:qk}{qual:Str}{f:lf}{cd:Vl}{A:Ar}{E:XK}{vs:T0 V} (S:sT N ps scope) (hd:A.handled=Fa) (e0:Hq P w K mg base A outer s H) (hl:vs.length=ps.length) (r:qw vs us) (x:InCallC s s.heap.objs.size (bindL (sK qual scope s.heap.objs.size f cd).kindOf (ps.zip us) λ_=>Fa) (cellsFrom (s.heap.objs.size+1) scope.names []) (bindC (sK qual scope s.heap.objs.size f cd).kindOf (ps.zip us) λ_=>Fa) s1):
  Inv (u9 CX P w K mg base N qual scope f cd A outer s H E) [] (start N vs) H s1:=by
 have XC:ps.length<=N.length:=by have:=eI List.length S.pre;rw[fg]at this;lia
 obtain⟨h1,tk,rfl,hk⟩:=x.done;have noA:∀b:lf,b∉(u9 CX P w K mg base N qual scope f cd A outer s H E).ex:=λb z=>absurd (show b∈([]:QXQ)from z) (by simp);refine⟨⟨e0.mod,S.kind,Z',Z',dq _,λy z c h1 h2=>?_,λy hy=>?_,λy c _ h=>?_,λ_=>hd,Around.frames_deeper e0.frames,.inr ⟨Z',Z'⟩,λb z=>absurd z (noA b),e0.bs,e0.nO,λb _ _=>noA b,λb z=>absurd z (noA b),e0.nj,e0.nX⟩,Z',e0.bare,Un.kept hk,⟨_,x.toInCall.ns,λi y v h1 h2 h3=>?_⟩,λy c h=>⟨_,x.cell y c h⟩,e0.mH.fresh (dq _),λy c h=>?_,λp hp=>absurd (show p∈([]:QQY)from hp) (by simp),e0.mH.kept hk,?_⟩
 .exact name_of_addr x.apart (gX h1) (gX h2)
 .have hy:scope.names.lookup y=ga .cell\/scope.names.lookup y=ga .free:=hy;rcases hy with hy|hy
  .exact G0 hy
  .exact absurd Z' (S.oU _ (gX hy))
 .exact kD (x.above y c (gX h))
 .have hi:i<vs.length:=by
   unfold start at h2;by_cases hi:i<vs.length
   .exact hi
   .rw[eL (by simpa using hi)]at h2;rw[jI]at h2;split at h2<;>cases h2
  have ha:vs[i]?=ga v:=by
   unfold start at h2;rw[eV (by simpa using hi),dA]at h2;cases e:vs[i]? with
   | none=>rw[e]at h2;cases h2
   | some a=>rw[e]at h2;cases h2;rfl
  obtain⟨u,hu,rv⟩:=r.get ha;have hp:ps[i]?=ga y:=by rw[<-S.pre,List.getElem?_take_of_lt (by lia)];exact h1
  have ndP:ps.Nodup:=by rw[<-S.pre];exact S.nd.sublist (List.take_sublist _ _)
  refine⟨u,rv,?_⟩;rcases S.par y (fk hp)with k|k
  .exact .inl ⟨k,D4 ndP hp hu k⟩
  .obtain⟨c,e⟩:=G0 (n:=s.heap.objs.size+1) k;refine .inr ⟨.inl k,c,e,?_⟩;have q:=x.cell y c e;rw[DZ ndP hp hu (by show scope.names.lookup y≠_;rw[k];decide)]at q;exact q
 .exact e0.mH.fresh (kD (x.above y c (gX h)))
 .unfold start;show _=N.length;rw[c9,cW,gG];lia
def Mg{CX:KN}{P:Pg}{w:Wo}{K:qk}{mg:QQZ}{base:Go}{f:lf}{dV kV X3 pm Xy ct oc:Vl}{an od:Option lf} {Ym:Array (Option Vl)} {N ps:QQQ} {sp:Sp} (lk:K.lookup f=ga ⟨oc,od,.func (W.fnOf name qual params body scope dV kV X3 pm an Xy ct),Ym⟩) (YE:W.codeIn K Xy qual=Db) (S:sT N ps scope) (len:∀vs H Q E,sp vs H Q E->vs.length=ps.length) (XH:∀(A:Ar) (outer:T0 Env) (s:Sd) (H:Hp) (vs:T0 V) (Q:VK) (E:XK),rS k (A.deeper (sK qual scope s.heap.objs.size f Xy))->sp vs H Q E->
   ∃t,B7 (u9 CX P w K mg base N qual scope f Xy A outer s H E) body t/\t {nx:=λ_ H'=>Q .mC H',rt:=Q} (start N vs) H):
  xl P w K mg base CX (k+1) f (W.fnOf name qual params body scope dV kV X3 pm an Xy ct) ps sp:=by
 refine⟨len,λA outer s H args us vs Q E hr e0 hb r YS=>?_⟩;have hl:=len _ _ _ _ YS;have KX:K.In s.heap:=e0.mod.nW.keeps λb o e=>(e0.bs b o e).1;have lim:s.heap.NoLimit:=e0.mod.nolimit.keeps λb o e=>(e0.bs b o e).1;have hkind:∀y∈ps.zip us,scope.names.lookup y.1=ga .local\/(scope.names.lookup y.1=ga .cell/\((cellsFrom (s.heap.objs.size+1) scope.names []).lookup y.1).isSome=Db):=λ⟨n,v⟩ hy=>by
  rcases S.par n (jL hy).1 with q|q
  .exact .inl q
  .exact .inr ⟨q,lC _ _ _ (.inl q)⟩
 refine codeAny_call_function hr.depth (KX _ _ lk) Z' S.co S.gen Z' (W.codeRec_of KX YE) (hb _ _ _ _ ?_);refine wpAny_newFunctionEnv_cells S.kind hkind λenv he s1 x=>?_;subst he;refine⟨lim.keeps x.toInCall.keep,codeAny_func ?_⟩;obtain⟨t,ht,hq⟩:=XH A outer s H vs Q E (hr.deeper _) YS;have I:Inv (u9 CX P w K mg base N qual scope f Xy A outer s H E) [] (start N vs) H s1:=JV S hr.hd e0 hl r x;refine eC (ht [] s1 (start N vs) H _ I hq) (λfl s' hs=>?_) λe s' hs=>hs;have Xs:∀{σ':St} {H':Hp} {v:V} {u:Vl},Inv (u9 CX P w K mg base N qual scope f Xy A outer s H E) [] σ' H' s'->qy v u->Q v H'->CE outer P w H s Q u s':=
  λ{σ' H' v u} J rv q=>⟨v,H',J.os,J.bare,J.base,J.mH,rv,q⟩
 cases fl with
 | ret u=>obtain⟨v,σ',H',J,rv,q⟩:=hs;exact Xs J rv q
 | next=>obtain⟨σ',H',J,q⟩:=hs;exact Xs (v:=V.mC) (u:=Value.none) J Z' q
 | brk=>obtain⟨_,_,_,q⟩:=hs;exact False.elim q
 | cont=>obtain⟨_,_,_,q⟩:=hs;exact False.elim q
variable {id T:String}{r:T0 V→Hp→VK→Prop}
section
variable {x:Str}{e:zn}{t:TA}
def WN(r:T0 V->Hp->VK->Prop)(t:TA):TE:=λY H Q=>t Y H λvs H1=>r vs H1 Q
def LI(hc:yt X (.builtin id) r)(hg:Gl X x)(hm:X.mg x=Fa)(hv:Tl x=ga (.builtin id))(ha:PA X (e::es) t)(hn:x≠"__name__":=by decide)(XF:zb x:=by decide)
  (he:A9 X e es:=by rfl) (XC:CP X pos es:=by rfl):PE X (.Call (.Name x p) (e::es) [] pos) (WN r t):=by
 intro Xn s Y H Q I h;refine gh (vW I hg hm hv ?_ hn XF);exact iP (rR (ha pos Xn s Y H _ I h) λus s1 zz=>x5 zz λvs H1 I1 r1 q1=>hc Xn s1 Y H1 vs us Q I1 r1 q1) he XC
def Kw(hc:yt X (.type T) r)(hg:Gl X x)(hm:X.mg x=Fa)(hv:Tl x=ga (.type T))(ha:PA X (e::es) t)(hn:x≠"__name__":=by decide)(XF:zb x:=by decide)
  (he:A9 X e es:=by rfl) (XC:CP X pos es:=by rfl):PE X (.Call (.Name x p) (e::es) [] pos) (WN r t):=by
 intro Xn s Y H Q I h;refine gh (vW I hg hm hv ?_ hn XF);exact fz (rR (ha pos Xn s Y H _ I h) λus s1 zz=>x5 zz λvs H1 I1 r1 q1=>hc Xn s1 Y H1 vs us Q I1 r1 q1) he XC
end
end L2
namespace HT
open PySem PyProof.Rows
section
open PySem.SeqAt
open PySem.AutoSeq1 (wpAny_loadPart')
open PySem.MeetsSeq PySem.MeetsSeq2 PySem.MeetsSeq3
end
variable {prog:Pg}{w:Wo}{A:Ar}{E:QQX}{s:Sd}
def Ox{vs ws:T0 Vl}{Q:QQX}(ht:IsTup s.heap t vs.toArray)(hb:IsTup s.heap b ws.toArray)(hv:vs≠[]) (h1:ws=[]->Q (.ref t) s) (h2:ws≠[]->Q (.ref s.heap.objs.size) {s with heap:=s.heap.push {cls:=.type "tuple",data:=.seq (vs++ws).toArray}})
  (hsz:vs.length+ws.length<=Uf):Ch (pi prog w) A (dL .Add (.ref t) (.ref b)) Q E s:=by
 obtain⟨⟨cls,dd,data,sl⟩,ho,hc,n,hd⟩:=id ht;obtain⟨⟨cls2,dd2,data2,sl2⟩,ho2,hc2,n2,hd2⟩:=id hb;simp only at hc hd hc2 hd2;subst hc hd hc2 hd2;have e:vs.toArray++ws.toArray=(vs++ws).toArray:=by simp
 by_cases hw:ws=[]
 .exact kG ⟨_,ho,Z'⟩ ⟨_,ho2,Z'⟩ lD seq_tuple_add jS jJ (jw _ _)
   (tuple_addW1 t b vs.toArray ws.toArray n n2 dd dd2 sl sl2 (by simpa using hv) (by simp[hw])) ⟨ho,ho2,h1 hw⟩
 .refine kG ⟨_,ho,Z'⟩ ⟨_,ho2,Z'⟩ lD seq_tuple_add jS jJ (jw _ _)
   (tuple_addW2 t b vs.toArray ws.toArray n n2 dd dd2 sl sl2 (by simpa using hv) (by simpa using hw) (by rw[dB,dB];exact hsz)) ⟨ho,ho2,?_⟩
  rw[e];exact h2 hw
noncomputable def sW(n d:Nat):Option Int->Nat
 | none=>d
 | some v=>if v<0 then(v+(n:Int)).toNat else min v.toNat n
def BL(n d:Nat):sW n d Fa=d:=rfl
def IE(n d k:Nat):sW n d (ga (k:Int))=min k n:=by show(if (k:Int)<0 then((k:Int)+(n:Int)).toNat else min (k:Int).toNat n)=min k n;rw[de (by lia),gL]
def Tf(n d:Nat)(hd:d<=n)(o:Option Int):sW n d o<=n:=by
 cases o with
 | none=>exact hd
 | some v=>
  show(if v<0 then(v+(n:Int)).toNat else min v.toNat n)<=n;by_cases hv:v<0
  .rw[df hv];lia
  .rw[de hv];exact Nat.min_le_right _ _
def IX(v:Int)(n d:Nat):(if v<0 then max (v+(n:Int)) 0 else min v (n:Int))=((sW n d (ga v):Nat):Int):=by
 show(if v<0 then max (v+(n:Int)) 0 else min v (n:Int))=(((if v<0 then(v+(n:Int)).toNat else min v.toNat n):Nat):Int);by_cases hv:v<0
 .simp only[df hv];lia
 .simp only[de hv];lia
def Hc(lo hi:Option Int)(n:Nat):Builtin.Slice.sliceAdjust lo hi 1 (n:Int)=(((sW n 0 lo:Nat):Int),((sW n n hi:Nat):Int)):=by
 have h1:¬((1:Int)<0):=by lia
 unfold Builtin.Slice.sliceAdjust;simp only[h1,lE];refine Prod.ext ?_ ?_
 .cases lo with
  | none=>rfl
  | some v=>exact IX v n 0
 .cases hi with
  | none=>rfl
  | some v=>exact IX v n n
def HB(i j:Nat):Builtin.Slice.slicePlaces (i:Int) (j:Int) 1=j - i:=by
 unfold Builtin.Slice.slicePlaces;have h1:(1:Int)>0:=by lia
 simp only[h1,iY,Int.ediv_one];split<;>lia
def Bw{Q:Option Int->Sd->Prop}(p:IsPart v o)(h:Q o s):Ch (pi prog w) A (Builtin.Slice.slicePartIndex v) Q E s:=by
 cases p with
 | none=>exact slicePart_none h
 | int i t=>exact slicePart_int h
def we{sl:lf}{vl vu:Vl}{lo hi:Option Int}{Q:Int×Int×Nat->Sd->Prop}(hs:s.heap.IsSliceOf sl vl vu .none)(pl:IsPart vl lo)(pu:IsPart vu hi) (h:Q (((sW n 0 lo:Nat):Int),1,sW n n hi - sW n 0 lo) s):Ch (pi prog w) A (Builtin.Slice.sliceApplied (.ref sl) (pure (n:Int))) Q E s:=by
 obtain⟨os,Z8,ZS,YG⟩:=id hs;unfold Builtin.Slice.sliceApplied Builtin.Slice.sliceFields;refine cX (cX (eZ Z8 YG (x:=vl) Z' (cX (eZ Z8 YG (x:=vu) Z' (cX (eZ Z8 YG (x:=.none) Z' (dw ?_)))))));refine cX (slicePart_none ?_);show Ch _ _ (if ((1:Int)==0)=Db then _ else _) _ _ s;rw[de (by decide)];refine cX (Bw pl (cX (Bw pu (cX (dw ?_)))));show Ch _ _ (match Builtin.Slice.sliceAdjust lo hi 1 (n:Int)with|(lo,hi)=>pure (lo,(1:Int),Builtin.Slice.slicePlaces lo hi 1)) _ _ s;rw[Hc lo hi n];show Ch _ _ (pure (((sW n 0 lo:Nat):Int),(1:Int),Builtin.Slice.slicePlaces ((sW n 0 lo:Nat):Int) ((sW n n hi:Nat):Int) 1)) _ _ s;rw[HB];exact dw h
def K9(xs:Array Vl)(i k:Nat):((List.range k).filterMap λ(m:Nat)=>xs[((i:Int)+(m:Int)*1).toNat]?).toArray=((xs.toList.drop i).take k).toArray:=by
 have e:(λ(m:Nat)=>xs[((i:Int)+(m:Int)*1).toNat]?)=λm=>xs[i+m]?:=by
  funext m;have:((i:Int)+(m:Int)*1).toNat=i+m:=by lia
  rw[this]
 rw[e];have:=pick_run xs i k;rw[List.filterMap_map]at this;have e2:((λx=>xs[x]?)∘λx=>i+x)=λm=>xs[i+m]?:=rfl;rw[e2]at this;rw[this]
def zt{t sl:lf}{vl vu:Vl}{lo hi:Option Int}{Q:QQX}(ht:IsTup s.heap t Xo)(hs:s.heap.IsSliceOf sl vl vu .none)(pl:IsPart vl lo)(pu:IsPart vu hi) (hw:¬(sW Xo.size 0 lo=0/\sW Xo.size Xo.size hi=Xo.size)) (h:Q (.ref s.heap.objs.size) {s with heap:=s.heap.push {cls:=.type "tuple",data:=.seq ((Xo.toList.drop (sW Xo.size 0 lo)).take (sW Xo.size Xo.size hi - sW Xo.size 0 lo)).toArray}})
  (hsz:Xo.size<=Uf):Ch (pi prog w) A (Y' (.ref t) (.ref sl)) Q E s:=by
 have YN:sizeOk (.seq ((Xo.toList.drop (sW Xo.size 0 lo)).take (sW Xo.size Xo.size hi - sW Xo.size 0 lo)).toArray):=by show((Xo.toList.drop (sW Xo.size 0 lo)).take (sW Xo.size Xo.size hi - sW Xo.size 0 lo)).toArray.size<=Uf;rw[dB,fg,gf,iV];lia
 have hj:sW Xo.size Xo.size hi<=Xo.size:=Tf _ _ (dq _) hi;obtain⟨os,Z8,ZS,YG⟩:=id hs;have hTs:s.TypeIs (.ref sl) "slice":=⟨os,Z8,ZS⟩;unfold Y'
 try with_reducible refine e9 ?_
 first|refine cX (dw ?_)|skip
 refine cX (jk ht.typeIs (by decide) ?_);refine cX (fF (name:=Str.ofString "__getitem__") ht.typeIs fA
  (gg fA ht.typeIs kr ?_ (kH _ _)))
 show Ch _ _ (Builtin.Tuple.tupleItemsOf (.ref t)>>=_) _ _ s;refine cX (tupleItemsOf_ ht ?_);refine cX (jx hTs ?_);rw[df (by decide)];refine cX (we hs pl pu ?_);have hno:¬((((sW Xo.size 0 lo:Nat):Int)==0&&(1:Int)==1&&(sW Xo.size Xo.size hi - sW Xo.size 0 lo)==Xo.size)=Db):=by intro q;rw[dY,dY]at q;have q1:((sW Xo.size 0 lo:Nat):Int)=0:=ZB q.1.1;have q2:sW Xo.size Xo.size hi - sW Xo.size 0 lo=Xo.size:=ZB q.2;exact hw ⟨by lia,by lia⟩
 show Ch _ _ (if (((sW Xo.size 0 lo:Nat):Int)==0&&(1:Int)==1&&(sW Xo.size Xo.size hi - sW Xo.size 0 lo)==Xo.size)=Db then _ else _) _ _ s;rw[de hno,K9]
 first
  | exact cX (m:=Builtin.Tuple.tupleExact _) (fS (dw ⟨_,rfl,dw h⟩) YN)
  | exact cX (m:=Builtin.Tuple.tupleExact _) (fS (cX (dw (dw ⟨_,rfl,dw h⟩))) YN)
  | exact cX (cX (m:=Builtin.Tuple.tupleExact _) (fS (dw (dw ⟨_,rfl,dw h⟩)) YN))
  | exact cX (cX (m:=Builtin.Tuple.tupleExact _) (fS (dw ⟨_,rfl,dw h⟩) YN))
end HT
namespace L2
abbrev TO:=St->Hp->(Option Int->Hp->Prop)->Prop
def PO(X:Cx)(e:Option zn)(t:TO):Prop:=
 ∀(Xn:QQY) (s:Sd) (Y:St) (H:Hp) (Q:Option Int->Hp->Prop),Inv X Xn Y H s->t Y H Q->
  Ch (pi X.prog X.w) X.A (evalPart e X.env) (λu s'=>∃o H',Inv X Xn Y H' s'/\IsPart u o/\Q o H') X.xe s
def Qh:TO:=λ_ H Q=>Q Fa H
def Va(t:TE):TO:=λY H Q=>t Y H λx H1=>∃i,x=.int i/\Q (ga i) H1
variable {X:Cx}{e:zn}{te:TE}{lo hi:Option zn}{tl th:TO}{pos p2:Pos}
def Pe:PO X Fa Qh:=by intro Xn s Y H Q I h;rw[evalPart_none];exact dw ⟨Fa,H,I,.none,h⟩
def Qa(h:PE X e te):PO X (ga e) (Va te):=by intro Xn s Y H Q I hw;rw[evalPart_some];refine rR (h Xn s Y H _ I hw) λu s1 zz=>x5 zz λx H1 I1 r1 q1=>?_;obtain⟨i,rfl,q⟩:=q1;obtain⟨t,rfl⟩:=r1;exact⟨ga i,H1,I1,.int i t,q⟩
def U7(X:Cx)(r:V->Option Int->Option Int->Hp->VK->Prop):Prop:=
 ∀(Xn:QQY) (s:Sd) (Y:St) (H:Hp) (x:V) (v vl vu:Vl) (lo hi:Option Int) (sl:lf) (Q:VK),Inv X Xn Y H s->qy x v->s.heap.IsSliceOf sl vl vu .none->IsPart vl lo->IsPart vu hi->r x lo hi H Q->
  ∃T id,typeLookup (.type T) "__getitem__"=pure (ga (.builtin id))/\s.TypeIs v T/\Ch (pi X.prog X.w) X.A (Y' v (.ref sl)) (EP X Xn Y Q) X.xe s
def W8(r:V->Option Int->Option Int->Hp->VK->Prop)(te:TE)(tl th:TO):TE:=λY H Q=>te Y H λx H1=>tl Y H1 λl H2=>th Y H2 λu H3=>r x l u H3 Q
def L0(hr:U7 X r)(he:PE X e te)(hl:PO X lo tl)(hu:PO X hi th):PE X (.Subscript e (.Slice lo hi Fa p2) pos) (W8 r te tl th):=by intro Xn s Y H Q I h;refine Subscript_ (rR (he Xn s Y H _ I h) λv s1 zz=>x5 zz λx H1 I1 r1 q1=>?_);refine wpAny_Slice (rR (hl Xn s1 Y H1 _ I1 q1) λvl s2 zz=>x5 zz λl H2 I2 pl q2=>rR (hu Xn s2 Y H2 _ I2 q2) λvu s3 zz=>x5 zz λu H3 I3 pu q3=>?_);rw[evalPart_none];refine dw ?_;have I4:Inv X Xn Y H3 {s3 with heap:=s3.heap.push {cls:=.type "slice",data:=.fields #[vl,vu,.none]}}:=I3.kept (t':=s3.toks) λb ob q=>dg _ q;obtain⟨T,id,hT,ht,hg⟩:=hr Xn {s3 with heap:=s3.heap.push {cls:=.type "slice",data:=.fields #[vl,vu,.none]}} Y H3 x v vl vu l u s3.heap.objs.size Q I4 r1 (mq ..) pl pu q3;show Ch (pi X.prog X.w) X.A (subscriptTail e (.Slice lo hi Fa p2) v (.ref s3.heap.objs.size)) (EP X Xn Y Q) X.xe {s3 with heap:=s3.heap.push {cls:=.type "slice",data:=.fields #[vl,vu,.none]}};exact tail_any (ops:=[.ref s3.heap.objs.size,v]) ht hT hg (by with_unfolding_all rfl)
noncomputable def BV(xs:T0 V)(lo hi:Option Int):T0 V:=(xs.drop (HT.sW xs.length 0 lo)).take (HT.sW xs.length xs.length hi - HT.sW xs.length 0 lo)
def Au(xs:T0 V)(lo hi:Option Int):(BV xs lo hi).length<=xs.length:=by unfold BV;rw[fg,gf];lia
def Wx(K:qk):V->Option Int->Option Int->Hp->VK->Prop:=λx lo hi H Q=>∃a xs,x=.ref a/\vo K H a xs/\
 ¬(HT.sW xs.length 0 lo=0/\HT.sW xs.length xs.length hi=xs.length)/\∀p,H p=Fa->Q (.ref p) (upd H p (.tup (BV xs lo hi)))
def RO:U7 X (Wx X.K):=by
 intro Xn s Y H x v vl vu lo hi sl Q I rx hs pl pu h;obtain⟨a,xs,rfl,hx,hw,q⟩:=h;cases rx;obtain⟨its,r,ht,hz⟩:=I.tuple hx;have Xt:its.toArray.size=xs.length:=by rw[dB];exact r.length.symm
 refine⟨"tuple",_,fA.lookup,ht.typeIs,?_⟩;refine HT.zt ht hs pl pu (by rw[Xt];exact hw) ?_ (by rw[Xt];exact hz);rw[Xt];refine⟨.ref s.heap.objs.size,_,I.laid (t':=s.toks) (o:=.tup (BV xs lo hi)) (λb ob q=>dg _ q) (dq _) ?_,Z',q _ (I.mH.fresh (dq _))⟩;exact⟨dZ (Au xs lo hi) hz,_,(r.drop (HT.sW xs.length 0 lo)).take (HT.sW xs.length xs.length hi - HT.sW xs.length 0 lo),EZ.new _ _⟩
def U6(K:qk):R2:=λx y H Q=>∃a b xs ys,x=.ref a/\y=.ref b/\vo K H a xs/\vo K H b ys/\xs≠[]/\xs.length+ys.length<=Uf/\
 (ys=[]->Q (.ref a) H)/\(ys≠[]->∀p,H p=Fa->Q (.ref p) (upd H p (.tup (xs++ys))))
def qw.nE(r:qw xs us):us=[]↔xs=[]:=by
 cases r with
 | nil=>simp
 | cons _ _=>simp
def Pd:xo X (dL .Add) (U6 X.K):=by intro Xn s Y H x y v u Q I rx ry h;obtain⟨a,b,xs,ys,rfl,rfl,ha,hb,hx,hz,q1,q2⟩:=h;cases rx;cases ry;obtain⟨its,r1,p1,_⟩:=I.tuple ha;obtain⟨its2,r2,p2,_⟩:=I.tuple hb;refine HT.Ox p1 p2 (λz=>hx (r1.nE.mp z)) (λz=>⟨.ref a,H,I,Z',q1 (r2.nE.mp z)⟩) (λz=>?_) (by rw[<-r1.length,<-r2.length];exact hz);refine⟨.ref s.heap.objs.size,_,I.laid (t':=s.toks) (o:=.tup (xs++ys)) (λb ob q=>dg _ q) (dq _) ?_,Z',q2 (λw=>z (r2.nE.mpr w)) _ (I.mH.fresh (dq _))⟩;exact⟨by rw[c9];exact hz,_,r1.append r2,EZ.new _ _⟩
noncomputable def D3(n:Nat)(i:Int):Option Nat:=if 0<=i then(if i<n then ga i.toNat else Fa)else if -(n:Int)<=i then ga (i+n).toNat else Fa
noncomputable def wF{α:Type}(xs:List α)(i:Int):Option α:=(D3 xs.length i).bind λj=>xs[j]?
def IR{j:Nat}(h:D3 n i=ga j):seqIndex? i n=ga j/\j<n/\-(n:Int)<=i/\i<n:=by
 unfold D3 at h;by_cases h0:0<=i
 .rw[df h0]at h;by_cases h1:i<n
  .rw[df h1]at h;have e:i.toNat=j:=dv h;exact⟨by rw[ls h0 h1,e],by lia,by lia,h1⟩
  .rw[de h1]at h;cases h
 .rw[de h0]at h;by_cases h1:-(n:Int)<=i
  .rw[df h1]at h;have e:(i+n).toNat=j:=dv h;exact⟨by rw[kI (by lia) h1,e],by lia,h1,by lia⟩
  .rw[de h1]at h;cases h
def EN{α:Type}{xs:List α}{i:Int}{v:α}(h:wF xs i=ga v):∃j,seqIndex? i xs.length=ga j/\xs[j]?=ga v/\j<xs.length/\-(xs.length:Int)<=i/\i<xs.length:=by
 unfold wF at h;cases e:D3 xs.length i with
 | none=>rw[e]at h;cases h
 | some j=>rw[e]at h;obtain⟨h1,h2,h3,h4⟩:=IR e;exact⟨j,h1,h,h2,h3,h4⟩
def uZ{α:Type}{xs:List α}{j:Nat}{v:α}(h:xs[j]?=ga v):wF xs (j:Int)=ga v:=by
 have hj:j<xs.length:=(cZ.mp h).1;have e:D3 xs.length (j:Int)=ga j:=by unfold D3;rw[df (by lia),df (by lia)];simp
 unfold wF;rw[e];exact h
def A8(b:zn):Prop:=∀o i,subscripted b pc o i=operate [o,i] (Y' o i)
def Tr(X:Cx)(r:R2):Prop:=
 ∀(value Xz:zn) (Xn:QQY) (s:Sd) (Y:St) (H:Hp) (x y:V) (v u:Vl) (Q:VK),Inv X Xn Y H s->qy x v->qy y u->r x y H Q->
  subscripted Xz pc v u=operate [v,u] (Y' v u)->Ch (pi X.prog X.w) X.A (subscriptTail value Xz v u) (EP X Xn Y Q) X.xe s
def WQ(X:Cx)(id:String)(r:V->T0 V->Hp->VK->Prop):Prop:=
 ∀(Xn:QQY) (s:Sd) (Y:St) (H:Hp) (x:V) (xs:T0 V) (v:Vl) (us:T0 Vl) (Q:VK),Inv X Xn Y H s->qy x v->qw xs us->r x xs H Q->
  Ch (pi X.prog X.w) X.A (call (.builtin id) (v::us)) (EP X Xn Y Q) X.xe s
variable {o:zn}{es:T0 zn}{to:TE}{t:TA}{name:Str}{Xq Xu:Pos}{T id:String}{r:V→T0 V→Hp→VK→Prop}{a:zn}{ta tb:TE}
section
variable {b:zn}
def K'{r:R2}(hr:Tr X r)(ha:PE X a ta)(hb:PE X b tb)(hs:A8 b):PE X (.Subscript a b pos) (UY r ta tb):=by intro Xn s Y H Q I h;exact Subscript_ (Ru ha hb I h λv u s2 x y H2 I2 rx ry q=>hr a b Xn s2 Y H2 x y v u Q I2 rx ry q (hs _ _))
def Wa(K:qk):R2:=λx y H Q=>∃p xs i v,x=.ref p/\y=.int i/\xq K H p xs/\wF xs i=ga v/\Q v H
def VR(K:qk):R2:=λx y H Q=>∃p xs i v,x=.ref p/\y=.int i/\vo K H p xs/\wF xs i=ga v/\Q v H
def Wn:R2:=λx y H Q=>∃z i c,x=.str z/\y=.int i/\z.length<=Uf/\wF z.cps.toList i=ga c/\Q (.str ⟨#[c]⟩) H
def Jv:Tr X (Wa X.K):=by
 intro value Xz Xn s Y H x y v u Q I rx ry h hs;obtain⟨p,xs,i,z,rfl,rfl,hq,he,q⟩:=h;cases rx;obtain⟨t,rfl⟩:=ry;obtain⟨its,r,pl,hz⟩:=I.list hq;obtain⟨j,h1,h2,h3,h4,h5⟩:=EN he;obtain⟨w,ew,YT⟩:=r.get h2;have hl:=r.length;have hn:=xT;have Xs:EP X Xn Y Q w s:=⟨z,H,I,YT,q⟩;by_cases h0:0<=i
 .have hj:i.toNat=j:=by rw[ls h0 h5]at h1;exact dv h1
  exact item_listR pl.isList h0 (by lia) (by rw[hj];simpa using ew) Xs hs
 .have hj:(i+(its.toArray.size:Int)).toNat=j:=by rw[kI (by lia) h4]at h1;rw[dB,<-hl];exact dv h1
  exact jT (x:=w) pl.isList.typeIs kZ.lookup
   (wpAny_getItem_list_neg (Q:=λr s'=>r=w/\EP X Xn Y Q r s') pl.isList (by lia) (by rw[dB]<;>lia) (by lia) (by rw[hj];simpa using ew) ⟨Z',Xs⟩) hs
def RK:Tr X (VR X.K):=by
 intro value Xz Xn s Y H x y v u Q I rx ry h hs;obtain⟨p,xs,i,z,rfl,rfl,hq,he,q⟩:=h;cases rx;obtain⟨t,rfl⟩:=ry;obtain⟨its,r,pl,hz⟩:=I.tuple hq;obtain⟨j,h1,h2,h3,h4,h5⟩:=EN he;obtain⟨w,ew,YT⟩:=r.get h2;have hl:=r.length;have hn:=xT;have Xs:EP X Xn Y Q w s:=⟨z,H,I,YT,q⟩;exact jT (x:=w) pl.typeIs slot_tuple_getitem.lookup
  (getItem_tuple (j:=j) (Q:=λr s'=>r=w/\EP X Xn Y Q r s') pl (by lia) (by lia) (by rw[dB,<-hl];exact h1) (by simpa using ew) ⟨Z',Xs⟩) hs
def RY:Tr X Wn:=by
 intro value Xz Xn s Y H x y v u Q I rx ry h hs;obtain⟨z,i,c,rfl,rfl,hz,he,q⟩:=h;obtain⟨t,rfl⟩:=rx;obtain⟨t',rfl⟩:=ry;obtain⟨j,h1,h2,h3,h4,h5⟩:=EN he;have hl:z.cps.toList.length=z.length:=by simp[Str.length]
 rw[hl]at h1 h4 h5;have hn:=xT;exact tail_any (typeIs_str s z t) slot_str_getitem.lookup (getItem_str (c:=c) (by
  have e1:decide (i< -(2 ^ 63:Int))=pc:=eD (by lia);have e2:decide (i>=2 ^ 63)=pc:=eD (by lia);rw[e1,e2,ji]) (by rw[h1];simpa using h2) ⟨.str ⟨#[c]⟩,H,I.tok _,⟨_,Z'⟩,q⟩) hs
def Hz(its:T0 Vl)(n j:Nat)(u:Vl):Obj.mapSeq (·.setIfInBounds j u) {cls:=.type "list",data:=.seq its.toArray n}={cls:=.type "list",data:=.seq (its.set j u).toArray n}:=by simp[Obj.mapSeq]
def Inv.lst{p:lf}{xs:T0 V}(I:Inv X Xn Y H s)(h:H p=ga (.lst xs)):
  ∃(its:T0 Vl) (n:Nat),qw xs its/\s.heap.get? p=ga {cls:=.type "list",data:=.seq its.toArray n}/\xs.length<=Uf:=by
 obtain⟨z,its,n,r,e⟩:=I.mH p _ h;exact⟨its,n,r,e,z⟩
def Inv.nZ{p:lf}{xs ys:T0 V}{its its':T0 Vl}{n n':Nat}{f:Obj->Obj}(I:Inv X Xn Y H s)(h:H p=ga (.lst xs)) (ho:s.heap.get? p=ga {cls:=.type "list",data:=.seq its.toArray n}) (hf:f {cls:=.type "list",data:=.seq its.toArray n}={cls:=.type "list",data:=.seq its'.toArray n'}) (r:qw ys its') (hz:ys.length<=Uf) (t:Nat):
  Inv X Xn Y (upd H p (.lst ys)) {s with heap:=s.heap.update p f,toks:=t}:=by
 have e:(s.heap.update p f).get? p=ga {cls:=.type "list",data:=.seq its'.toArray n'}:=by rw[fD f ho (by rw[hf]<;>rfl),hf]
 refine I.write (x:=p) (e:=p) (by rw[h];trivial) (.inl Z') (λb u hb q=>(fZ _ _ (dX hb)).trans q) ⟨_,e⟩ ?_;exact⟨hz,its',n',r,e⟩
def Vj:V->V->V->Hp->(Hp->Prop)->Prop:=λo i v H Q=>∃p xs k j,o=.ref p/\i=.int k/\H p=ga (.lst xs)/\D3 xs.length k=ga j/\Q (upd H p (.lst (xs.set j v)))
def Gn:RB X Vj:=by
 intro Xn s Y H o i v ov iv u Q I ro ri rv h;obtain⟨p,xs,k,j,rfl,rfl,hp,hj,q⟩:=h;cases ro;obtain⟨t,rfl⟩:=ri;obtain⟨its,n,r,ho,hz⟩:=I.lst hp;obtain⟨h1,h2,h3,h4⟩:=IR hj;have hl:=r.length;have hn:=xT;have I':Inv X Xn Y (upd H p (.lst (xs.set j v))) {s with heap:=s.heap.update p (Obj.mapSeq (·.setIfInBounds j u))}:=
  I.nZ hp ho (Hz its n j u) (r.set rv j) (by rw[ip];exact hz) s.toks
 by_cases h0:0<=k
 .have hk:k.toNat=j:=by rw[ls h0 h4]at h1;exact dv h1
  exact W.ki_setAt ho h0 (by lia) (by rw[dB,<-hl];exact h4) (by rw[hk];exact⟨_,I',q⟩)
 .have hk:(k+(its.toArray.size:Int)).toNat=j:=by rw[kI (by lia) h3]at h1;rw[dB,<-hl];exact dv h1
  exact W.ki_setBack ho (by lia) (by rw[dB,<-hl];exact h3) (by lia) (by rw[hk];exact⟨_,I',q⟩)
def Ep(lo hi:Option Int)(n:Nat):(XXc lo hi Fa n).1=((HT.sW n 0 lo:Nat):Int)/\(XXc lo hi Fa n).2.1=((HT.sW n n hi:Nat):Int)/\(XXc lo hi Fa n).2.2=1:=by
 refine⟨?_,?_,Z'⟩
 .cases lo with
  | none=>simp[XXc,HT.sW]
  | some i=>
   simp only[XXc,HT.sW,lF,show(1:Int)>0 by decide,iY];by_cases h:i<0
   .simp only[h,iY]<;>lia
   .simp only[h,lE]<;>lia
 .cases hi with
  | none=>simp[XXc,HT.sW]
  | some i=>
   simp only[XXc,HT.sW,lF,show(1:Int)>0 by decide,iY];by_cases h:i<0
   .simp only[h,iY]<;>lia
   .simp only[h,lE]<;>lia
def CW(its:T0 Vl)(lo hi:Option Int):slicePick its.toArray lo hi Fa=((its.drop (HT.sW its.length 0 lo)).take (HT.sW its.length its.length hi - HT.sW its.length 0 lo)).toArray:=by obtain⟨h1,h2,h3⟩:=Ep lo hi its.toArray.size;unfold slicePick;rw[h1,h2,h3];simp only[sliceRange_one,pick_run,dB]<;>rfl
def V8(K:qk):V->Option Int->Option Int->Hp->VK->Prop:=λx lo hi H Q=>∃a xs,x=.ref a/\xq K H a xs/\∀p,H p=Fa->Q (.ref p) (upd H p (.lst (BV xs lo hi)))
def ID:U7 X (V8 X.K):=by intro Xn s Y H x v vl vu lo hi sl Q I rx hs pl pu h;obtain⟨a,xs,rfl,hx,q⟩:=h;cases rx;obtain⟨its,r,ht,hz⟩:=I.list hx;have Xt:=r.length;refine⟨"list",_,kZ.lookup,ht.isList.typeIs,?_⟩;refine wpAny_getItem_list_slice ht.isList hs pl pu .none (by simp) ?_ (by rw[dB]<;>lia);rw[CW,<-Xt];refine⟨.ref s.heap.objs.size,_,I.laid (t':=s.toks) (o:=.lst (BV xs lo hi)) (λb ob q=>dg _ q) (dq _) ?_,Z',q _ (I.mH.fresh (dq _))⟩;exact⟨dZ (Au xs lo hi) hz,_,0,(r.drop (HT.sW xs.length 0 lo)).take (HT.sW xs.length xs.length hi - HT.sW xs.length 0 lo),dJ _ Z'⟩
noncomputable def yy:V->Bool
 | .mC=>Db
 | .bl _=>Db
 | .int _=>Db
 | .str _=>Db
 | _=>pc
noncomputable def NT:V->V->Bool
 | .mC,.mC=>Db
 | .bl a,.bl b=>a==b
 | .bl a,.int b=>(if a then 1 else 0)==b
 | .int a,.bl b=>a==(if b then 1 else 0)
 | .int a,.int b=>a==b
 | .str a,.str b=>a==b
 | _,_=>pc
def Sv(ry:qy y u)(rx:qy x v)(fy:yy y=Db)(fx:yy x=Db):SeqAt.EqAt A s u v (NT y x):=by
 cases y with
 | mC=>
  cases ry;cases x with
  | mC=>cases rx;exact SeqAt.EqAt.same _
  | bl b=>cases rx;exact SeqAt.EqAt.none_bool b
  | int b=>obtain⟨t,rfl⟩:=rx;exact SeqAt.EqAt.none_int b t
  | str b=>obtain⟨t,rfl⟩:=rx;exact SeqAt.EqAt.none_str b t
  | _=>exact absurd (show pc=Db from fx) dC
 | bl a=>
  cases ry;cases x with
  | mC=>cases rx;exact SeqAt.EqAt.bool_none a
  | bl b=>cases rx;exact SeqAt.EqAt.bool_bool a b
  | int b=>obtain⟨t,rfl⟩:=rx;exact SeqAt.EqAt.bool_int a b t
  | str b=>obtain⟨t,rfl⟩:=rx;exact SeqAt.EqAt.bool_str a b t
  | _=>exact absurd (show pc=Db from fx) dC
 | int a=>
  obtain⟨t',rfl⟩:=ry;cases x with
  | mC=>cases rx;exact SeqAt.EqAt.int_none a t'
  | bl b=>cases rx;exact SeqAt.EqAt.int_bool a t' b
  | int b=>obtain⟨t,rfl⟩:=rx;exact SeqAt.EqAt.int_int a t' b t
  | str b=>obtain⟨t,rfl⟩:=rx;exact kA a t' b t
  | _=>exact absurd (show pc=Db from fx) dC
 | str a=>
  obtain⟨t',rfl⟩:=ry;cases x with
  | mC=>cases rx;exact SeqAt.EqAt.str_none a t'
  | bl b=>cases rx;exact SeqAt.EqAt.str_bool a t' b
  | int b=>obtain⟨t,rfl⟩:=rx;exact kB a t' b t
  | str b=>obtain⟨t,rfl⟩:=rx;exact SeqAt.EqAt.str_str a t' b t
  | _=>exact absurd (show pc=Db from fx) dC
 | _=>exact absurd (show pc=Db from fy) dC
noncomputable def Fl(x:V)(u:Vl):Bool:=match u with
 | .none=>NT .mC x
 | .bool b=>NT (.bl b) x
 | .int i _=>NT (.int i) x
 | .str z _=>NT (.str z) x
 | _=>pc
def HC(r:qy y u)(f:yy y=Db):Fl x u=NT y x:=by
 cases y with
 | mC=>cases r;rfl
 | bl b=>cases r;rfl
 | int i=>obtain⟨t,rfl⟩:=r;rfl
 | str z=>obtain⟨t,rfl⟩:=r;rfl
 | _=>exact absurd (show pc=Db from f) dC
theorem zx:∀{xs:T0 V} {us:T0 Vl},qw xs us->xs.all yy=Db->us.any (Fl x)=xs.any λy=>NT y x
 | _,_,.nil,_=>rfl
 | y::xs,u::us,.cons r t,f=>by rw[gv,dY]at f;rw[gb,gb,HC r f.1,zx t f.2]
theorem wg(rx:qy x v)(fx:yy x=Db):∀{xs:T0 V} {us:T0 Vl},qw xs us->xs.all yy=Db->∀u∈us,SeqAt.EqAt A s u v (Fl x u)
 | _,_,.nil,_=>λu hu=>by cases hu
 | y::xs,u::us,.cons r t,f=>λu' hu=>by
  rw[gv,dY]at f;rcases dz.mp hu with rfl|hu
  .rw[HC r f.1];exact Sv r rx f.1 fx
  .exact wg rx fx t f.2 u' hu
noncomputable def inV(x:V)(xs:T0 V):Bool:=xs.any λy=>NT y x
def WJ(K:qk)(Y2:Bool):R2:=λx y H Q=>∃p xs,y=.ref p/\(xq K H p xs\/vo K H p xs)/\yy x=Db/\xs.all yy=Db/\Q (.bl (if Y2 then !inV x xs else inV x xs)) H
def Kc:xo X (wp .In) (WJ X.K pc):=by
 intro Xn s Y H x y v u Q I rx ry h;obtain⟨p,xs,rfl,hq,fx,fs,q⟩:=h;cases ry;rcases hq with hq|hq
 .obtain⟨its,r,pl,hz⟩:=I.list hq;refine SeqAt.in_listAt (Fl x) pl.isList (λw hw=>wg rx fx r fs w (by simpa using hw)) ⟨.bl _,H,I,Z',?_⟩;rw[show its.toArray.any (Fl x)=its.any (Fl x)by simp,zx r fs];exact q
 .obtain⟨its,r,pl,hz⟩:=I.tuple hq;refine SeqAt.in_tupleAt (Fl x) pl (λw hw=>wg rx fx r fs w (by simpa using hw)) ⟨.bl _,H,I,Z',?_⟩;rw[show its.toArray.any (Fl x)=its.any (Fl x)by simp,zx r fs];exact q
def ER:xo X (wp .NotIn) (WJ X.K Db):=by
 intro Xn s Y H x y v u Q I rx ry h;obtain⟨p,xs,rfl,hq,fx,fs,q⟩:=h;cases ry;rcases hq with hq|hq
 .obtain⟨its,r,pl,hz⟩:=I.list hq;refine SeqAt.notIn_listAt (Fl x) pl.isList (λw hw=>wg rx fx r fs w (by simpa using hw)) ⟨.bl _,H,I,Z',?_⟩;rw[show its.toArray.any (Fl x)=its.any (Fl x)by simp,zx r fs];exact q
 .obtain⟨its,r,pl,hz⟩:=I.tuple hq;refine SeqAt.notIn_tupleAt (Fl x) pl (λw hw=>wg rx fx r fs w (by simpa using hw)) ⟨.bl _,H,I,Z',?_⟩;rw[show its.toArray.any (Fl x)=its.any (Fl x)by simp,zx r fs];exact q
def Ez:xo X (wp .NotIn) (λx y H Q=>∃i j,x=.str i/\y=.str j/\Q (.bl (!(!(Builtin.Str.occurrences j i 0 j.length 1).isEmpty))) H):=by intro Xn s Y H x y v u Q I rx ry h;obtain⟨i,j,rfl,rfl,q⟩:=h;obtain⟨t,rfl⟩:=rx;obtain⟨t',rfl⟩:=ry;exact notIn_str ⟨.bl _,H,I,Z',q⟩
def wI:yt X (.builtin "len") (λxs H Q=>∃p ys,xs=[.ref p]/\(xq X.K H p ys\/vo X.K H p ys)/\Q (.int ys.length) H):=by
 intro Xn s Y H xs us Q I r h;obtain⟨p,ys,rfl,hq,q⟩:=h;obtain⟨u,rfl,rx⟩:=xh r;cases rx;have hn:=xT;rcases hq with hq|hq
 .obtain⟨its,r',pl,hz⟩:=I.list hq;have Xt:=r'.length;exact Calls.call_len_list pl.isList (by simp only[dB]<;>lia) ⟨.int ys.length,H,I.tok _,⟨s.toks+1,by rw[dB,Xt]⟩,q⟩
 .obtain⟨its,r',pl,hz⟩:=I.tuple hq;have Xt:=r'.length;exact len_tuple pl (by simp only[dB]<;>lia) ⟨.int ys.length,H,I.tok _,⟨s.toks+1,by rw[dB,Xt]⟩,q⟩
def EE:yt X (.builtin "len") (λxs H Q=>∃z,xs=[.str z]/\z.length<=Uf/\Q (.int z.length) H):=by intro Xn s Y H xs us Q I r h;obtain⟨z,rfl,hz,q⟩:=h;obtain⟨u,rfl,t,rfl⟩:=xh r;have hn:=xT;exact len_str (by lia) ⟨.int z.length,H,I.tok _,⟨_,Z'⟩,q⟩
def Fz:yt X (.type "list") (λxs H Q=>∃p ys,xs=[.ref p]/\(xq X.K H p ys\/vo X.K H p ys)/\∀l,H l=Fa->Q (.ref l) (upd H l (.lst ys))):=by
 intro Xn s Y H xs us Q I r h;obtain⟨p,ys,rfl,hq,q⟩:=h;obtain⟨u,rfl,rx⟩:=xh r;cases rx;have Xs:∀(its:T0 Vl),qw ys its->ys.length<=Uf->∀(h':Go) (c':Nat),(∀b o',s.heap.get? b=ga o'->h'.get? b=ga o')->
   h'.get? s.heap.objs.size=ga {cls:=.type "list",dict:=none,data:=.seq its.toArray c',slots:=#[]}->EP X Xn Y Q (.ref s.heap.objs.size) {s with heap:=h'}:=λits r' hz h' c' kp e=>
  ⟨.ref s.heap.objs.size,_,I.laid (t':=s.toks) kp (dq _) (show rZ X.prog X.w _ h' _ (.lst ys)from⟨hz,its,c',r',e⟩),Z',q _ (I.mH.fresh (dq _))⟩
 rcases hq with hq|hq
 .obtain⟨its,r',pl,hz⟩:=I.list hq;have Xt:=r'.length;obtain⟨o,ho,hc,n,hd⟩:=pl.isList;exact call_list_seq p (.inl Z') ho hc hd (λh' c' kp e=>Xs its r' hz h' c' kp e) (by simp only[dB]<;>lia)
 .obtain⟨its,r',pl,hz⟩:=I.tuple hq;have Xt:=r'.length;obtain⟨o,ho,hc,n,hd⟩:=pl;exact call_list_seq p (.inr Z') ho hc hd (λh' c' kp e=>Xs its r' hz h' c' kp e) (by simp only[dB]<;>lia)
def vR:yt X (.type "tuple") (λxs H Q=>∃p ys,xs=[.ref p]/\((xq X.K H p ys/\∀l,H l=Fa->Q (.ref l) (upd H l (.tup ys)))\/(vo X.K H p ys/\Q (.ref p) H))):=by
 intro Xn s Y H xs us Q I r h;obtain⟨p,ys,rfl,h⟩:=h;obtain⟨u,rfl,rx⟩:=xh r;cases rx;rcases h with⟨hq,q⟩|⟨hq,q⟩
 .obtain⟨its,r',pl,hz⟩:=I.list hq;have Xt:=r'.length;refine call_tuple_list pl.isList (λh' kp=>?_) (by simp only[dB]<;>lia);have I1:Inv X Xn Y H {s with heap:=h'}:=I.kept (t':=s.toks) kp;have I2:Inv X Xn Y (upd H h'.objs.size (.tup ys)) {s with heap:=h'.push {cls:=.type "tuple",data:=.seq its.toArray}}:=
   I1.laid (t':=s.toks) (λb o e=>dg _ e) (dq _) (show rZ X.prog X.w _ _ _ (.tup ys)from⟨hz,its,r',EZ.new _ _⟩)
  exact⟨.ref h'.objs.size,_,I2,Z',q _ (I1.mH.fresh (dq _))⟩
 .obtain⟨its,r',pl,hz⟩:=I.tuple hq;exact call_tuple_same pl ⟨.ref p,H,I,Z',q⟩
def Wu(K:qk)(T:String)(x:V)(H:Hp):Prop:=match x with
 | .str _=>T="str"
 | .int _=>T="int"
 | .ref p=>(T="list"/\∃xs,xq K H p xs)\/(T="tuple"/\∃o,K.lookup p=ga o/\o.cls=.type "tuple"/\o.dict=Fa)\/
   (T="dict"/\((∃kvs,H p=ga (.dK kvs))\/∃kvs,H p=ga (.dT kvs)))\/(T="set"/\∃S n,H p=ga (.set S n))
 | _=>False
def SL(I:Inv X Xn Y H s)(r:qy x v)(ty:Wu X.K T x H):
  s.TypeIs v T/\∀a,v=.ref a->∃ob,s.heap.get? a=ga ob/\ob.dict=Fa:=by
 cases x with
 | str z=>obtain⟨t,rfl⟩:=r;cases(show T="str" from ty);exact⟨typeIs_str s z t,λ_ e=>nomatch e⟩
 | int i=>obtain⟨t,rfl⟩:=r;cases(show T="int" from ty);exact⟨lN s i t,λ_ e=>nomatch e⟩
 | ref p=>
  cases r;rcases ty with⟨rfl,xs,hq⟩|⟨rfl,o,hk,hc,hd⟩|⟨rfl,hk⟩|⟨rfl,S,n,hk⟩
  .obtain⟨its,_,pl,_⟩:=I.list hq;refine⟨pl.isList.typeIs,λa e=>?_⟩;cases e;obtain⟨o,n,e,c,hd,_⟩:=pl;exact⟨o,e,hd⟩
  .refine⟨⟨o,I.mR p o hk,hc⟩,λa e=>?_⟩;cases e;exact⟨o,I.mR _ o hk,hd⟩
  .have z:∃o,s.heap.get? p=ga o/\o.ExactDict:=by
    rcases hk with⟨kvs,hk⟩|⟨kvs,hk⟩
    .obtain⟨_,_,_,_,o,_,_,e,ex,_⟩:=I.mH p _ hk;exact⟨o,e,ex⟩
    .obtain⟨_,_,_,_,o,_,_,e,ex,_⟩:=I.mH p _ hk;exact⟨o,e,ex⟩
   obtain⟨o,e,ex⟩:=z;refine⟨⟨o,e,ex.1⟩,λa e2=>?_⟩;cases e2;exact⟨o,e,ex.2.1⟩
  .obtain⟨o,_,_,_,e,ex,_⟩:=I.mH p _ hk;refine⟨⟨o,e,ex.1⟩,λa e2=>?_⟩;cases e2;exact⟨o,e,ex.2.1⟩
 | _=>exact False.elim ty
def Xj(K:qk)(T:String)(r:V->T0 V->Hp->VK->Prop)(to:TE)(t:TA):TE:=λY H Q=>to Y H λx H1=>Wu K T x H1/\t Y H1 λxs H2=>r x xs H2 Q
def TL(pa:PlainAttrs T)(slot:Slot T name id)(hty:typeOf (.builtin id)=pure (.type "method_descriptor"))(hm:WQ X id r)(ho:PE X o to)(ha:PA X (e::es) t) (XI:wE o name X.env (No o X.env)=No o X.env:=by rfl)
  (YH:((wv Xu (Tk (e::es) X.env)).all (λx=>!x.1)&&(xL Xu (Op [] X.env)).all (λx=>x.1.isSome)
   &&decide ((e::es).length+([]:T0 XXb).length+(if ([]:T0 XXb).isEmpty then 0 else 1)<30))=Db:=by rfl)
  (XZ:(Xq.endLine==Xu.line)=Db:=by rfl) (hs:A9 X e es:=by rfl) (XE:CP X Xu es:=by rfl):
  PE X (.Call (.Attribute o name Xq) (e::es) [] Xu) (Xj X.K T r to t):=by
 intro Xn s Y H Q I h;refine wpAny_Call_method_late XI YH XZ Z' (rR (ho Xn s Y H _ I h) λv s1 zz=>?_);obtain⟨x,H1,I1,r1,ty,q1⟩:=zz;obtain⟨h1,h2⟩:=SL I1 r1 ty;refine⟨T,id,pa,slot,hty,h1,h2,?_⟩;have hA:=ha Xu Xn s1 Y H1 _ I1 q1;rw[hs]at hA ⊢;refine jU (by show(pc||(wv Xu (Tk es X.env)).any (·.1))=pc;rw[XE]<;>rfl) (j6 ?_);exact rR hA λus s2 zz=>x5 zz λvs H2 I2 r2 q2=>hm Xn s2 Y H2 x vs v us Q I2 r1 r2 q2
end
def Xk(X:Cx)(id:String)(r:V->T0 V->Hp->VK->Prop):Prop:=
 ∀(Xn:QQY) (s:Sd) (Y:St) (H:Hp) (x:V) (xs:T0 V) (v:Vl) (us:T0 Vl) (Q:VK),Inv X Xn Y H s->qy x v->qw xs us->r x xs H Q->
  Ch (pi X.prog X.w) X.A (call (.builtin id) (v::us)) (EP X Xn Y Q) X.xe s
def qw.one:∀{x:V} {us:T0 Vl},qw [x] us->∃u,us=[u]/\qy x u
 | _,_,.cons r .nil=>⟨_,Z',r⟩
theorem qw.rep(h:qw xs us):∀k:Nat,qw (List.replicate k xs).flatten (List.replicate k us).flatten
 | 0=>.nil
 | k+1=>by rw[eF,eF,fL,fL];exact qw.append h (qw.rep h k)
theorem DQ(its:T0 Vl):∀(k:Nat) (acc:T0 Vl),List.foldl (λx1 x2=>x1++x2) acc.toArray (List.replicate k its.toArray)=(acc++(List.replicate k its).flatten).toArray
 | 0,acc=>by simp
 | k+1,acc=>by
  have e:acc.toArray++its.toArray=(acc++its).toArray:=by simp
  have e2:(acc++its)++(List.replicate k its).flatten=acc++(List.replicate (k+1) its).flatten:=by rw[eF,fL,eY]
  rw[<-e2,<-DQ its k (acc++its),<-e,eF,fV]
variable {Xn:T0 (lf × Obj)}{Y:St}{H:Hp}{s:Sd}{l:lf}{xs ys zs:T0 V}
section
variable {b:lf}
def Inv.lset{its its':T0 Vl}{n:Nat}{f:Array Vl->Array Vl}{t':Nat}(I:Inv X Xn Y H s)(hH:H l=ga (.lst xs)) (e:s.heap.get? l=ga {cls:=.type "list",data:=.seq its.toArray n}) (hf:f its.toArray=its'.toArray) (hv:qw ys its') (hz:ys.length<=Uf):
  Inv X Xn Y (upd H l (.lst ys)) {s with heap:=s.heap.update l (Obj.mapSeq f),toks:=t'}:=by
 have q:=PySem.IsL.update e f;rw[hf]at q;refine I.write (x:=l) (e:=l) (by rw[hH];exact trivial) (.inl Z') (λb' u hb hu=>(fZ s.heap (Obj.mapSeq f) (dX hb)).trans hu) ⟨_,q⟩ ?_;exact⟨hz,its',_,hv,q⟩
def Inv.oC{t':Nat}(I:Inv X Xn Y H s)(hv:qw ys its)(hz:ys.length<=Uf):
  Inv X Xn Y (upd H s.heap.objs.size (.lst ys)) {s with heap:=s.heap.push {cls:=.type "list",data:=.seq its.toArray},toks:=t'}:=
 I.laid (λ_ _ q=>dg _ q) (dq _) ⟨hz,its,0,hv,dJ _ Z'⟩
def Inv.fresh(I:Inv X Xn Y H s):H s.heap.objs.size=Fa:=I.mH.fresh (dq _)
def Inv.oa(I:Inv X Xn Y H s)(hH:H l=ga (.lst xs)):xs.length<=Uf/\∃(its:T0 Vl) (n:Nat),qw xs its/\xs.length=its.length/\s.heap.get? l=ga {cls:=.type "list",data:=.seq its.toArray n}:=by obtain⟨z,its,n,r,e⟩:=I.mH l _ hH;exact⟨z,its,n,r,r.length,e⟩
def Lq{n:Nat}(h:n<=Uf):Builtin.List.listTooLong n=pc:=by unfold Builtin.List.listTooLong;exact eD (by lia)
end
def Oy:V->T0 V->Hp->VK->Prop:=λx vs H Q=>∃l xs y,x=.ref l/\vs=[y]/\H l=ga (.lst xs)/\xs.length<Uf/\Q .mC (upd H l (.lst (xs++[y])))
def KF:Xk X "list.append" Oy:=by intro Xn s Y H x vs v us Q I rx rv h;obtain⟨l,xs,y,rfl,rfl,hH,hz,q⟩:=h;cases rx;obtain⟨u,rfl,ru⟩:=rv.one;obtain⟨z,its,n,r,hl,e⟩:=I.oa hH;refine jp F.slot_list_append ⟨_,e,Z'⟩ F.entry_list_append (F.args_list_append_2 _ _) (PySem.list_append l its.toArray n u (by rw[dB];lia)) ⟨e,?_⟩;refine⟨.mC,_,I.lset (its':=its++[u]) hH e (by simp) (r.append (.cons ru .nil)) ?_,Z',q⟩;rw[c9,dM];lia
def WG:R2:=λx y H Q=>∃l k xs,x=.ref l/\y=.int k/\H l=ga (.lst xs)/\-(2 ^ 63)<=k/\k<2 ^ 63/\xs.length*k.toNat<=Uf/\
 ∀p,H p=Fa->Q (.ref p) (upd H p (.lst (List.replicate k.toNat xs).flatten))
def Qr{α:Type}(xs:List α)(k:Nat):(List.replicate k xs).flatten.length=k*xs.length:=by
 induction k with
 | zero=>simp
 | succ k ih=>rw[eF,fL,c9,ih,l8,Nat.add_comm]
def NN:xo X (dL .Mult) WG:=by
 intro Xn s Y H x y v u Q I rx ry h;obtain⟨l,k,xs,rfl,rfl,hH,h1,h2,hz,q⟩:=h;cases rx;obtain⟨t,rfl⟩:=ry;obtain⟨z,its,n,r,hl,e⟩:=I.oa hH;have Xt:its.toArray.size*k.toNat<=Uf:=by rw[dB,<-hl];exact hz
 have hcap:¬its.toArray.size*k.toNat>(2 ^ 63 - 1) / 8:=by
  have:(Uf:Nat)<=(2 ^ 63 - 1) / 8:=by decide
  lia
 have X0:¬(!Builtin.List.listFitsIndex k)=Db:=by rw[fitsIndex_both h1 h2];exact dC
 have hlong:¬Builtin.List.listTooLong (its.toArray.size*k.toNat)=Db:=by rw[Lq Xt];exact dC
 have Y7:List.foldl (λx1 x2=>x1++x2) #[] (List.replicate (if its.toArray.isEmpty=Db then 0 else k.toNat) its.toArray)=(List.replicate k.toNat its).flatten.toArray:=by
  have f0:∀m:Nat,List.foldl (λx1 x2=>x1++x2) #[] (List.replicate m its.toArray)=(List.replicate m its).flatten.toArray:=λm=>by have:=DQ its m [];rw[d9]at this;exact this
  rw[f0];cases its with
  | nil=>simp
  | cons a r'=>rw[de (by simp)]
 refine wpAny_binaryOp_repeat_ref (T:="list") (U:="int") (by decide) ⟨_,e,Z'⟩ (λs'=>lN s' k t) noFill_list_mul F.fills_int_mul lO repeat_list F.slot_int_index.lookup
  (jp lO (lN s k t) F.entry_int_rmul (F.args_int_rmul_2 _ _) (int___rmul___int_list k t l its.toArray n)
   ⟨e,Z',⟨_,e,Z'⟩,jp F.slot_list_mul ⟨_,e,Z'⟩ F.entry_list_mul (F.args_list_mul_2 _ _) (AutoListH.list___mul___list_int_3 l its.toArray n k t X0 hcap hlong) ⟨e,?_⟩⟩)
 rw[Y7];exact⟨.ref _,_,I.oC (t':=s.toks) (r.rep k.toNat) (by rw[Qr,Nat.mul_comm];exact hz),Z',q _ I.fresh⟩
variable {prog:Pg}{w:Wo}{A:Ar}{E:QQX}
end L2
namespace Att
open PySem PySem.W PySem.Calls PyProof.Rows
def AH:∀(ns:T0 Int) (vs:T0 Vl),WellAll P h vs (ns.map WData.int)->IntsAre vs ns:=by
 intro ns;induction ns with
 | nil=>intro vs w;rw[iQ]at w;cases w;exact .nil
 | cons n ns ih=>
  intro vs w;rw[d6]at w;cases w with
  | cons a b=>cases a;exact .cons _ _ (ih _ b)
def JL{l:OpenLaw}{n:Nat}(hn:l.most=ga n){P:Params}{h:Go}{args:T0 WData}{Z9:T0 Vl} (Zy:l.row.toRowW.claim.pre args=Db) (hwl:WellAll P h Z9 args):
  ∃a vs ns,Z9=[Value.ref a]/\args=[WData.list (ns.map WData.int)]/\h.get? a=ga {cls:=.type "list",data:=.seq vs.toArray}/\IntsAre vs ns/\ns.length<=n:=by
 have hsh:WShape.hasAll [] args [.list .int]=Db:=(pre_splitW Zy).1;have hc:l.pre.holds [] {args:=args}=Db:=(pre_splitW Zy).2;obtain⟨d,r,rfl,h1,h2⟩:=hasAllW_cons hsh;obtain rfl:=hasAllW_nil h2;obtain⟨xs,rfl,h3⟩:=hasW_list h1;obtain⟨ns,rfl⟩:=items_int h3;have Xt:ns.length<=n:=by
  unfold OpenLaw.pre at hc;have h4:(WTm.not (.lt (.lit (.int (n:Int))) (.len (.arg 0)))).holds [] {args:=[.list (ns.map .int)]}=Db:=by have h4:=(holds_andW hc).1;rw[hn]at h4;exact h4
  have h5:=condW_of h4 (w_not (w_lt w_lit (w_len_list (w_arg Z'))));rw[cW]at h5;refine Nat.le_of_not_lt λq=>?_;have q':(n:Int)<((ns.length:Nat):Int):=by lia
  first
   | (rw[dS q']at h5;exact absurd h5 (by decide))
   | (simp at h5;lia)
 cases hwl with
 | cons w1 w2=>
  cases w2;cases w1 with
  | list ho Yr=>exact⟨_,_,ns,Z',Z',ho,AH ns _ Yr,Xt⟩
def Kb(l:OpenLaw)(args:T0 WData):l.row.toRowW.claim.post args (.bool Db) args=Db:=
 postW_of (r:=l.row.toRowW) (X:=(Db==Db))
  (show WShape.has [] (.bool Db) .bool=Db by first|rfl|decide|simp[WShape.has,WShape.arms,WShape.armsAll])
  (show(WTm.eq .res (.lit (.bool Db))).value [] {args:=args,res:=some (.bool Db),after:=args}=ga (.bool (Db==Db))from w_eq_bool (w_res Z') w_lit) Z'
def attach_call{l:OpenLaw}{n:Nat}{YP:Wo->Go->Prop}{d:DefRec} (hn:l.most=ga n) (ZT:d.params.defaults=[]) (call:∀(w:Wo) (s₀ s₁:Sd) (mg mb:QQZ) (fa:lf) (o:Obj) (pm cd X3:Vl) (a:lf) (vs:T0 Vl) (ns:T0 Int),Ground q Yg [] XP w s₀ mg mb s₁.heap->YP w s₁.heap->
   s₁.heap.get? fa=ga o->o.data=.func (docDef d.name d.params d.body d.scope pm cd X3)->s₁.heap.CodeRec cd d.name->mg d.name=ga (.ref fa)->
   s₁.heap.get? a=ga {cls:=.type "list",data:=.seq vs.toArray}->IntsAre vs ns->ns.length<=n->s₁.gens=#[]->
   XXg (pi l.prog w) callerA (.call (.ref fa) ⟨[.ref a],[]⟩) (λr s'=>r=.ok (.ret (.bool Db))/\OldK s₁.heap s'.heap/\s'.os=s₁.os/\XXj s'.gens) s₁):
  WalkO q Yg XP YP l.row.toRowW d [] (λf vs=>PySem.call f vs):=by
 intro w s₀ s₁ mg mb G Y fa o pm cd X3 dV kV ho hd YE hD hmg hg args Z9 as Zy hlay hrd hwl hlo;obtain rfl:dV=.none:=Dflts.none hD ZT;obtain rfl:kV=.none:=Dflts.noKw hD;obtain⟨a,vs,ns,rfl,rfl,hobj,Y8,Xt⟩:=JL hn Zy hwl;refine enter_call (gT (call w s₀ s₁ mg mb fa o pm cd X3 a vs ns G Y ho (fd_plain hd) YE hmg hobj Y8 Xt hg) λr s' hq=>?_);obtain⟨rfl,h2,h3,h4⟩:=hq;exact⟨.inl ⟨.bool Db,.bool Db,[],Z',λ_=>rfl,.bool Db,Kb l _,λ_=>⟨List.Pairwise.nil,λ_ hm=>(nomatch hm)⟩⟩,h2,h3,h4⟩
variable {prog:Pg}{w:Wo}{A:Ar}{E:QQX}{s:Sd}{K:Frag}
end Att
namespace L2
theorem Dx:∀{vs:T0 Vl} {ns:T0 Int},IntsAre vs ns->qw (ns.map V.int) vs
 | _,_,.nil=>.nil
 | _,_,.cons n t h=>.cons ⟨t,Z'⟩ (Dx h)
def L6(H:Hp):Prop:=∀b,H b=Fa\/∃o xs,H b=ga (.frz o (.lst xs))
def MJ{P:Pg}{w:Wo}{K:qk}{mg mb:QQZ}{CX:KN}{fa a:lf}{fd:Rs}{x:Str}{sp:Sp}{s₁:Sd}{vs:T0 Vl} (KX:K.In s₁.heap) (hns:s₁.heap.Ns Ps mg) (hb:s₁.heap.Ns builtinsNs mb) (hbb:∀x:Str,x≠"__name__"->mb x=Tl x) (hlim:s₁.heap.NoLimit) (hg:s₁.gens=#[]) (ha:s₁.heap.get? a=ga {cls:=.type "list",data:=.seq vs.toArray}) (hi:IntsAre vs ns) (hl:ns.length<=Uf) (hr:rS k callerA)
  (F:∀base:Go,K.In base->base.Ns Ps mg->xl P w K mg base CX k fa fd [x] sp) (hbind:∀(s:Sd) (u:Vl),BindsTo s fd ⟨[u],[]⟩ [(x,u)])
  (YS:∀H:Hp,L6 H->xq K H a (ns.map V.int)->sp [.ref a] H (λv _=>v=.bl Db) λ_ _ _=>False)
  (hCX:∀H e s',CX [] H s₁ (λ_ _ _=>False) e s'->False):
  XXg (pi P w) callerA (.call (.ref fa) ⟨[.ref a],[]⟩) (λr s'=>r=.ok (.ret (.bool Db))/\OldK s₁.heap s'.heap/\s'.os=s₁.os/\XXj s'.gens) s₁:=by
 have rv:=Dx hi;have lenV:=hi.length;have core:∀H:Hp,L6 H->xq K H a (ns.map V.int)->yp P w H s₁.heap->(∀b,H b≠Fa->b=a)->(H a≠Fa->K.lookup a=Fa)->
   XXg (pi P w) callerA (.call (.ref fa) ⟨[.ref a],[]⟩) (λr s'=>r=.ok (.ret (.bool Db))/\OldK s₁.heap s'.heap/\s'.os=s₁.os/\XXj s'.gens) s₁:=by
  intro H hO hS mH hA hK;have YO:∀{b:lf} {o:Obj},s₁.heap.get? b=ga o->H b=Fa->(FF s₁.heap H).get? b=ga o:=λe n=>Nw e n;have noA:∀{b:lf} {o:Obj} {es:Array DictEntry} {ep:Nat},s₁.heap.get? b=ga o->o.data=.dict es ep->H b=Fa:=λ{b o es ep} e d=>by
   cases q:H b with
   | none=>rfl
   | some u=>have e':b=a:=hA b (by rw[q];simp);subst e';rw[ha]at e;cases e;have d':Data.seq vs.toArray _=Data.dict es ep:=d;cases d'
  have nsK:∀{b:lf} {m:QQZ},s₁.heap.Ns b m->(FF s₁.heap H).Ns b m:=λ{b m} ⟨o,es,ep,e,d,r⟩=>⟨o,es,ep,YO e (noA e d),d,r⟩;have hKb:K.In (FF s₁.heap H):=λb o e=>YO (KX b o e) (by
   cases q:H b with
   | none=>rfl
   | some u=>
    have e':b=a:=hA b (by rw[q];simp);subst e';rw[hK (by rw[q];simp)]at e;cases e)
  have hM:Mod K mg (FF s₁.heap H):=⟨hKb,nsK hns,⟨mb,nsK hb,hbb⟩,let⟨mc,h1,h2⟩:=hlim;⟨mc,nsK h1,h2⟩⟩;have e0:Hq P w K mg (FF s₁.heap H) callerA [] s₁ H:=⟨Z',hM,λb o e=>O2 e,kF (J0 _ _),trivial,λb hb=>absurd (show b∈([]:QXQ)from hb) (by simp),mH,.of_eq hg⟩;refine gT ((F _ hKb (nsK hns)).run callerA [] s₁ H ⟨[.ref a],[]⟩ [.ref a] [.ref a] _ _ hr e0 (hbind s₁ (.ref a)) (.cons Z' .nil) (YS H hO hS)) λr s' h=>?_;cases r with
  | error e=>exact(hCX H e s' h).elim
  | ok fl=>
   cases fl with
   | next=>exact False.elim h
   | brk=>exact False.elim h
   | cont=>exact False.elim h
   | ret u=>
    obtain⟨v,H',os,bare,un,hok',r',q⟩:=h;have q':v=.bl Db:=q;subst q';obtain rfl:u=Value.bool Db:=r';refine⟨Z',OldK.of_keep λb o e=>?_,os,bare⟩;cases q:H b with
    | none=>exact un.keep b o e q (by intro z;exact absurd (show b∈([]:QXQ)from z) (by simp)) (by simp)
    | some u=>
     rcases hO b with z|⟨ob,xs,z⟩
     .rw[q]at z;cases z
     .have z2:=un.mZ b ob _ z;obtain⟨e1,_⟩:=mH b _ z;obtain⟨e2,_⟩:=hok' b _ z2;rw[e]at e1;cases e1;exact e2
 cases hk:K.lookup a with
 | some o=>have e:=KX a o hk;rw[ha]at e;cases e;refine core (λ_=>Fa) (λ_=>.inl Z') (.inr ⟨_,vs.toArray,_,hk,Z',Z',Z',by rw[dB,lenV];exact hl,by simpa using rv⟩) (λb u z=>by have z':(Fa:Option HO)=ga u:=z;cases z') (λb z=>absurd Z' z) λz=>absurd Z' z
 | none=>
  refine core (λb=>if b=a then ga (.frz {cls:=.type "list",data:=.seq vs.toArray} (.lst (ns.map V.int)))else Fa) (λb=>?_) (.inl (.inr ⟨{cls:=.type "list",data:=.seq vs.toArray},df Z'⟩)) (λb u z=>?_) (λb z=>?_) λ_=>hk
  .by_cases hb:b=a
   .exact .inr ⟨_,_,df hb⟩
   .exact .inl (de hb)
  .by_cases hb:b=a
   .have z':=(df hb).symm.trans z;cases z';subst hb;exact⟨ha,by rw[cW];exact hl,vs,_,rv,ha⟩
   .have z':=(de hb).symm.trans z;cases z'
  .by_cases hb:b=a
   .exact hb
   .exact absurd (de hb) z
def Qn{l:W.OpenLaw}{n k:Nat}{q:Pg}{Yg:QQQ}{XP:(QQZ)->Go->Prop}{YP:Wo->Go->Prop}{d:DefRec}{K:Params->qk}{CX:Wo->KN}{sp:Wo->Sp}{x:Str} (hn:l.most=ga n) (Z5:n<=Uf) (ZT:d.params.defaults=[]) (hr:rS k callerA) (hY:∀(w:Wo) (h:Go),YP w h->(K w.params).In h) (F:∀(w:Wo) (mg:QQZ) (fa:lf) (h:Go),(K w.params).In h->h.Ns Ps mg->mg d.name=ga (.ref fa)->
   ∃fd:Rs,(∀(s:Sd) (u:Vl),BindsTo s fd ⟨[u],[]⟩ [(x,u)])/\
    ∀base:Go,(K w.params).In base->base.Ns Ps mg->xl l.prog w (K w.params) mg base (CX w) k fa fd [x] (sp w))
  (YS:∀(w:Wo) (H:Hp) (a:lf) (ns:T0 Int),ns.length<=n->L6 H->xq (K w.params) H a (ns.map V.int)->sp w [.ref a] H (λv _=>v=.bl Db) λ_ _ _=>False)
  (hCX:∀(w:Wo) (H:Hp) (s:Sd) (e:Vl) (s':Sd),CX w [] H s (λ_ _ _=>False) e s'->False):
  W.WalkO q Yg XP YP l.row.toRowW d [] (λf vs=>PySem.call f vs):=by
 refine Att.attach_call hn ZT λw s₀ s₁ mg mb fa o pm cd X3 a vs ns G Y ho hd YE hmg hobj Y8 Xt hg=>?_;have KX:=hY w _ Y;obtain⟨fd,hb,hF⟩:=F w mg fa _ KX G.T.g hmg;exact MJ KX G.T.g G.T.b G.T.builtins G.T.nolimit hg hobj Y8 (dZ Xt Z5) hr hF hb (λH hO hS=>YS w H a ns Xt hO hS) λH e s'=>hCX w H s₁ e s'
noncomputable def OF(s:xz)(j:Nat):xz:=match s with
 | .ClassDef _ _ _ body _ _ _ _ _ _ _=>body.getD j (.Pass ⟨0,0,0,0⟩)
 | _=>.Pass ⟨0,0,0,0⟩
noncomputable def ul(s:xz):Arguments:=match s with
 | .FunctionDef _ a _ _ _ _ _ _ _ _=>a
 | _=>{posonlyargs:=[],args:=[],vararg:=none,kwonlyargs:=[],kw_defaults:=[],kwarg:=none,defaults:=[]}
noncomputable def rJ(s:xz):T0 xz:=match s with
 | .FunctionDef _ _ b _ _ _ _ _ _ _=>b
 | _=>[]
noncomputable def pY(s:xz):XXa:=match s with
 | .FunctionDef _ _ _ _ _ _ sc _ _ _=>sc
 | _=>{kind:=.function,names:=[],isGenerator:=false,isCoroutine:=false}
abbrev NU:KN:=λ_ _ _ _ _ _=>False
abbrev E0:XK:=λ_ _ _=>False
def G1:BW NU X E0:=λ_ _ _ _ _ _ _ h=>h.elim
structure Pn(K:qk)(x qual:Str)(st:xz)(f:lf)(fd:Rs):Prop where
 ex:∃(oc:Vl) (od:Option lf) (kV X3 pm:Vl) (an:Option lf) (Xy ct:Vl) (Ym:Array (Option Vl)),
  fd=W.fnOf x qual (ul st) (rJ st) (pY st) .none kV X3 pm an Xy ct/\K.lookup f=ga ⟨oc,od,.func fd,Ym⟩/\W.codeIn K Xy qual=Db
 kp:W.keepIn K (.ref f)=Db
variable {P:Pg}{K:qk}{mg:QQZ}{base:Go}
section
variable {w:Wo}
def Pn.ok{st:xz}{sp:Sp}(F:Pn K x qual st f fd)(S:sT N ps (pY st))(len:∀vs H Q E,sp vs H Q E->vs.length=ps.length) (XH:∀(Xy:Vl) (A:Ar) (outer:T0 Env) (s:Sd) (H:Hp) (vs:T0 V) (Q:VK) (E:XK),rS k (A.deeper (sK qual (pY st) s.heap.objs.size f Xy))->sp vs H Q E->
   ∃t,B7 (u9 NU P w K mg base N qual (pY st) f Xy A outer s H E).oq (rJ st) t/\t {nx:=λ_ H'=>Q .mC H',rt:=Q} (start N vs) H):xl P w K mg base NU (k+1) f fd ps sp:=by
 obtain⟨oc,od,kV,X3,pm,an,Xy,ct,Ym,rfl,lk,YE⟩:=F.ex;refine Mg lk YE S len λA outer s H vs Q E hr YS=>?_;obtain⟨t,h,q⟩:=XH Xy A outer s H vs Q E hr YS;exact⟨t,h.oq,q⟩
def Pn.binds{st:xz}{ps:QQQ}(F:Pn K x qual st f fd) (h:∀(kV X3 pm:Vl) (an:Option lf) (Xy ct:Vl) (us:T0 Vl),us.length=ps.length->bindArgs (W.fnOf x qual (ul st) (rJ st) (pY st) .none kV X3 pm an Xy ct) ⟨us,[]⟩=pure (ps.zip us)):uK K fd ps []:=by
 obtain⟨oc,od,kV,X3,pm,an,Xy,ct,Ym,rfl,lk,YE⟩:=F.ex;exact .all (h kV X3 pm an Xy ct)
def KZ{st:xz}{oc:Vl}{od an:Option lf}{Ym:Array (Option Vl)}{kV X3 pm Xy ct:Vl}(l:K.lookup f=ga ⟨oc,od,.func (W.fnOf x qual (ul st) (rJ st) (pY st) .none kV X3 pm an Xy ct),Ym⟩) (c:W.codeIn K Xy qual=Db) (k:W.keepIn K (.ref f)=Db):Pn K x qual st f (W.fnOf x qual (ul st) (rJ st) (pY st) .none kV X3 pm an Xy ct):=⟨⟨oc,od,kV,X3,pm,an,Xy,ct,Ym,Z',l,c⟩,k⟩
end
variable {X:Cx}
def pv(i:Nat){x:Str}{pos:Pos}(hN:X.N[i]?=ga x:=by rfl)(hv:Ut X.env.scope x:=by first|exact Or.inl Z'|exact Or.inr (Or.inl Z')|exact Or.inr (Or.inr Z'))(hd:zb x:=by decide)
  (YE:(x==("__classdict__":Str))=pc:=by decide):PE X (.Name x pos) (HJ i):=Rv hN hv hd YE
def Ka{A B:Prop}(h:B):if pc=Db then A else B:=by rw[de dC];exact h
def Qf{A B:Prop}(h:A):if Db=Db then A else B:=by rw[df Z'];exact h
def qC{c A B:Prop}[Decidable c](h1:c->A)(h2:¬c->B):if c then A else B:=by
 by_cases h:c
 .rw[df h];exact h1 h
 .rw[de h];exact h2 h
def OX(H H':Hp):Prop:=∀b o,H b=ga o->H' b=ga o
def OX.trans(a:OX H H1)(b:OX H1 H2):OX H H2:=λc o h=>b c o (a c o h)
section
variable {κ:Type}[DecidableEq κ]
noncomputable def wN(kvs:T0 (κ×V))(k:κ):Option V:=(kvs.find? λkv=>decide (kv.1=k)).map (·.2)
noncomputable def yo(kvs:T0 (κ×V))(k:κ)(v:V):T0 (κ×V):=
 if (kvs.any λkv=>decide (kv.1=k))=Db then kvs.map (λkv=>if kv.1=k then(kv.1,v)else kv)else kvs++[(k,v)]
def Cr{p:κ×V}{r:T0 (κ×V)}{k:κ}(e:p.1=k):wN (p::r) k=ga p.2:=by simp[wN,eW,e]
def Cu{p:κ×V}{r:T0 (κ×V)}{k:κ}(e:¬p.1=k):wN (p::r) k=wN r k:=by simp[wN,eW,e]
theorem GI(k:κ):∀kvs:T0 (κ×V),(kvs.any λkv=>decide (kv.1=k))=(wN kvs k).isSome
 | []=>rfl
 | p::r=>by
  rw[gb];by_cases e:p.1=k
  .simp only[Cr e,dS e,ib,Option.isSome_some]
  .rw[Cu e,eD e,fJ];exact GI k r
def Aw(kvs:T0 (κ×V))(k:κ)(v:V):(yo kvs k v).length<=kvs.length+1:=by
 unfold yo;split
 .rw[cW];lia
 .rw[c9,eA,dN];lia
def xn.m7(r:xn o u):o.isSome=u.isSome:=by
 cases o with
 | none=>cases u with
  | none=>rfl
  | some _=>exact(show False from r).elim
 | some _=>cases u with
  | none=>exact(show False from r).elim
  | some _=>rfl
def xn.getD(r:xn o u)(rd:qy d d'):qy (o.getD d) (u.getD d'):=by
 cases o with
 | none=>cases u with
  | none=>exact rd
  | some _=>exact(show False from r).elim
 | some _=>cases u with
  | none=>exact(show False from r).elim
  | some _=>exact r
def KV.val(r:KV kvs vs)(k:κ):xn (wN kvs k) (valueAt vs k):=by
 unfold KV at r;induction r with
 | nil=>exact True.intro
 | @cons p q ps qs h t ih=>
  obtain⟨h1,h2⟩:=h;by_cases e:p.1=k
  .have e':q.1=k:=h1.symm.trans e;have b:valueAt (q::qs) k=ga q.2:=by simp[valueAt,eW,e']
   rw[Cr e,b];exact h2
  .have e':¬q.1=k:=λz=>e (h1.trans z);have b:valueAt (q::qs) k=valueAt qs k:=by simp[valueAt,eW,e']
   rw[Cu e,b];exact ih
def KV.any(r:KV kvs vs)(k:κ):(kvs.any λkv=>decide (kv.1=k))=vs.any λkv=>decide (kv.1=k):=by
 unfold KV at r;induction r with
 | nil=>rfl
 | cons h t ih=>rw[gb,gb,ih,h.1]
def KV.om(r:KV kvs vs)(k:κ){y:V}{u:Vl}(ry:qy y u):
  KV (kvs.map λkv=>if kv.1=k then(kv.1,y)else kv) (vs.map λkv=>if kv.1=k then(kv.1,u)else kv):=by
 unfold KV at r ⊢;induction r with
 | nil=>exact .nil
 | @cons p q ps qs h t ih=>
  rw[d6,d6];refine .cons ?_ ih;obtain⟨h1,h2⟩:=h;by_cases e:p.1=k
  .rw[df e,df (h1.symm.trans e)];exact⟨h1,ry⟩
  .rw[de e,de (λz=>e (h1.trans z))];exact⟨h1,h2⟩
def KV.put(r:KV kvs vs)(k:κ){y:V}{u:Vl}(ry:qy y u):KV (yo kvs k y) (stored vs k u):=by
 unfold yo stored;rw[r.any k];by_cases e:(vs.any λkv=>decide (kv.1=k))=Db
 .rw[df e,df e];exact r.om k ry
 .rw[de e,de e];exact mj r ⟨Z',ry⟩
def KV.length(r:KV kvs vs):kvs.length=vs.length:=jg r
end
def D9(r:qy (kV k) u):(rg P w).is k u=Db:=by
 cases k with
 | inl i=>obtain⟨t,e⟩:=(show ∃t,u=Value.int i t from r);subst e;exact F1 P w i t
 | inr x=>obtain⟨t,e⟩:=(show ∃t,u=Value.str x t from r);subst e;exact Az P w x t
theorem DF:∀{ks:List qL} {us:T0 Vl},qw (ks.map kV) us->ItemsAre (rg P w) ks us
 | [],_,r=>by rw[iQ]at r;cases r;exact .nil
 | k::ks,_,r=>by
  rw[d6]at r;cases r with
  | cons h t=>exact .cons (D9 h) (DF t)
abbrev KT(H:Hp):T0 (List qL×V)->T0 (List qL×lf×Vl)->Prop:=Paired λp q=>p.1=q.1/\H q.2.1=ga (.tup (p.1.map kV))/\qy p.2 q.2.2
def KT.val(r:KT H kvs xs)(k:List qL):xn (wN kvs k) ((atKey xs k).map (·.2)):=by
 induction r with
 | nil=>exact True.intro
 | @cons p q ps qs h t ih=>
  obtain⟨h1,_,h2⟩:=h;by_cases e:p.1=k
  .have e':q.1=k:=h1.symm.trans e;have b:atKey (q::qs) k=ga q.2:=by simp[atKey,eW,e']
   rw[Cr e,b];exact h2
  .have e':¬q.1=k:=λz=>e (h1.trans z);have b:atKey (q::qs) k=atKey qs k:=by simp[atKey,eW,e']
   rw[Cu e,b];exact ih
def KT.om(r:KT H kvs xs)(k:List qL){y:V}{u:Vl}(ry:qy y u):
  KT H (kvs.map λkv=>if kv.1=k then(kv.1,y)else kv) (xs.map (putAt k u)):=by
 induction r with
 | nil=>exact .nil
 | @cons p q ps qs h t ih=>
  rw[d6,d6];refine .cons ?_ ih;obtain⟨h1,h2,h3⟩:=h;unfold putAt;by_cases e:p.1=k
  .rw[df e,df (h1.symm.trans e)];exact⟨h1,h2,ry⟩
  .rw[de e,de (λz=>e (h1.trans z))];exact⟨h1,h2,h3⟩
def KT.put(r:KT H kvs xs)(k:List qL){b:lf}{y:V}{u:Vl}(hb:H b=ga (.tup (k.map kV)))(ry:qy y u):
  KT H (yo kvs k y) (storedH xs k b u):=by
 have e:(kvs.any λkv=>decide (kv.1=k))=(atKey xs k).isSome:=by rw[GI,(r.val k).m7,jl]
 unfold yo storedH;rw[e];by_cases q:(atKey xs k).isSome=Db
 .rw[df q,df q];exact r.om k ry
 .rw[de q,de q];exact mj r ⟨Z',hb,ry⟩
def KT.keeps{H H':Hp}(r:KT H kvs xs)(ht:∀b ys,H b=ga (.tup ys)->H' b=ga (.tup ys)):KT H' kvs xs:=
 Paired.nY r λ_ _ z=>⟨z.1,ht _ _ z.2.1,z.2.2⟩
variable {H:Hp}{h:Go}{a:lf}
section
variable {w:Wo}
def Q3(ok:yp P w H h)(e:Rd H a u):rZ P w H h a u:=e.ok ok
def DN{kvs:T0 (qL×V)}(ok:yp P w H h)(e:Rd H a (.dK kvs)):kvs.length<=Uf/\(a==TD)=pc/\∃vs,KV kvs vs/\h.DictOf (rg P w) a vs:=
 show rZ P w H h a (.dK kvs)from Q3 ok e
def TU{kvs:T0 (qL×V)}(ok:yp P w H h)(e:H a=ga (.dK kvs)):kvs.length<=Uf/\(a==TD)=pc/\∃vs,KV kvs vs/\h.DictOf (rg P w) a vs:=DN ok (.inl e)
def CH{ks:List qL}(ok:yp P w H h)(e:H a=ga (.tup (ks.map kV))):(tupleKind (rg P w)).is h ks a:=by obtain⟨_,its,r,o,h1,h2,⟨n,h3⟩,_⟩:=(show rZ P w H h a (.tup (ks.map kV))from ok a _ e);exact⟨o,its.toArray,n,h1,h2,h3,by simpa using DF r⟩
def DY{kvs:T0 (List qL×V)}(ok:yp P w H h)(e:Rd H a (.dT kvs)):kvs.length<=Uf/\(a==TD)=pc/\
  ∃xs,KT H kvs xs/\h.DictOfH (tupleKind (rg P w)) a xs:=by
 obtain⟨z,y,xs,r,o,es,ep,h1,h2,h3,h4,h5⟩:=(show rZ P w H h a (.dT kvs)from Q3 ok e);refine⟨z,y,xs,r,o,es,ep,h1,h2,h3,h4,λx hx=>?_,h5⟩;have all:∀{l:T0 (List qL×V)} {m:T0 (List qL×lf×Vl)},KT H l m->∀x∈m,(tupleKind (rg P w)).is h x.1 x.2.1:=by
  intro l m q;induction q with
  | nil=>intro x hx;exact nomatch hx
  | @cons p q ps qs hq t ih=>
   intro x hx;rcases dz.mp hx with e|hx
   .subst e;exact CH ok (by rw[<-hq.1];exact hq.2.1)
   .exact ih x hx
 exact all r x hx
def Ur{kvs:T0 (List qL×V)}(ok:yp P w H h)(e:H a=ga (.dT kvs)):kvs.length<=Uf/\(a==TD)=pc/\
  ∃xs,KT H kvs xs/\h.DictOfH (tupleKind (rg P w)) a xs:=DY ok (.inl e)
end
def AN(H:Hp)(a:lf)(y:V)(r:Option V):Prop:=
 (∃kvs k,Rd H a (.dK kvs)/\y=kV k/\r=wN kvs k)\/∃kvs k b,Rd H a (.dT kvs)/\y=.ref b/\H b=ga (.tup (k.map kV))/\r=wN kvs k
def Kk(H:Hp)(a:lf)(y v:V)(H':Hp):Prop:=
 (∃kvs k,H a=ga (.dK kvs)/\y=kV k/\kvs.length<Uf/\H'=upd H a (.dK (yo kvs k v)))\/
 ∃kvs k b,H a=ga (.dT kvs)/\y=.ref b/\H b=ga (.tup (k.map kV))/\kvs.length<Uf/\H'=upd H a (.dT (yo kvs k v))
def AN.k{H:Hp}{a:lf}{kvs:T0 (qL×V)}{k:qL}(e:H a=ga (.dK kvs)):AN H a (kV k) (wN kvs k):=.inl ⟨kvs,k,.inl e,Z',Z'⟩
def Kk.k{H:Hp}{a:lf}{kvs:T0 (qL×V)}{k:qL}(e:H a=ga (.dK kvs))(hl:kvs.length<Uf):Kk H a (kV k) v (upd H a (.dK (yo kvs k v))):=.inl ⟨kvs,k,e,Z',hl,Z'⟩
variable {Xn:T0 (lf × Obj)}{Y:St}{y v:V}{u r:Vl}
section
variable {s:Sd}{o:Option V}{A:Ar}{E:QQX}
def Inv.big(I:Inv X Xn Y H s):TD<s.heap.objs.size:=by have h:Ps<s.heap.objs.size:=(I.mod.glob.keeps I.bk).lt;exact jy (by decide) h
def JK{Q:QQX}(hu:A.units+1<wP)(I:Inv X Xn Y H s)(g:AN H a y (ga v))(ry:qy y u)(h:∀w' s',Inv X Xn Y H s'->qy v w'->Q w' s'):
  Ch (pi X.prog X.w) A (Y' (.ref a) u) Q E s:=by
 rcases g with⟨kvs,k,e,ey,l⟩|⟨kvs,k,b,e,ey,eb,l⟩
 .subst ey;obtain⟨z,hd,vs,Yj,dd⟩:=DN I.mH e;obtain⟨w',hw,YT⟩:=xn.some_of (v:=v) (o:=valueAt vs k) (by rw[l];exact Yj.val k);exact wpAny_getItem_of (D9 ry) dd.mapOf hw (h w' _ (I.tok _) YT)
 .subst ey;cases(show u=Value.ref b from ry);obtain⟨z,hd,xs,Yj,dd⟩:=DY I.mH e;obtain⟨w',hw,YT⟩:=xn.some_of (v:=v) (o:=(atKey xs k).map (·.2)) (by rw[l];exact Yj.val k);obtain⟨p,hp,Xx⟩:=jV.mp hw;refine wpAny_getItem_heap (iu hu) (CH I.mH eb) dd hp ?_;rw[Xx];exact h w' _ (I.tok _) YT
def Wk{Q:QQX}(hu:A.units+1<wP)(I:Inv X Xn Y H s)(g:AN H a y o)(ry:qy y u)(h:∀s',Inv X Xn Y H s'->Q (.bool o.isSome) s'):
  Ch (pi X.prog X.w) A (wp .In u (.ref a)) Q E s:=by
 rcases g with⟨kvs,k,e,ey,l⟩|⟨kvs,k,b,e,ey,eb,l⟩
 .subst ey;obtain⟨z,hd,vs,Yj,dd⟩:=DN I.mH e;refine wpAny_in_of (D9 ry) hd dd.mapOf ?_;rw[<-(Yj.val k).m7,<-l];exact h _ (I.tok _)
 .subst ey;cases(show u=Value.ref b from ry);obtain⟨z,hd,xs,Yj,dd⟩:=DY I.mH e;refine wpAny_in_heap (iu hu) (CH I.mH eb) hd dd ?_;have q:=(Yj.val k).m7;rw[jl]at q;rw[<-q,<-l];exact h _ (I.tok _)
def Iv{t':Nat}(I:Inv X Xn Y H s)(mu:Uz (H a))(hs:Heap.SameBut a s.heap h')(he:∃q,h'.get? a=ga q)(new:rZ X.prog X.w (upd H a ob) h' a ob):
  Inv X Xn Y (upd H a ob) {s with heap:=h',toks:=t'}:=
 I.write (x:=a) (e:=a) mu (.inl Z') (λb q hb z=>(hs.2 b hb).trans z) he new
def CC{H':Hp}{h':Go}{kvs:T0 (qL×V)}(z:kvs.length<=Uf)(hd:(a==TD)=pc)(Yj:KV kvs vs)(dd:h'.DictOf (rg P w) a vs):
  rZ P w H' h' a (.dK kvs):=⟨z,hd,vs,Yj,dd⟩
def Kv{Q:Unit->Sd->Prop}(hu:A.units+1<wP)(I:Inv X Xn Y H s)(g:Kk H a y v H')(ry:qy y u)(rv:qy v r)(h:∀s',Inv X Xn Y H' s'->Q () s'):
  Ch (pi X.prog X.w) A (setItem (.ref a) u r) Q E s:=by
 rcases g with⟨kvs,k,e,ey,l,eH⟩|⟨kvs,k,b,e,ey,eb,l,eH⟩
 .subst ey eH;obtain⟨z,hd,vs,Yj,dd⟩:=TU I.mH e;have hz:vs.length<=Uf:=by rw[<-Yj.length];exact z
  have hl:(yo kvs k v).length<=Uf:=by have:=Aw kvs k v;lia
  refine wpAny_setItem_pairs (hsz:=hz) (D9 ry) dd λh' dd' hs=>h _ ?_;have he:∃q,h'.get? a=ga q:=let⟨q,_,_,hq,_⟩:=dd';⟨q,hq⟩;exact Iv I (by rw[e];exact True.intro) hs he (CC hl hd (Yj.put k rv) dd')
 .subst ey eH;cases(show u=Value.ref b from ry);obtain⟨z,hd,xs,Yj,dd⟩:=Ur I.mH e;have hz:xs.length<=Uf:=by rw[<-jg Yj];exact z
  have hl:(yo kvs k v).length<=Uf:=by have:=Aw kvs k v;lia
  refine wpAny_setItem_heap (hsz:=hz) (iu hu) (CH I.mH eb) dd λh' dd' hs=>h _ ?_;obtain⟨q,es,ep,hq,h2,h3,h4,_,h5⟩:=dd';refine Iv I (by rw[e];exact True.intro) hs ⟨q,hq⟩ ⟨hl,hd,_,(Yj.put k eb rv).keeps λc ys ec=>?_,q,es,ep,hq,h2,h3,h4,h5⟩;rw[pS (Ug ec e (λz=>nomatch z))];exact ec
end
variable {kvs:T0 (qL × V)}{k:qL}
section
variable {s:Sd}{A:Ar}{E:QQX}
end
def Gd{Xn:QQY}(I:Inv X Xn Y H s)(g:AN H a y o):s.TypeIs (.ref a) "dict":=by
 rcases g with⟨kvs,k,e,_,_⟩|⟨kvs,k,b,e,_,_,_⟩
 .obtain⟨_,_,vs,_,dd⟩:=DN I.mH e;exact dd.typeIs
 .obtain⟨_,_,xs,_,dd⟩:=DY I.mH e;exact dd.typeIs
def Ub(td ty tv:TE):TS:=λD Y H=>tv Y H λv H1=>td Y H1 λx H2=>ty Y H2 λy H3=>∃a H4,x=.ref a/\Kk H3 a y v H4/\D.nx Y H4
variable {i e value:zn}{pos Xw Yq:Pos}{td ty tv:TE}
section
variable {o:zn}
def Iu(hu:X.A.units+1<wP)(ho:PE X o td)(hi:PE X i ty)(hv:PE X value tv)(hs:Ix value (ga (.Subscript o i Xw)) pos.line X.env=pure pc):
  PS X (.Assign [.Subscript o i Xw] value pos) (Ub td ty tv):=by
 intro Xn s Y H D I h;refine wpAny_Assign_Subscript (rR (hv Xn s Y H _ I h) λr s1 zz=>x5 zz λv H1 I1 rv q1=>rR (ho Xn s1 Y H1 _ I1 q1) λu s2 zz=>x5 zz λx H2 I2 rx q2=>rR (hi Xn s2 Y H2 _ I2 q2) λiv s3 zz=>?_) hs;obtain⟨y,H3,I3,ry,a,H4,ex,g,q3⟩:=zz;subst ex;obtain rfl:u=Value.ref a:=rx;exact Kv hu I3 g ry rv λs4 I4=>⟨Y,H4,I4,q3⟩
end
def KR(h:Go)(hb:TD<h.objs.size):rZ P w H (h.push {cls:=.type "dict",data:=.dict #[]}) h.objs.size (.dK []):=
 ⟨eU _,fW.mpr (dX (dU hb)),[],.nil,lP h⟩
def S9:TE:=λ_ H Q=>∀p,H p=Fa->Q (.ref p) (upd H p (.dK []))
def L9:PE X (.Dict [] [] pos) S9:=λXn s Y H Q I h=>wpAny_Dict_empty ⟨.ref s.heap.objs.size,_,I.laid (a:=s.heap.objs.size) (o:=.dK []) (t':=s.toks) (λ_ _ q=>dg _ q) (dq _) (KR s.heap I.big),Z',h _ (I.mH.fresh (dq _))⟩
structure M1(X:Cx)(o:zn)(m:Str)(Xq:Pos)(e:zn)(Xu:Pos):Prop where
 base:wE o m X.env (No o X.env)=No o X.env
 oV:((wv Xu (Tk [e] X.env)).all (λx=>!x.1)&&(xL Xu (Op [] X.env)).all (λx=>x.1.isSome)
  &&decide (([e]:List zn).length+([]:List XXb).length+(if ([]:List XXb).isEmpty then 0 else 1)<30))=Db
 line:(Xq.endLine==Xu.line)=Db
 trees:wv Xu (Tk [e] X.env)=[(pc,No e X.env)]
structure M2(X:Cx)(o:zn)(m:Str)(Xq:Pos)(e f:zn)(Xu:Pos):Prop where
 base:wE o m X.env (No o X.env)=No o X.env
 oV:((wv Xu (Tk [e,f] X.env)).all (λx=>!x.1)&&(xL Xu (Op [] X.env)).all (λx=>x.1.isSome)
  &&decide (([e,f]:List zn).length+([]:List XXb).length+(if ([]:List XXb).isEmpty then 0 else 1)<30))=Db
 line:(Xq.endLine==Xu.line)=Db
 trees:wv Xu (Tk [e,f] X.env)=[(pc,No e X.env),(pc,No f X.env)]
def WP(H:Hp)(a:lf):Prop:=(∃kvs,Rd H a (.dK kvs))\/∃kvs,Rd H a (.dT kvs)
def To{Xn:QQY}(I:Inv X Xn Y H s)(d:WP H a):
  s.TypeIs (.ref a) "dict"/\(∀b,Value.ref a=.ref b->∃ob,s.heap.get? b=ga ob/\ob.dict=Fa)/\(a==TD)=pc:=by
 rcases d with⟨kvs,e⟩|⟨kvs,e⟩
 .obtain⟨_,hd,vs,_,dd⟩:=DN I.mH e;refine⟨dd.typeIs,λb q=>?_,hd⟩;cases q;obtain⟨ob,_,_,h1,h2,_⟩:=dd;exact⟨ob,h1,h2.2.1⟩
 .obtain⟨_,hd,xs,_,dd⟩:=DY I.mH e;refine⟨dd.typeIs,λb q=>?_,hd⟩;cases q;obtain⟨ob,_,_,h1,h2,_⟩:=dd;exact⟨ob,h1,h2.2.1⟩
variable {d:V}
section
variable {s:Sd}{o:Option V}{A:Ar}{E:QQX}
def Rm{Q:QQX}(hu:A.units+1<wP)(I:Inv X Xn Y H s)(g:AN H a y o)(ry:qy y u)(rd:qy d r)(h:∀w' s',Inv X Xn Y H s'->qy (o.getD d) w'->Q w' s'):
  Ch (pi X.prog X.w) A (call (.builtin "dict.get") [.ref a,u,r]) Q E s:=by
 rcases g with⟨kvs,k,e,ey,l⟩|⟨kvs,k,b,e,ey,eb,l⟩
 .subst ey;obtain⟨z,hd,vs,Yj,dd⟩:=DN I.mH e;refine call_meetsIn iI dd.typeIs jW (jK _ _ _) (meets_dict_get_default (rg X.prog X.w) a (D9 ry) hd r) ⟨_,dd.mapOf,h _ _ (I.tok _) ?_⟩;rw[l];exact(Yj.val k).getD rd
 .subst ey;cases(show u=Value.ref b from ry);obtain⟨z,hd,xs,Yj,dd⟩:=DY I.mH e;refine call_meetsIn iI dd.typeIs jW (jK _ _ _) (meetsH_dict_get_default (tupleKind (rg X.prog X.w)) a b hd r) ⟨iu hu,k,xs,CH I.mH eb,dd,h _ _ (I.tok _) ?_⟩;rw[l];exact(Yj.val k).getD rd
end
def Sb(td ty tx:TE):TE:=λY H Q=>td Y H λx H1=>∃a,x=.ref a/\WP H1 a/\ty Y H1 λy H2=>tx Y H2 λz H3=>∃o,AN H3 a y o/\Q (o.getD z) H3
variable {f:zn}{Xq Xu:Pos}{tx:TE}
section
variable {o:zn}
def NJ(hu:X.A.units+1<wP)(ho:PE X o td)(he:PE X e ty)(hf:PE X f tx)(m:M2 X o "get" Xq e f Xu):PE X (.Call (.Attribute o "get" Xq) [e,f] [] Xu) (Sb td ty tx):=by
 intro Xn s Y H Q I h;refine wpAny_Call_method m.base m.oV m.line PySem.F.plainAttrs_dict iI PySem.F.type_dict_get (rR (ho Xn s Y H _ I h) λu s1 zz=>?_);obtain⟨x,H1,I1,rx,a,ex,d,q1⟩:=zz;subst ex;obtain rfl:u=Value.ref a:=rx;obtain⟨t1,t2,_⟩:=To I1 d;refine⟨t1,t2,?_⟩;rw[m.trees];refine jU Z' (j6 (g9 (rR (he Xn s1 Y H1 _ I1 q1) λiv s2 zz=>x5 zz λy H2 I2 ry q2=>
  g9 (rR (hf Xn s2 Y H2 _ I2 q2) λfv s3 ⟨z,H3,I3,rz,ov,g,q3⟩=>iG ?_))))
 exact Rm hu I3 g ry rz λw' s4 I4 YT=>⟨_,H3,I4,YT,q3⟩
end
section
variable {s:Sd}{A:Ar}{E:QQX}
end
section
variable {s:Sd}{A:Ar}{E:QQX}
end
section
variable {κ:Type}[DecidableEq κ]
end
noncomputable def A6(env:Env):T0 (Str×wS)->T0 (Str×lf)->T0 (Str×lf)
 | [],acc=>acc
 | (n,k)::r,acc=>A6 env r (if k==.free then(n,(env.cells.lookup n).getD 0)::acc else acc)
theorem GJ{env:Env}{f:(Str×wS)->T0 (Str×lf)->Sem (ForInStep (T0 (Str×lf)))} (hf:∀x cs,(x.2=.free->∃c,env.cells.lookup x.1=ga c)->f x cs=pure (.yield (if x.2==.free then(x.1,(env.cells.lookup x.1).getD 0)::cs else cs))):
  ∀(l:T0 (Str×wS)) (acc:T0 (Str×lf)),(∀x∈l,x.2=.free->∃c,env.cells.lookup x.1=ga c)->forIn l acc f=pure (A6 env l acc)
 | [],acc,_=>by rw[jX];rfl
 | (n,k)::r,acc,h=>by rw[jM,hf (n,k) acc (h _ dH),pure_bind];exact GJ hf r _ λx hx=>h x (dF _ hx)
def yw{scope:XXa}{env:Env}(h:∀x∈scope.names,x.2=.free->∃c,env.cells.lookup x.1=ga c):closureFor scope env=pure (A6 env scope.names []):=by
 unfold closureFor;have e:=GJ (env:=env) (f:=λ(x:Str×wS) (cs:T0 (Str×lf))=>(do
   if x.2==.free then
    let a<-cellOf env x.1
    pure (ForInStep.yield ((x.1,a)::cs))
   else pure (ForInStep.yield cs))) (λx cs hx=>by
  cases hk:x.2==NameKind.free with
  | false=>simp
  | true=>
   obtain⟨c,hc⟩:=hx (by simpa using hk);simp[cellOf,hc]) scope.names [] h
 first
  | exact(eI (·>>=pure) e).trans (by simp)
  | (simp only[bind_pure];exact e)
  | (rw[<-e];rfl)
theorem LB{env:Env}{x:Str}{c:lf}:∀{l:T0 (Str×wS)} {acc:T0 (Str×lf)},(∀x∈l,x.2=.free->∃c,env.cells.lookup x.1=ga c)->(∀x c,acc.lookup x=ga c->env.cells.lookup x=ga c)->(A6 env l acc).lookup x=ga c->env.cells.lookup x=ga c
 | [],acc,_,ha,h=>ha x c h
 | (n,k)::r,acc,hl,ha,h=>by
  refine LB (l:=r) (acc:=if k==.free then(n,(env.cells.lookup n).getD 0)::acc else acc) (λy hy=>hl y (dF _ hy)) (λy d hd=>?_) h;cases hk:k==NameKind.free with
  | false=>rw[hk]at hd;exact ha y d (by simpa using hd)
  | true=>
   rw[hk,df Z']at hd;obtain⟨e,he⟩:=hl (n,k) dH (by simpa using hk);rw[eM]at hd;cases hy:y==n with
   | true=>
    rw[hy]at hd;have yn:y=n:=by simpa using hy
    subst yn;have he:env.cells.lookup y=ga e:=he;rw[he]at hd ⊢;exact hd
   | false=>rw[hy]at hd;exact ha y d hd
theorem Mz{x:Str}:∀{l:T0 (Str×wS)} {acc:T0 (Str×lf)},(∃c,acc.lookup x=ga c)->∃c,(A6 env l acc).lookup x=ga c
 | [],_,h=>h
 | (n,k)::r,acc,h=>by
  refine Mz (l:=r) ?_;cases hk:k==NameKind.free with
  | false=>simpa using h
  | true=>
   rw[df Z',eM];cases hy:x==n with
   | true=>exact⟨_,Z'⟩
   | false=>exact h
theorem G'{x:Str}:∀{l:T0 (Str×wS)} {acc:T0 (Str×lf)},l.lookup x=ga .free->∃c,(A6 env l acc).lookup x=ga c
 | [],_,h=>by simp at h
 | (n,k)::r,acc,h=>by
  rw[eM]at h;cases hy:x==n with
  | true=>rw[hy]at h;have hk:k=.free:=dv h;subst hk;refine Mz (l:=r) ⟨(env.cells.lookup n).getD 0,?_⟩;show List.lookup x (if NameKind.free==NameKind.free then(n,(env.cells.lookup n).getD 0)::acc else acc)=ga ((env.cells.lookup n).getD 0);rw[df (by rfl),eM,hy]
  | false=>rw[hy]at h;exact G' (l:=r) h
theorem ui{env:Env}{x:Str}:∀{l:T0 (Str×wS)},(l.map λ(n,k)=>if (k==NameKind.free&&env.scope.kind==.function&&env.kindOf n==ga .cell)then(n,NameKind.cell)else(n,k)).lookup x
   = (l.lookup x).map λk=>if (k==NameKind.free&&env.scope.kind==.function&&env.kindOf x==ga .cell)then NameKind.cell else k
 | []=>rfl
 | (n,k)::r=>by
  rw[d6];show List.lookup x ((if (k==NameKind.free&&env.scope.kind==.function&&env.kindOf n==ga .cell)=Db then(n,NameKind.cell)else(n,k))::_)=_;cases hy:x==n with
  | true=>
   have yn:x=n:=by simpa using hy
   subst yn;by_cases hc:(k==NameKind.free&&env.scope.kind==.function&&env.kindOf x==ga .cell)=Db
   .rw[df hc,eM,eM,hy];simp only[jN];rw[df hc]
   .rw[de hc,eM,eM,hy];simp only[jN];rw[de hc]
  | false=>
   by_cases hc:(k==NameKind.free&&env.scope.kind==.function&&env.kindOf n==ga .cell)=Db
   .rw[df hc,eM,eM,hy];exact ui
   .rw[de hc,eM,eM,hy];exact ui
noncomputable def N8(ix:T0 (Option Nat))(Y:St):St:=ix.map λo=>o.bind λi=>(Y[i]?).join
abbrev Cx.comp(X:Cx)(scope:XXa)(N':QQQ)(C:lf)(s0:Sd)(H0:Hp)(ex:QXQ):Cx:=
 {X with N:=N',s₀:=s0,H₀:=H0,env:=compEnvC scope (A6 X.env scope.names []) C X.env,outer:=X.stack,ex:=ex,fn:=λ_=>pc,pn:=[],xe:=λ_ _=>False}
structure rV(X:Cx)(scope:XXa)(ix:List (Option Nat))(N':QQQ):Prop where
 kind:scope.kind=.function
 oj:∀y∈scope.names,y.2≠.cell
 nam:∀y∈scope.names,y.2=.local->scope.names.lookup y.1=ga .local
 fre:∀y∈scope.names,y.2=.free->X.env.scope.names.lookup y.1=ga .cell\/X.env.scope.names.lookup y.1=ga .free
 len:ix.length=N'.length
 at_:∀(j i:Nat) (x:Str),ix[j]?=ga (ga i)->N'[j]?=ga x->X.N[i]?=ga x/\scope.names.lookup x=ga .free
variable {scope:XXa}{ix:T0 (Option Nat)}{N':QQQ}{fp:QXQ}
section
variable {s:Sd}
def rV.cells(S:rV X scope ix N')(ok:X.Ok):∀x∈scope.names,x.2=.free->∃c,X.env.cells.lookup x.1=ga c:=λx hx hk=>ok.has x.1 (S.fre x hx hk)
def rV.sub(S:rV X scope ix N')(ok:X.Ok){x:Str}{c:lf}(h:(A6 X.env scope.names []).lookup x=ga c):X.env.cells.lookup x=ga c:=LB (S.cells ok) (λ_ _ z=>by simp at z) h
theorem vd{x:Str}{k:wS}:∀{l:T0 (Str×wS)},l.lookup x=ga k->(x,k)∈l
 | [],h=>by simp at h
 | (n,j)::r,h=>by
  rw[eM]at h;cases hy:x==n with
  | true=>
   rw[hy]at h;have yn:x=n:=by simpa using hy
   subst yn;rw[dv h];exact dH
  | false=>rw[hy]at h;exact dF _ (vd h)
def Inv.comp{C:lf}{h1:Go}{tk:Nat}(I:Inv X Xn Y H s)(S:rV X scope ix N')(hf:∀b∈fp,zE X Xn H b)(XD:∀b∈fp,b<s.heap.objs.size)(hC:s.heap.objs.size<=C) (k:∀b o,s.heap.get? b=ga o->h1.get? b=ga o) (hn:h1.Ns C (λ_=>Fa)):Inv (X.comp scope N' C s H fp) (X.pn++Xn) (N8 ix Y) H {s with heap:=h1,toks:=tk}:=by
 have sub:∀{x:Str} {c:lf},(A6 X.env scope.names []).lookup x=ga c->X.env.cells.lookup x=ga c:=λh=>S.sub I.ok h;refine⟨⟨I.ok.mod,S.kind,I.ok.glob,I.ok.blt,hC,λx y c e1 e2=>I.ok.inj x y c (sub e1) (sub e2),λx hx=>?_,λ_ _ z=>(dC z).elim,I.ok.hd,I.ok.frames,.inl Z',λb hb=>⟨dU (dQ (XD b hb) hC),λx c e=>(hf b hb).2.2.2.2.1 x c (sub e)⟩,I.bs,dZ I.ok.nO I.sz,λb o e hb=>?_,λb hb hfs=>?_,I.stack,I.nv⟩,Z',I.bare,Un.kept k,⟨_,hn,λi x v e1 e2 e3=>?_⟩,λx c e=>?_,I.mH.fresh hC,λx c e=>I.mM x c (sub e),λp hp=>?_,I.mH.kept k,?_⟩
 .have hx:(relabel scope X.env).names.lookup x=ga .cell\/(relabel scope X.env).names.lookup x=ga .free:=hx;have e:(relabel scope X.env).names.lookup x=(scope.names.lookup x).map λk=>if (k==NameKind.free&&X.env.scope.kind==.function&&X.env.kindOf x==ga .cell)then NameKind.cell else k:=ui
  rw[e]at hx;cases q:scope.names.lookup x with
  | none=>rw[q]at hx;rcases hx with hx|hx<;>simp at hx
  | some kd=>
   cases kd with
   | free=>exact G' q
   | cell=>exact absurd Z' (S.oj _ (vd q))
   | _=>rw[q]at hx;rcases hx with hx|hx<;>simp at hx
 .rcases(hf b hb).2.2.2.1 with z|z
  .exact I.ok.nF b o e z
  .exact absurd (dQ (dE e) (dZ I.ok.nO z)) (eS _)
 .rcases dz.mp (I.m9 b hfs)with z|z
  .exact(hf b hb).2.1 z
  .exact(hf b hb).2.2.1 z
 .have Zz:(ix[i]?).map (λo=>o.bind λi=>(Y[i]?).join)=ga (ga v):=by have z:(N8 ix Y)[i]?=ga (ga v):=e2;unfold N8 at z;rw[dA]at z;exact z
  cases q:ix[i]? with
  | none=>rw[q]at Zz;cases Zz
  | some o=>
   rw[q]at Zz;cases o with
   | none=>cases Zz
   | some j=>
    have ZA:(Y[j]?).join=ga v:=dv Zz;have e4:Y[j]?=ga (ga v):=by
     cases r:Y[j]? with
     | none=>rw[r]at ZA;cases ZA
     | some w=>rw[r]at ZA;exact eI ga ZA
    obtain⟨n1,n2⟩:=S.at_ i j x q e1;obtain⟨m,hm,hl⟩:=I.loc;have hk:=S.fre _ (vd n2) Z';have hv:Ut X.env.scope x:=by
     rcases hk with z|z
     .exact .inr (.inl z)
     .exact .inr (.inr z)
    obtain⟨u,ru,lk⟩:=hl j x v n1 e4 hv;refine⟨u,ru,?_⟩;have ZC:X.env.kindOf x=ga .cell\/X.env.kindOf x=ga .free:=hk;rcases lk with⟨z,_⟩|⟨_,c,hc,hcell⟩
    .rcases ZC with y|y<;>(rw[y]at z;cases z)
    .obtain⟨c',hc'⟩:=G' (env:=X.env) (acc:=[]) n2;have:=sub hc';rw[hc]at this;cases this;refine .inr ⟨?_,c,hc',hcell.keeps k⟩;show(relabel scope X.env).names.lookup x=ga .cell\/(relabel scope X.env).names.lookup x=ga .free;have e:(relabel scope X.env).names.lookup x=(scope.names.lookup x).map λk=>if (k==NameKind.free&&X.env.scope.kind==.function&&X.env.kindOf x==ga .cell)then NameKind.cell else k:=ui
     rw[e,n2];simp only[jN];split
     .exact .inl Z'
     .exact .inr Z'
 .obtain⟨v,q⟩:=I.cell x c (sub e);exact⟨v,q.keeps k⟩
 .obtain⟨e,n,ne,nf,d⟩:=I.pin p (by simpa using hp);refine⟨k _ _ e,n,dU (dQ (dE e) hC),λz=>?_,d⟩;rcases dz.mp (I.m9 p.1 z)with y|y
  .exact ne y
  .exact nf y
 .show(N8 ix Y).length=N'.length;unfold N8;rw[cW];exact S.len
end
section
variable {prog:Pg}{w:Wo}{A:Ar}{R:Result→Sd→Prop}{s:Sd}
def xC{Yk XS iter:zn}{X1:T0 zn}{scope:XXa}{pos:Pos}{it acc:Vl}{env:Env}(I:Nat->Sd->Prop){EX:QQX}(hEX:∀e s',EX e s'->notedBy (pi prog w) A env (λx s'=>R (.error x) s') e s') (turn:∀n s,I n s->Ch (pi prog w) A (pyNext it) (λr s₁=>match r with
   | none=>R (.ok .next) s₁
   | some v=>Ch (pi prog w) A (XXf XS it v) (λ_ s₁=>Ch (pi prog w) A (assign XS env v) (λ_ s₂=>
     Ch (pi prog w) A (forIn X1 Db λc r=>if r=Db then do let ok<-isTrue c env (No c env);pure (ForInStep.yield ok)else pure (ForInStep.yield r)) (λok s₃=>
      if ok=Db then Ch (pi prog w) A (No Yk env) (λx s₄=>
       Ch (pi prog w) A (call (.builtin "list.append") [acc,x]) (λ_ s₅=>∃m,m<n/\I m s₅) (λ_ _=>False) s₄) EX s₃
      else ∃m,m<n/\I m s₃) (λ_ _=>False) s₂) (λ_ _=>False) s₁) (λ_ _=>False) s₁) (λ_ _=>False) s)
  (n:Nat) (h:I n s):
  XXg (pi prog w) A (.compLoop (.ListComp Yk [⟨XS,iter,X1,0⟩] scope pos) 0 it acc env) R s:=by
 refine codeAny_loop Z' I (λn s hI=>?_) n h;show Ch _ A ((compTurn (.ListComp Yk [⟨XS,iter,X1,0⟩] scope pos) 0 it acc env).onRaise (λx=>do noteFrame x env;theTreesLotGoes x)) _ _ s;refine wpAny_noted ?_;rw[compTurn_list];refine cX (im (cX (eC (turn n s hI) (λr s₁ h₁=>?_) λ_ _ h'=>h'.elim)));cases r with
 | none=>exact dw h₁
 | some v=>
  refine cX (eC h₁ (λ_ s₁' h₁'=>?_) λ_ _ h'=>h'.elim);refine cX (eC h₁' (λ_ s₂ h₂=>cX (eC h₂ (λok s₃ h₃=>?_) λ_ _ h'=>h'.elim)) λ_ _ h'=>h'.elim);cases ok with
  | false=>exact dw ⟨Z',h₃⟩
  | true=>exact cX (cX (eC h₃ (λx s₄ h₄=>cX (eC h₄ (λ_ s₅ h₅=>dw (dw ⟨Z',h₅⟩)) λ_ _ h'=>h'.elim)) hEX))
end
def PF(X:Cx)(X1:T0 zn)(t:TT):Prop:=
 ∀(Xn:QQY) (s:Sd) (Y:St) (H:Hp) (Q:Bool->Hp->Prop),Inv X Xn Y H s->t Y H Q->
  Ch (pi X.prog X.w) X.A (forIn X1 Db λc r=>if r=Db then do let ok<-isTrue c X.env (No c X.env);pure (ForInStep.yield ok)else pure (ForInStep.yield r)) (TP X Xn Y Q) X.xe s
def UO:TT:=λ_ H Q=>Q Db H
def Sh:PF X [] UO:=λ_ _ _ H _ I h=>wpAny_tests_nil ⟨H,I,h⟩
def RQ(h:PT X c t):PF X [c] t:=λXn s Y H Q I q=>wpAny_tests_one (h Xn s Y H Q I q)
def QK(ix:T0 (Option Nat))(g:TG)(tt:TT)(te:TE)(Y:St)(J:It)(Q:VK)(H:Hp):Prop:=
 ∃W:Nat->Nat->T0 V->St->Hp->Prop,(∃m,W 0 m [] (N8 ix Y) H)/\∀i m ys σ' H,W i m ys σ' H->
  (J.stop i H/\ys.length<=Uf/\∀D,H D=Fa->Q (.ref D) (upd H D (.lst ys)))\/
  (J.go i H/\ys.length<Uf/\∀x H',J.oN i H x H'->g x σ' H' λσ2 H2=>tt σ2 H2 λb H3=>if b=Db then te σ2 H3 λy H4=>∃m',m'<m/\W (i+1) m' (ys++[y]) σ2 H4 else ∃m',m'<m/\W (i+1) m' ys σ2 H3)
def NE(ix:T0 (Option Nat))(wi:TI)(g:TG)(tt:TT)(te:TE):TE:=λY H Q=>wi Y H λJ H1=>QK ix g tt te Y J Q H1
variable {tg iter Yk:zn}{X1:T0 zn}{g:TG}{tt:TT}{te:TE}{J:It}{it:lf}{tn:Nat→Go→Prop}{Q:VK}
section
variable {s:Sd}
def B1{XP:lf->Sd->Hp->QXQ->QQY->St->Vl->Sd->Prop}{RR:Vl->lf->Result->Sd->Prop}{E:QQX}(hc:X.calm=Db)(S:rV X scope ix N')(I:Inv X Xn Y H s)(T:Gv X.prog X.w X.K tg J fp it tn)(st:tn 0 s.heap)(hf:∀b∈fp,zE X Xn H b) (hg:∀C s0 H0 ex,PG (X.comp scope N' C s0 H0 ex) tg g) (ht:∀C s0 H0 ex,PF (X.comp scope N' C s0 H0 ex) X1 tt) (he:∀C s0 H0 ex Xn s Y H Q,Inv (X.comp scope N' C s0 H0 ex) Xn Y H s->te Y H Q->Ch (pi X.prog X.w) X.A (No Yk (X.comp scope N' C s0 H0 ex).env) (EP (X.comp scope N' C s0 H0 ex) Xn Y Q) (XP C s0 H0 ex Xn Y) s) (hx:∀C D e s',s.heap.objs.size<=C->(∃Yp σ',(∀b∈fp,∃o,(b,o)∈Yp)/\XP C s H fp Yp σ' e s')->notedBy (pi X.prog X.w) X.A (compEnvC scope (A6 X.env scope.names []) C X.env) (λx s'=>RR D C (.error x) s') e s') (hw:QK ix g tt te Y J Q H) (Xs:∀D C s' H' m,s.heap.objs.size<=C->H' C=Fa->s'.heap.Ns C m->Inv X Xn Y H' s'->Q (.ref D) H'->RR (.ref D) C (.ok .next) s'):
  Ch (pi X.prog X.w) X.A (newList []) (λacc s₃=>Ch (pi X.prog X.w) X.A (newFunctionEnv scope X.env.globals (A6 X.env scope.names []) [] X.env.qual Fa .none (ga X.env)) (λX9 s₄=>
   XXg (pi X.prog X.w) X.A (.compStart (.ListComp Yk [⟨tg,iter,X1,0⟩] scope pos) 0 (.ref it) acc {X9 with scope:=relabel scope X.env}) (RR acc X9.locals) s₄) E s₃) E s:=by
 obtain⟨W,⟨m0,w0⟩,turn⟩:=hw;have XD:∀b∈fp,b<s.heap.objs.size:=λb hb=>by obtain⟨o,e,_⟩:=T.obj _ _ st b hb;exact dE e
 refine fS (wpAny_newFunctionEnv S.oj (by intro y hy;simp at hy) (λh₁ Y9 ZD=>?_) S.kind);dsimp only at Y9 ZD ⊢;generalize hH2:s.heap.push {cls:=.type "list",dict:=none,data:=.seq ([]:T0 Vl).toArray}=H2 at Y9 ZD ⊢;have hC:H2.objs.size=s.heap.objs.size+1:=by rw[<-hH2,fK]
 have hDC:s.heap.objs.size≠H2.objs.size:=by rw[hC];exact dU (fG _)
 have ZE:s.heap.objs.size<=H2.objs.size:=by rw[hC];exact hU _
 have ZU:∀b,b<s.heap.objs.size->b≠H2.objs.size/\b≠s.heap.objs.size:=λb hb=>⟨by rw[hC];exact dU (jm hb),dU hb⟩;have XY:∀b o,s.heap.get? b=ga o->h₁.get? b=ga o:=λb o e=>ZD.extBut b o (ZU b (dE e)).1 (dg _ (hH2 ▸ dg _ e));have hacc:h₁.get? s.heap.objs.size=ga {cls:=.type "list",data:=.seq ([]:T0 Vl).toArray 0}:=ZD.extBut _ _ hDC (dg _ (hH2 ▸ dJ _ Z'));have Y9:h₁.Ns H2.objs.size (λ_=>Fa):=Y9;have YF:∀{H':Hp} {pl:QQY},(∀b∈fp,H' b=Fa)->(∀p∈pl,p.1∉fp)->∀b∈fp,zE (X.comp scope N' H2.objs.size s H fp) (X.pn++Xn++pl) H' b:=λ{H' pl} hn XC b hb=>by
  refine⟨hn b hb,dU (dQ (XD b hb) ZE),λz=>?_,.inl hb,λx c e=>(hf b hb).2.2.2.2.1 x c (S.sub I.ok e),λp hp=>?_⟩
  .rcases dz.mp (I.m9 b z)with y|y
   .exact(hf b hb).2.1 y
   .exact(hf b hb).2.2.1 y
  .rcases dO.mp (show p∈X.pn++Xn++pl by simpa using hp)with z|z
   .exact(hf b hb).2.2.2.2.2 p z
   .intro q;exact XC p z (q ▸ hb)
 have loop:∀s₃:Sd,s₃={s with heap:=h₁,toks:=s.toks+([]:T0 (Str×Vl)).length}->
   XXg (pi X.prog X.w) X.A (.compLoop (.ListComp Yk [⟨tg,iter,X1,0⟩] scope pos) 0 (.ref it) (.ref s.heap.objs.size) (compEnvC scope (A6 X.env scope.names []) H2.objs.size X.env))
    (RR (.ref s.heap.objs.size) H2.objs.size) s₃:=by
  rintro s₃ rfl
  refine xC (hEX:=λe s' z=>hx _ _ e s' ZE z) (λn s'=>∃(i:Nat) (ys:T0 V) (us:T0 Vl) (k:Nat) (σ':St) (H':Hp),Inv (X.comp scope N' H2.objs.size s H fp) (X.pn++Xn) σ' H' s'/\tn i s'.heap/\(∀b∈fp,H' b=Fa)/\H' s.heap.objs.size=Fa/\
   s'.heap.get? s.heap.objs.size=ga {cls:=.type "list",data:=.seq us.toArray k}/\qw ys us/\ys.length<=Uf/\W i n ys σ' H') ?_ m0
   ⟨0,[],[],0,N8 ix Y,H,I.comp S hf XD ZE XY Y9,T.keep _ _ _ st λb _ o e=>XY b o e,λb hb=>(hf b hb).1,I.mH.fresh (dq _),hacc,.nil,eU _,w0⟩
  rintro n s' ⟨i,ys,us,k,σ',H',I',YM,fr',hD',X6,rv',hz',w'⟩
  have cellD:∀x c,(X.comp scope N' H2.objs.size s H fp).env.cells.lookup x=ga c->c≠s.heap.objs.size:=λx c e=>by obtain⟨v,q⟩:=I.cell x c (S.sub I.ok e);exact dU q.lt
  have pinD:∀p∈X.pn++Xn,p.1≠s.heap.objs.size:=λp hp=>dU (dE (I.pin p hp).1);have dfs:s.heap.objs.size∉(X.comp scope N' H2.objs.size s H fp).fs:=λz=>by
   rcases dz.mp (I.m9 _ z)with y|y
   .exact absurd I.lt (by rw[<-y];exact eS _)
   .exact I.oO (dq _) y
  have dfp:s.heap.objs.size∉fp:=λz=>absurd (XD _ z) (eS _);have IpD:Inv (X.comp scope N' H2.objs.size s H fp) (X.pn++Xn++[(s.heap.objs.size,{cls:=.type "list",data:=.seq us.toArray k})]) σ' H' s':=I'.nG λp hp=>by
   rcases dO.mp hp with z|z
   .exact I'.pin p (eh _ z)
   .have e:p=(s.heap.objs.size,{cls:=.type "list",data:=.seq us.toArray k}):=by simpa using z
    subst e;exact⟨X6,hD',hDC,dfs,λv z=>by cases z⟩
  have pfp:∀p∈[((s.heap.objs.size,{cls:=.type "list",data:=.seq us.toArray k}):lf×Obj)],p.1∉fp:=λp hp=>by
   have e:p=(s.heap.objs.size,{cls:=.type "list",data:=.seq us.toArray k}):=by simpa using hp
   subst e;exact dfp
  rcases turn i n ys σ' H' w' with⟨stop,hz,q⟩|⟨go,hz,step⟩
  .refine eC (T.done (X.comp scope N' H2.objs.size s H fp) Z' Z' Z' hc i _ s' σ' H' (λ_ _=>False) IpD (YF fr' pfp) YM stop) (λr s1 ⟨hr,I1⟩=>?_) λ_ _ z=>z;subst hr;show RR _ _ _ _;have ho1:s1.heap.get? s.heap.objs.size=ga {cls:=.type "list",data:=.seq us.toArray k}:=(I1.pin (s.heap.objs.size,{cls:=.type "list",data:=.seq us.toArray k}) (by simp)).1;obtain⟨m,hnC,_⟩:=id I1.loc;refine Xs _ _ s1 (upd H' s.heap.objs.size (.lst ys)) m ZE (by rw[pS (dX hDC)];exact I1.free) hnC ?_ (q _ hD');have nD:∀b o,s.heap.get? b=ga o->b≠s.heap.objs.size:=λb o e=>(ZU b (dE e)).2;have hD0:H s.heap.objs.size=Fa:=I.mH.fresh (dq _);refine I.oB (s':=s1) (ch:=fp) I1.os ⟨λb o e n1 n2 n3=>?_,λb o e n1 n2 n3=>?_,λb o e n1 n2=>?_,λb o e n1=>?_,λb xs e=>?_,λb o u e=>?_,λb ps e=>?_⟩ (λb u e=>?_) I1.bare λb hb=>⟨(hf b hb).2.2.2.1,(hf b hb).2.1,(hf b hb).2.2.2.2.1,(hf b hb).2.2.2.2.2⟩
   .exact I1.base.keep b o e n1 n2 n3
   .exact I1.base.slot b o e n1 n2 n3
   .rw[pS (nD b o e)];exact I1.base.free b o e n1 n2
   .exact I1.base.there b o e n1
   .rw[pS (qK e hD0)];exact I1.base.nk b xs e
   .rw[pS (qK e hD0)];exact I1.base.mZ b o u e
   .obtain⟨more,z⟩:=I1.base.nB b ps e;exact⟨more,by rw[pS (qK e hD0)];exact z⟩
   .by_cases hb:b=s.heap.objs.size
    .subst hb;rw[pT]at e;cases e;exact⟨hz,us,k,rv',ho1⟩
    .rw[pS hb]at e;exact(I1.mH b u e).nq (λc v _ z=>z) (λc z=>by rw[pS (qK z hD')];exact z) (λc xs z=>by rw[pS (qK z hD')];exact z)
  .refine eC (T.item (X.comp scope N' H2.objs.size s H fp) Z' Z' Z' hc i _ s' σ' H' (λ_ _=>False) IpD (YF fr' pfp) YM go) (λr s1 ⟨v,hr,h4⟩=>?_) λ_ _ z=>z;subst hr;show Ch _ _ (XXf tg (.ref it) v) _ _ s1;refine eC h4 (λ_ s2 zz=>?_) λ_ _ z=>z;obtain⟨x,H5,I5,r5,y5,ZR,fr5⟩:=zz;have I5':=I5.pinned (YF fr5 pfp) (T.obj _ _ ZR);refine eC (hg H2.objs.size s H fp _ s2 σ' H5 x v _ I5' r5 (step x H5 y5)) (λ_ s3 ⟨σ6,H6,I6,q6⟩=>?_) λ_ _ z=>z;refine eC (ht H2.objs.size s H fp _ s3 σ6 H6 _ I6 q6) (λok s4 ⟨H7,I7,q7⟩=>?_) λ_ _ z=>z;have ZV:∀{σ7:St} {H7:Hp} {s7:Sd},Inv (X.comp scope N' H2.objs.size s H fp) (X.pn++Xn++[(s.heap.objs.size,{cls:=.type "list",data:=.seq us.toArray k})]++Bz fp s2.heap) σ7 H7 s7->
     tn (i+1) s7.heap/\(∀b∈fp,H7 b=Fa)/\H7 s.heap.objs.size=Fa/\s7.heap.get? s.heap.objs.size=ga {cls:=.type "list",data:=.seq us.toArray k}:=λ{σ7 H7 s7} K7=>by
    have pd:=K7.pin (s.heap.objs.size,{cls:=.type "list",data:=.seq us.toArray k}) (by simp);refine⟨T.keep _ _ _ ZR λb hb o e=>(K7.pin (b,o) (eh _ (eh _ (vc hb e)))).1,λb hb=>?_,pd.2.1,pd.1⟩;obtain⟨o,e,d⟩:=T.obj _ _ ZR b hb;exact(K7.pin (b,o) (eh _ (eh _ (vc hb e)))).2.1
   cases ok with
   | false=>rw[de dC]at q7 ⊢;obtain⟨m',hm,w7⟩:=q7;obtain⟨t7,f7,d7,o7⟩:=ZV I7;exact⟨m',hm,i+1,ys,us,k,σ6,H7,I7.mO.mO,t7,f7,d7,o7,rv',hz',w7⟩
   | true=>
    rw[df Z']at q7 ⊢;refine eC (he H2.objs.size s H fp _ s4 σ6 H7 _ I7 q7) (λyv s5 ⟨y,H8,I8,r8,m',hm,w8⟩=>?_) λ_ _ z=>⟨_,_,λb hb=>(by
     obtain⟨o,e,_⟩:=T.obj _ _ ZR b hb;exact⟨o,eh _ (vc hb e)⟩),z⟩
    obtain⟨t8,f8,d8,o8⟩:=ZV I8;have hsz:us.toArray.size<=Uf:=by rw[dB,<-rv'.length];exact hz'
    refine append_at (hsz:=hsz) o8 λh' sb od=>?_;refine⟨m',hm,i+1,ys++[y],us++[yv],k+1,σ6,H8,?_,T.keep _ _ _ t8 λb hb o e=>(sb.2 b λq=>dfp (q ▸ hb)).trans e,f8,d8,?_,rv'.append (.cons r8 .nil),?_,w8⟩
    .exact I8.mO.mO.turned (it:=s.heap.objs.size) (t':=s5.toks) (λb o hb e=>(sb.2 b hb).trans e) d8 hDC (.inr (dq _)) cellD (by simpa using pinD)
    .rw[od,List.push_toArray]
    .rw[c9,dM];exact hz
 exact codeAny_compStart_list (loop _ Z') (T.self _ 0 _ _ _ (T.keep _ _ _ st λb _ o e=>XY b o e) (loop _ Z'))
def Inv.letGo{C:lf}(I:Inv X Xn Y H s)(I':Inv X Xn σ' H' s')(hC:s.heap.objs.size<=C)(hn:H' C=Fa)(hs:Heap.SameBut C s'.heap h'):Inv X Xn σ' H' {s' with heap:=h'}:=
 I'.turned (t':=s'.toks) (it:=C) (λb o hb e=>(hs.2 b hb).trans e) hn (λz=>absurd (dQ I.lt hC) (by rw[z];exact eS _)) (.inr (dZ I.sz hC))
  (λx c e z=>by
   obtain⟨v,r⟩:=I.cell x c e;exact absurd (dQ r.lt hC) (by rw[z];exact eS _))
  (λp hp z=>absurd (dQ (dE (I.pin p hp).1) hC) (by rw[z];exact eS _))
def Qm(hc:X.calm=Db)(S:rV X scope ix N')(hi:PI X tg iter wi)(hg:∀C s0 H0 ex,PG (X.comp scope N' C s0 H0 ex) tg g)(ht:∀C s0 H0 ex,PF (X.comp scope N' C s0 H0 ex) X1 tt)(he:∀C s0 H0 ex,PE (X.comp scope N' C s0 H0 ex) Yk te) (hs:∀x,AT iter X.env x=pure x:=by intro _;rfl):PE X (.ListComp Yk [⟨tg,iter,X1,0⟩] scope pos) (NE ix wi g tt te):=by
 intro Xn s Y H Q I h;rw[eval_ListComp];refine jz (use:=none) Z' hs (yw (S.cells I.ok)) S.kind S.nam (eC (hi Xn s Y H _ I h) (λxv s₁ h₁=>eC h₁ (λitv s₂ h₂=>?_) λ_ _ e=>e) λ_ _ e=>e);obtain⟨it,fp,tn,J,H2,e,I2,T,XM,f2,hw⟩:=h₂;subst e;refine B1 (RR:=λacc C=>compPost (pi X.prog X.w) X.A X.xe Fa (EP X Xn Y Q) acc C) hc S I2 T XM f2 hg ht (XP:=λ_ _ _ _ _ _ _ _=>False) he (λ_ _ _ _ _ z=>by obtain⟨_,_,_,z⟩:=z;exact z.elim) hw λD C s' H' m hCs hCn hn I3 q=>?_;exact⟨m,hn,λh' ZW=>⟨.ref D,_,I2.letGo I3 hCs hCn ZW,Z',q⟩⟩
def HP{i:Nat}{x:Str}{px Za:Pos}(hN:X.N.Nodup)(hix:X.N[i]?=ga x)(hx:KM X.env.scope x)(hc:X.calm=Db)(S:rV X scope ix N')(hi:PI X tg iter wi)(hg:∀C s0 H0 ex,PG (X.comp scope N' C s0 H0 ex) tg g)(ht:∀C s0 H0 ex,PF (X.comp scope N' C s0 H0 ex) X1 tt) (he:∀C s0 H0 ex,PE (X.comp scope N' C s0 H0 ex) Yk te) (YU:Ix (.ListComp Yk [⟨tg,iter,X1,0⟩] scope pos) (ga (.Name x px)) Za.line X.env=pure Db) (hf:KL X x:=by first|exact .inl Z'|exact .inr Z'|assumption) (hs:∀x,AT iter X.env x=pure x:=by intro _;rfl):
  PS X (.Assign [.Name x px] (.ListComp Yk [⟨tg,iter,X1,0⟩] scope pos) Za) (Ri (NE ix wi g tt te) (Mq i)):=by
 intro Xn s Y H D I h;rw[exec_Assign_Name_used _ _ _ _ YU];refine cX (im (cX ?_));show Ch _ X.A (do let _<-comprehension (.ListComp Yk [⟨tg,iter,X1,0⟩] scope pos) scope X.env _ (newList []) pc (No iter X.env) (ga (assign (.Name x px) X.env))) _ _ s;refine cX (eC (jz (use:=some (assign (.Name x px) X.env)) (Q:=λ_ s'=>SP X Xn D .next s') Z' hs (yw (S.cells I.ok)) S.kind S.nam
  (eC (hi Xn s Y H _ I h) (λxv s₁ h₁=>eC h₁ (λitv s₂ h₂=>?_) λ_ _ e=>e) λ_ _ e=>e)) (λ_ s' hq=>dw (dw hq)) λ_ _ e=>e)
 obtain⟨it,fp,tn,J,H2,e,I2,T,XM,f2,hw⟩:=h₂;subst e;refine B1 (RR:=λacc C=>compPost (pi X.prog X.w) X.A X.xe (ga (assign (.Name x px) X.env)) (λ_ s'=>SP X Xn D .next s') acc C) hc S I2 T XM f2 hg ht (XP:=λ_ _ _ _ _ _ _ _=>False) he (λ_ _ _ _ _ z=>by obtain⟨_,_,_,z⟩:=z;exact z.elim) hw λDa C s' H' m hCs hCn hn I3 q=>?_;show Ch _ X.A (assign (.Name x px) X.env (.ref Da)) _ _ _;refine kU (Dw I3 hN hix hx (v:=.ref Da) Z' (λs4 I4 ⟨a,sb,ha⟩=>?_) hf);have ca:C≠a:=λz=>by
  rcases ha with y|y
  .exact absurd (dQ I2.lt hCs) (by rw[z,y];exact eS _)
  .obtain⟨v,r⟩:=I2.cell x a y;exact absurd (dQ r.lt hCs) (by rw[z];exact eS _)
 exact⟨m,hn.sameBut sb ca,λh' ZW=>⟨_,H',I2.letGo I4 hCs hCn ZW,q⟩⟩
end
def AK:typeLookup (.type "list") "__getattr__"=pure Fa:=by rw[typeLookup_type,jY];kernel_rfl
def Er:typeLookup (.type "list") "keys"=pure Fa:=by rw[typeLookup_type,jY];kernel_rfl
section
variable {prog:Pg}{w:Wo}{A:Ar}{E:QQX}
def Ng(a:lf)(u:Tok)(its:Array Vl)(n:Nat)(sl:Array (Option Vl)):
  Meets (Builtin.«object.__getattribute__» ⟨[.ref a,.str "keys" u],[]⟩) λA R s=>s.heap.get? a=ga ⟨.type "list",Fa,.seq its n,sl⟩/\A.handled=Fa/\∀h' tk e,Heap.NewAttrErr s.heap h' e (.ref a) "keys"->R (.error (.ref e)) {s with heap:=h',toks:=tk}:=
 Meets.of_wp λprog w A R s hs=>by
  obtain⟨hp,g,d,tk,os⟩:=s;obtain⟨h1,h2,h3⟩:=hs;have hT:(⟨hp,g,d,tk,os⟩:Sd).TypeIs (.ref a) "list":=⟨_,h1,Z'⟩;have f1:=Er;unfold Builtin.«object.__getattribute__»
  repeat (any_goals(first|assumption|wp_step))
  exact wpAny_raiseAttrError h2 h3 (attrMsg_fits (by decide+kernel) (by decide))
def FB{s:Sd}{a:lf}{its:Array Vl}{n:Nat}{sl:Array (Option Vl)}{Q:Option Vl->Sd->Prop}(ha:s.heap.get? a=ga ⟨.type "list",Fa,.seq its n,sl⟩)(hA:A.handled=Fa) (h:∀h' tk,(∀b o,s.heap.get? b=ga o->h'.get? b=ga o)->Q Fa {s with heap:=h',toks:=tk}):Ch (pi prog w) A (getAttr? (.ref a) "keys") Q E s:=by
 obtain⟨hp,g,d,tk,os⟩:=s;have hT:(⟨hp,g,d,tk,os⟩:Sd).TypeIs (.ref a) "list":=⟨_,ha,Z'⟩;have f1:=sub_AttributeError;have f3:=iw.lookup;have f4:=iw.bind (.ref a);have f5:=AK;unfold getAttr? getAttrBy? getAttrBy
 repeat (any_goals(first|assumption|((with_reducible show Ch _ _ (call (Value.builtin "list.__getattribute__") _ _) _ _ _);refine jp iw hT F.entry_list_ga (F.args_list_getattribute_2 _ _) (Ng a _ its n sl) ⟨ha,hA,λh' tk' e hx=>?_⟩)|wp_step))
 obtain⟨t',u',he⟩:=hx.there;show Ch _ _ (getattributeRaised _ _ _ _ _ _ _) _ _ _;unfold getattributeRaised
 repeat (any_goals(first|assumption|wp_step))
 all_goals first|exact h _ _ hx.keeps|skip
end
def Ax:entryFor table "dict.update.loop"=ga Builtin.«dict.update.loop»:=entryFor_of_tree (by kernel_rfl)
def vF:plainId "dict.update.loop"=Db:=by decide+kernel
section
variable {prog:Pg}{w:Wo}{A:Ar}{E:QQX}{R:Result→Sd→Prop}{κ:Type}[DecidableEq κ]{knd:PySem.KeyKind prog w κ}
 {I:lf} {fp wr:QXQ} {G:Array GenState->Array GenState->Prop} {P:Nat->Vl->Prop} {St:Nat->Sd->Prop}
def PK{s:Sd}{t:lf}{x y:Vl}{Q:T0 Vl->Sd->Prop}(h:s.heap.IsTuple t #[x,y])(q:Q [x,y] s):Ch (pi prog w) A (Builtin.Dict.pairItems (.ref t)) Q E s:=by
 obtain⟨⟨oc,od,oda,Ym⟩,h1,h2,n,h3⟩:=h;simp only at h2 h3;subst h2 h3;have hT:s.TypeIs (.ref t) "tuple":=⟨_,h1,Z'⟩;obtain⟨hp,g,d,tk,os⟩:=s;unfold Builtin.Dict.pairItems
 repeat (any_goals(first|assumption|wp_step))
def KC{all:T0 (κ×Vl)}(W:WalksS prog w A.in1 I fp wr G all.length P St)(d:lf)(ZT:d∉fp)(kv:Nat->Vl)(tp:Nat->lf)(hP:∀i v,P i v->v=.ref (tp i))(hw:∀j,j<all.length->tp j∉wr/\tp j≠d) (hk:∀j p,all[j]?=ga p->knd.is p.1 (kv j)=Db) (hz:all.length<=Uf):
  ∀(k i:Nat) (z:Int) (s:Sd),all.length - i=k->i<=all.length->St i s->(∀j p,all[j]?=ga p->s.heap.IsTuple (tp j) #[kv j,p.2])->s.heap.DictOf knd d (merged [] (all.take i))->
   (∀s',Moved (d::wr) G s s'->s'.heap.DictOf knd d (merged [] all)->R (.ok (.ret .none)) s')->XXg (pi prog w) A (.builtin "dict.update.loop" ⟨[.ref d,.ref I,.int z 0,.none],[]⟩) R s:=by
 have hdw:d∉wr:=λh=>ZT (W.sub _ h);have ZF:∀b∈wr,b∈d::wr:=λb hb=>dF _ hb;intro k;induction k with
 | zero=>
  intro i z s hk0 hi XJ hT hD hR;have Zm:i=all.length:=by lia
  subst Zm;refine iq Ax ?_;rw[ig vF _];show Ch _ A.in1 (pyNext (.ref I)>>=_) _ _ s;refine cX (W.done s _ _ XJ λs' hm=>?_);show Ch _ A.in1 (Builtin.Dict.addKeywords d []>>=_) _ _ s';refine cX (dw (dw (hR s' (hm.mono ZF) ?_)));rw[fP]at hD;obtain⟨o,es,ep,ho,rest⟩:=hD;exact⟨o,es,ep,hm.heap d _ hdw ho,rest⟩
 | succ k ih=>
  intro i z s hk0 hi XJ hT hD hR;have XD:i<all.length:=by lia
  have YI:all[i]?=ga all[i]:=cY XD;refine iq Ax ?_;rw[ig vF _];show Ch _ A.in1 (pyNext (.ref I)>>=_) _ _ s;refine cX (W.item i s _ _ XD XJ λv s' hPv hst' hm=>?_);obtain rfl:=hP i v hPv;have hT':∀j p,all[j]?=ga p->s'.heap.IsTuple (tp j) #[kv j,p.2]:=λj p e=>by obtain⟨o,h1,h2⟩:=hT j p e;exact⟨o,hm.heap _ _ (hw j (cZ.mp e).1).1 h1,h2⟩
  have hD':s'.heap.DictOf knd d (merged [] (all.take i)):=by obtain⟨o,es,ep,ho,rest⟩:=hD;exact⟨o,es,ep,hm.heap d _ hdw ho,rest⟩
  show Ch _ A.in1 (At [Value.ref (tp i)] _>>=_) _ _ s';refine cX (e9 (cX (wpAny_tryCatch (PK (hT' i _ YI) ?_))));show Ch _ A.in1 (At [kv i,all[i].2] (dictSet d (kv i) all[i].2)) _ _ s';refine e9 ?_;unfold dictSet;refine e9 (cX (knd.pyHash (hk i _ YI) ?_));have hl:(merged [] (all.take i)).length<=Uf:=by have:=merged_length_le [] (all.take i);rw[fg]at this;simp only[dN]at this;lia
  refine wpAny_dictSetHashed_pairs (hsz:=hl) (hk i _ YI) hD' λh' dd hs=>?_;rw[<-merged_take_succ [] all i _ YI]at dd;refine dw ⟨ko vF _,ih (i+1) _ _ (by lia) XD (W.frame _ s' _ _ hst' (hU _) λb hb o e=>?_) (λj p e=>?_) dd λZ7 hm'' hD''=>?_⟩
  .rw[hs.2 b (λz:b=d=>ZT (z ▸ hb))];exact e
  .obtain⟨o,h1,h2⟩:=hT' j p e;refine⟨o,?_,h2⟩;show h'.get? (tp j)=ga o;rw[hs.2 _ (hw j (cZ.mp e).1).2];exact h1
  .refine hR Z7 (mo W.gtrans ((hm.mono ZF).then_heap (hU _) λb o hb e=>?_) hm'') hD'';rw[hs.2 b (λz:b=d=>hb (by rw[z];exact dH))];exact e
end
section
variable {prog:Pg}{w:Wo}{A:Ar}{E:QQX}{κ:Type}[DecidableEq κ]{knd:PySem.KeyKind prog w κ}{s:Sd}
def AG{l:lf}{its:Array Vl}{n:Nat}{sl:Array (Option Vl)}{all:T0 (κ×Vl)}{Q:QQX}(kv:Nat->Vl)(tp:Nat->lf)(hh:A.handled=Fa)(hl:s.heap.get? l=ga ⟨.type "list",Fa,.seq its n,sl⟩) (hits:∀(j:Nat) (v:Vl),its[j]?=ga v->v=.ref (tp j)) (Xt:its.size=all.length) (hT:∀j p,all[j]?=ga p->s.heap.IsTuple (tp j) #[kv j,p.2]) (hk:∀j p,all[j]?=ga p->knd.is p.1 (kv j)=Db) (hz:all.length<=Uf) (h:∀h' tk,h'.DictOf knd s.heap.objs.size (merged [] all)->(∀b o,s.heap.get? b=ga o->h'.get? b=ga o)->Q (.ref s.heap.objs.size) {s with heap:=h',toks:=tk}):
  Ch (pi prog w) A (call (.type "dict") [.ref l]) Q E s:=by
 refine callType_codes (Q₁:=λobj s₁=>obj=Value.ref s.heap.objs.size/\s₁={s with heap:=s.heap.push {cls:=.type "dict",data:=.dict #[]}}) PySem.F.kt_called_dict (PySem.F.kt_typeCall_dict_1 _) F.entry_dict_init (kt_code_dict_new _ ⟨Z',Z'⟩) ?_
 rintro obj s₁ ⟨rfl,rfl⟩
 have Y7:(s.heap.push {cls:=.type "dict",data:=.dict #[]}).DictOf knd s.heap.objs.size []:=lP s.heap;have hl':(s.heap.push {cls:=.type "dict",data:=.dict #[]}).get? l=ga ⟨.type "list",Fa,.seq its n,sl⟩:=dg _ hl;have hTl:Shared.TypeIs {s with heap:=s.heap.push {cls:=.type "dict",data:=.dict #[]}} (.ref l) "list":=⟨_,hl',Z'⟩;have lsz:l<s.heap.objs.size:=dE hl;refine⟨Y7.typeIs,F.args_dict_init_2 _ _,?_⟩;unfold Builtin.«dict.__init__»;refine cX ?_;unfold Builtin.Dict.selfAndRest;refine cX (wpAny_notOrdered_dict Y7.typeIs ?_);show Ch _ _ (pure (s.heap.objs.size,[Value.ref l])) _ _ _;refine dw ?_;show Ch _ _ (Builtin.Dict.updateFrom "dict.__init__" s.heap.objs.size (.ref l) [] .none) _ _ _;unfold Builtin.Dict.updateFrom;refine cX (jx hTl ?_);rw[df (by decide)];refine cX (FB hl' (by simpa using hh) λh' tk keep=>?_);have hl2:h'.IsList l its:=⟨_,keep _ _ hl',Z',n,Z'⟩;show Ch _ _ (rule _>>=_) _ _ _;refine cX (j7 (cX (hW hl2 ?_)));have nd:h'.objs.size>s.heap.objs.size:=by have z:h'.get? s.heap.objs.size=ga _:=keep _ _ (dJ _ Z');exact dE z
 have hDn:h'.DictOf knd s.heap.objs.size []:=by obtain⟨o,es,ep,ho,rest⟩:=Y7;exact⟨o,es,ep,keep _ _ ho,rest⟩
 have hTs:∀j p,all[j]?=ga p->h'.IsTuple (tp j) #[kv j,p.2]:=λj p e=>by obtain⟨o,h1,h2⟩:=hT j p e;exact⟨o,keep _ _ (dg _ h1),h2⟩
 have XN:l≠h'.objs.size:=dU (jy lsz nd);have W:=(j8 (prog:=prog) (w:=w) (A:=A.in1.in1) (by simpa using hh) h'.objs.size l XN its).toS;rw[Xt]at W;refine dw ⟨ko vF _,KC (A:=A.in1) W s.heap.objs.size ?_ kv tp (λi v e=>hits i v e) (λj hj=>?_) hk hz all.length 0 0 _ (by lia) (eU _) ⟨⟨_,dJ _ Z',Z',Z'⟩,hl2.push _⟩ (λj p e=>(hTs j p e).push _) ?_ λs' hm hD=>?_⟩
 .simp only[dz,dW,fT,ic];exact⟨dU nd,ia lsz⟩
 .have hj':all[j]?=ga all[j]:=cY hj;obtain⟨o,h1,_⟩:=hT j _ hj';have tsz:=dE h1;simp only[dz,dW,fT];exact⟨dU (jy tsz nd),dU tsz⟩
 .obtain⟨o,es,ep,ho,rest⟩:=hDn;exact⟨o,es,ep,dg _ ho,rest⟩
 .obtain⟨h2,g2,d2,t2,o2⟩:=s';have eg:g2=s.gens:=hm.gens;have ed:d2=s.drawn:=hm.drawn;have eo:o2=s.os:=hm.os;subst eg ed eo;refine⟨Z',h h2 t2 hD λb o e=>?_⟩;have hb:=dE e;refine hm.heap b o ?_ (dg _ (keep _ _ (dg _ e)));simp only[dz,dW,fT,ic];exact⟨dU hb,dU (jy hb nd)⟩
end
noncomputable def tz{κ:Type}[DecidableEq κ](l:List κ):List κ:=l.foldl (λacc k=>if k∈acc then acc else acc++[k]) []
def yl{κ:Type}[DecidableEq κ](l:List κ)(k:κ):tz (l++[k])=if k∈tz l then tz l else tz l++[k]:=by unfold tz;rw[iH];rfl
def IF{κ:Type}[DecidableEq κ]:∀l:List κ,(tz l).length<=l.length:=by
 have go:∀(l acc:List κ),(l.foldl (λacc k=>if k∈acc then acc else acc++[k]) acc).length<=acc.length+l.length:=by
  intro l;induction l with
  | nil=>intro acc;simp
  | cons k r ih=>
   intro acc;rw[fV];refine dZ (ih _) ?_;split
   .simp only[eA];lia
   .simp only[eA,c9,dN];lia
 intro l;have:=go l []
 simpa [tz]using this
def MA{κ:Type}[DecidableEq κ](x:κ):∀l:List κ,x∈tz l↔x∈l:=by
 have go:∀(l acc:List κ),x∈l.foldl (λacc k=>if k∈acc then acc else acc++[k]) acc↔x∈acc\/x∈l:=by
  intro l;induction l with
  | nil=>intro acc;simp
  | cons k r ih=>
   intro acc;rw[fV,ih];by_cases h:k∈acc
   .rw[df h,dz];constructor
    .rintro (z|z)
     .exact .inl z
     .exact .inr (.inr z)
    .rintro (z|z|z)
     .exact .inl z
     .subst z;exact .inl h
     .exact .inr z
   .rw[de h,dO,dh,dz,or_assoc]
 intro l;have:=go l []
 simpa [tz]using this
def Ik{κ:Type}[DecidableEq κ]:∀l:List κ,l.Nodup->tz l=l:=by
 have go:∀(l acc:List κ),(acc++l).Nodup->l.foldl (λacc k=>if k∈acc then acc else acc++[k]) acc=acc++l:=by
  intro l;induction l with
  | nil=>intro acc _;simp
  | cons k r ih=>
   intro acc h;have hk:k∉acc:=λz=>by rw[gq]at h;exact h.2.2 k z k dH Z'
   rw[fV,de hk,ih]
   .rw[eY];rfl
   .rw[eY];exact h
 intro l h;have:=go l [] (by simpa using h)
 simpa [tz]using this
section
variable {prog:Pg}{w:Wo}{A:Ar}{E:QQX}{R:Result→Sd→Prop}{κ:Type}[DecidableEq κ][BEq κ][LawfulBEq κ]{knd:PySem.KeyKind prog w κ}
 {I:lf} {fp wr:QXQ} {G:Array GenState->Array GenState->Prop} {P:Nat->Vl->Prop} {St:Nat->Sd->Prop}
def Gb{all:List κ}(W:WalksS prog w A.in1 I fp wr G all.length P St)(S:lf)(hSf:S∉fp)(hval:∀i v k,P i v->all[i]?=ga k->knd.is k v=Db/\v.scannable=Db)(hb:all.length+1<XXh):
  ∀(n i:Nat) (s:Sd),all.length - i=n->i<=all.length->St i s->s.heap.SetOf knd S (λx=>decide (x∈tz (all.take i))) (tz (all.take i)).length->
   (∀s',Moved (S::wr) G s s'->s'.heap.SetOf knd S (λx=>decide (x∈tz all)) (tz all).length->R (.ok (.ret .none)) s')->XXg (pi prog w) A (.builtin "set.update.loop" ⟨[.ref S,.ref I],[]⟩) R s:=by
 have hSw:S∉wr:=λh=>hSf (W.sub _ h);have up:∀b∈wr,b∈S::wr:=λb hb=>dF _ hb;have kept:∀{s s':Sd} {T:κ->Bool} {m:Nat},Moved wr G s s'->s.heap.SetOf knd S T m->s'.heap.SetOf knd S T m:=λhm ⟨o,es,ep,t,ho,rest⟩=>⟨o,es,ep,t,hm.heap S _ hSw ho,rest⟩;intro n;induction n with
 | zero=>
  intro i s h0 hi XJ hS hR;obtain rfl:i=all.length:=by lia
  refine iq iy ?_;rw[ig gB _];rw[fP]at hS;exact cX (W.done s _ _ XJ λs' hm=>dw (hR s' (hm.mono up) (kept hm hS)))
 | succ n ih=>
  intro i s h0 hi XJ hS hR;have XD:i<all.length:=by lia
  have YI:all[i]?=ga all[i]:=cY XD;refine iq iy ?_;rw[ig gB _];refine cX (W.item i s _ _ XD XJ λv s' hP hst' hm=>?_);obtain⟨k1,k2⟩:=hval i v _ hP YI;have hS':=kept hm hS;show Ch _ A.in1 (At [v] (setAdd S v)>>=_) _ _ s';refine cX (e9 ?_);unfold setAdd;refine e9 (cX (knd.pyHash k1 ?_));have room:(tz (all.take i)).length+1<XXh:=by have h1:=IF (all.take i);rw[fg]at h1;lia
  refine wpAny_setAddHashed_of (knd:=knd) (s:={s' with toks:=s'.toks+1}) k1 k2 hS' room λh' hsb hS2=>?_;have et:all.take (i+1)=all.take i++[all[i]]:=by rw[fU,YI];rfl
  have hSi:h'.SetOf knd S (λx=>decide (x∈tz (all.take (i+1)))) (tz (all.take (i+1))).length:=by
   refine jA hS2 (λx=>?_) ?_
   .rw[et];by_cases Xp:all[i]∈tz (all.take i)
    .rw[yl,df Xp];by_cases hx:x=all[i]
     .subst hx;simp[Xp]
     .simp[hx]
    .rw[yl,de Xp];by_cases hx:x=all[i]
     .subst hx;simp
     .simp[hx]
   .rw[et,yl];by_cases Xp:all[i]∈tz (all.take i)
    .rw[df Xp];simp[Xp]
    .rw[de Xp];simp[Xp]
  refine dw ⟨ko gB _,ih (i+1) _ (by lia) XD (W.frame _ s' _ _ hst' (hU _) λb hb o e=>?_) hSi λZ7 hm'' hS''=>?_⟩
  .rw[hsb.2 b (λz:b=S=>hSf (z ▸ hb))];exact e
  .refine hR Z7 (mo W.gtrans ((hm.mono up).then_heap (hU _) λb o hb e=>?_) hm'') hS'';rw[hsb.2 b (λz:b=S=>hb (by rw[z];exact dH))];exact e
end
def CU:isSubtype (.type "tuple") (.type "set")=pure pc:=by rw[iZ];kernel_rfl
def Al:isSubtype (.type "tuple") (.type "frozenset")=pure pc:=by rw[iZ];kernel_rfl
def Ek:isSubtype (.type "list") (.type "set")=pure pc:=by rw[iZ];kernel_rfl
def AQ:isSubtype (.type "list") (.type "frozenset")=pure pc:=by rw[iZ];kernel_rfl
section
variable {prog:Pg}{w:Wo}{A:Ar}{E:QQX}{κ:Type}[DecidableEq κ][BEq κ][LawfulBEq κ]{knd:PySem.KeyKind prog w κ}{s:Sd}
set_option maxHeartbeats 4000000 in
def zy{l:lf}{Xo:Array Vl}{all:List κ}{Q:QQX}(hh:A.handled=Fa)(hl:s.heap.IsList l Xo\/s.heap.IsTuple l Xo)(hn:Xo.size=all.length)(hi:∀(i:Nat) (v:Vl) (k:κ),Xo[i]?=ga v->all[i]?=ga k->knd.is k v=Db/\v.scannable=Db)(hb:all.length+1<XXh) (h:∀(h':Go) (tk:Nat),h'.SetOf knd s.heap.objs.size (λx=>decide (x∈tz all)) (tz all).length->(∀b o,s.heap.get? b=ga o->h'.get? b=ga o)->Q (.ref s.heap.objs.size) {s with heap:=h',toks:=tk}):
  Ch (pi prog w) A (call (.type "set") [.ref l]) Q E s:=by
 obtain⟨c,tl,hmro⟩:=gU.mro;have hmade:=gU.made;have ZF:=gU.sub;refine iN (codeAny_of_tree ?_);show Ch _ _ (callAny (.type "set") _) _ _ _;refine dw ⟨jc _ (by decide+kernel),iq F.entry_type_call ?_⟩;rw[Around.under_plain (weight_type_call_type "set" [.ref l] []) Z'];have h1:=gU.notType;have h2:=gU.canCreate;have hct:=F.typeCall_set_1 (.ref l)
 repeat (any_goals(first|assumption|wp_step))
 have fresh:∀YV:Bool,(s.heap.push {cls:=.type "set",dict:=none,data:=.set #[] 0 (.fresh 0 0 YV)}).get? s.heap.objs.size=ga {cls:=.type "set",dict:=none,data:=.set #[] 0 (.fresh 0 0 YV)}:=λYV=>dJ _ Z';refine gT (code_set_new_1 (.ref l) (E:=E) (Q₁:=λobj s₁=>∃YV:Bool,obj=Value.ref s.heap.objs.size/\s₁={s with heap:=s.heap.push {cls:=.type "set",dict:=none,data:=.set #[] 0 (.fresh 0 0 YV)}}) λYV=>⟨YV,Z',Z'⟩) λr s₁ hr=>?_;cases r with
 | error e=>exact hr
 | ok fl=>
  cases fl with
  | ret obj=>
   obtain⟨YV,rfl,rfl⟩:=hr;have hS:=fresh YV;have hT:Shared.TypeIs {s with heap:=s.heap.push {cls:=.type "set",dict:=none,data:=.set #[] 0 (.fresh 0 0 YV)}} (.ref s.heap.objs.size) "set":=⟨_,hS,Z'⟩;have hli:=gU.init.lookup;have hbi:=gU.init.bind (.ref s.heap.objs.size)
   repeat (any_goals(first|assumption|wp_step))
   refine gT (j9 (R:=wants (λr s₂=>r=.none/\∃h' tk,s₂={s with heap:=h',toks:=tk}/\h'.SetOf knd s.heap.objs.size (λx=>decide (x∈tz all)) (tz all).length/\(∀b o,s.heap.get? b=ga o->h'.get? b=ga o)) E) gU.init.plain F.entry_set_init (check_set_init_1 hT ?_)) λr₂ s₂ hr₂=>?_
   .rcases hl with⟨ol,hol,hcl,nl,hdl⟩|⟨ol,hol,hcl,nl,hdl⟩
    all_goals
     obtain⟨ocls,odict,odata,oslots⟩:=ol;simp only at hcl hdl;subst hcl;subst hdl;have ZG:=dg {cls:=.type "set",dict:=none,data:=.set #[] 0 (.fresh 0 0 YV)} hol;have hsls:=Ek;have hslf:=AQ;have htls:=CU;have htlf:=Al;have hnd:(Value.type "list"==Value.type "dict")=pc:=by decide
     have hnt:(Value.type "tuple"==Value.type "dict")=pc:=by decide
     unfold Builtin.«set.__init__» noKeywords Builtin.Frozenset.updateFrom;generalize hPI:pyIter=PI
     wp_walk
     subst hPI
     first|refine hW ⟨_,ZG,Z',nl,Z'⟩ ?_|refine iz ⟨_,ZG,Z',nl,Z'⟩ ?_
     refine cX (wpAny_runValue ?_);have lS:l<s.heap.objs.size:=dE hol;have hh3:A.in1.in1.in1.handled=Fa:=by simp[hh]
     have lI:l≠(s.heap.push {cls:=.type "set",dict:=none,data:=.set #[] 0 (.fresh 0 0 YV)}).objs.size:=by rw[fK];exact dU (jm lS)
     first
     | refine Gb (hn ▸ (j8 (prog:=prog) (w:=w) hh3 _ l lI Xo).toS) s.heap.objs.size ?hf (λi v k e1 e2=>hi i v k e1 e2) hb all.length 0 _ (by lia) (eU _) ⟨⟨_,dJ _ rfl,rfl,rfl⟩,_,dg _ ZG,rfl,nl,rfl⟩ ?h0 ?hR
     | refine Gb (hn ▸ (Walks.tuple (prog:=prog) (w:=w) hh3 _ l lI Xo).toS) s.heap.objs.size ?hf (λi v k e1 e2=>hi i v k e1 e2) hb all.length 0 _ (by lia) (eU _) ⟨⟨_,dJ _ rfl,rfl,rfl⟩,_,dg _ ZG,rfl,nl,rfl⟩ ?h0 ?hR
     case hf=>rw[fK];simp only[dz,dW,fT,ic];exact⟨dU (fG _),ia lS⟩
     case h0=>exact jA ((PyProof.Rows.setObjOf_fresh (knd:=knd) YV).setOf (dg _ hS) (by unfold XXh;lia)) (λ_=>rfl) Z'
     case hR=>intro s' hm hS';obtain⟨h',g',d',tk',os'⟩:=s';have eg:g'=s.gens:=hm.gens;have ed:d'=s.drawn:=hm.drawn;have eo:os'=s.os:=hm.os;subst eg;subst ed;subst eo;refine dw ?_;show Ch _ _ (ret Value.none) _ _ _;refine dw ⟨Z',h',tk',Z',hS',λb o e=>?_⟩;have hb:=dE e;refine hm.heap b o ?_ (dg _ (dg _ e));rw[fK];simp only[dz,dW,fT,ic];exact⟨dU hb,dU (jm hb)⟩
   .cases r₂ with
    | error e=>exact hr₂
    | ok fl₂=>
     cases fl₂ with
     | ret r=>
      obtain⟨rfl,h',tk,rfl,hS',ZC⟩:=hr₂
      repeat (any_goals(first|assumption|wp_step))
      exact h _ _ hS' ZC
     | _=>exact hr₂.elim
  | _=>exact hr.elim
end
end L2
namespace HT
open PySem PyProof.Rows
variable {prog:Pg}{w:Wo}{A:Ar}{E:QQX}{s:Sd}
def zK{t sl:lf}{vl vu:Vl}{lo hi:Option Int}{Q:QQX}(ht:IsTup s.heap t Xo)(hs:s.heap.IsSliceOf sl vl vu .none)(pl:IsPart vl lo)(pu:IsPart vu hi) (hw:sW Xo.size 0 lo=0/\sW Xo.size Xo.size hi=Xo.size) (h:Q (.ref t) s):Ch (pi prog w) A (Y' (.ref t) (.ref sl)) Q E s:=by
 obtain⟨os,Z8,ZS,YG⟩:=id hs;have hTs:s.TypeIs (.ref sl) "slice":=⟨os,Z8,ZS⟩;unfold Y'
 try with_reducible refine e9 ?_
 first|refine cX (dw ?_)|skip
 refine cX (jk ht.typeIs (by decide) ?_);refine cX (fF (name:=Str.ofString "__getitem__") ht.typeIs fA (gg fA ht.typeIs kr ?_ (kH _ _)));show Ch _ _ (Builtin.Tuple.tupleItemsOf (.ref t)>>=_) _ _ s;refine cX (tupleItemsOf_ ht ?_);refine cX (jx hTs ?_);rw[df (by decide)];refine cX (we hs pl pu ?_);have yes:(((sW Xo.size 0 lo:Nat):Int)==0&&(1:Int)==1&&(sW Xo.size Xo.size hi - sW Xo.size 0 lo)==Xo.size)=Db:=by rw[hw.1,hw.2];simp
 show Ch _ _ (if (((sW Xo.size 0 lo:Nat):Int)==0&&(1:Int)==1&&(sW Xo.size Xo.size hi - sW Xo.size 0 lo)==Xo.size)=Db then _ else _) _ _ s;rw[df yes];have hT:=ht.typeIs;obtain⟨hp,g,d,tk,o⟩:=s
 repeat (any_goals(first|assumption|wp_step))
 exact⟨_,Z',dw h⟩
end HT
namespace L2
variable {X:Cx}{p p2 pos Zb:Pos}{e:zn}{te:TE}
section
def Wv(K:qk):V->Option Int->Option Int->Hp->VK->Prop:=λx lo hi H Q=>∃a xs,x=.ref a/\vo K H a xs/\(HT.sW xs.length 0 lo=0/\HT.sW xs.length xs.length hi=xs.length)/\Q (.ref a) H
def RS:U7 X (Wv X.K):=by
 intro Xn s Y H x v vl vu lo hi sl Q I rx hs pl pu h;obtain⟨a,xs,rfl,hx,hw,q⟩:=h;cases rx;obtain⟨its,r,ht,hz⟩:=I.tuple hx;have Xt:its.toArray.size=xs.length:=by rw[dB];exact r.length.symm
 exact⟨"tuple",_,fA.lookup,ht.typeIs,HT.zK ht hs pl pu (by rw[Xt];exact hw) ⟨.ref a,H,I,Z',q⟩⟩
local instance (priority:=5000) keyBEq:BEq qL:=instBEqOfDecidableEq
local instance (priority:=5000) keyLaw:LawfulBEq qL:=inferInstanceAs (LawfulBEq (Sum Int Str))
def Qk(K:qk)(te:TE):TE:=λY H Q=>te Y H λx H1=>∃a,∃ss:QQQ,x=.ref a/\(xq K H1 a (ss.map V.str)\/vo K H1 a (ss.map V.str))/\ss.length+1<XXh/\Q (.int (tz ss).length) H1
def GC{ss:QQQ}(r:qw (ss.map V.str) us):us.length=ss.length/\∀(i:Nat) (v:Vl) (k:qL),us[i]?=ga v->(ss.map λx=>(Sum.inr x:qL))[i]?=ga k->(rg P w).is k v=Db/\v.scannable=Db:=by
 refine⟨by rw[<-r.length,cW],λi v k e1 e2=>?_⟩;rw[dA]at e2;cases q:ss[i]? with
 | none=>rw[q]at e2;cases e2
 | some x=>rw[q]at e2;cases e2;obtain⟨u,e3,t,rfl⟩:=r.get (i:=i) (x:=V.str x) (by rw[dA,q];rfl);rw[e3]at e1;cases e1;exact⟨Az P w x t,Z'⟩
def MW{ss:QQQ}:(tz (ss.map λx=>(Sum.inr x:qL))).length=(tz ss).length:=by
 have go:∀(l acc:QQQ),(l.map λx=>(Sum.inr x:qL)).foldl (λacc k=>if k∈acc then acc else acc++[k]) (acc.map Sum.inr)=(l.foldl (λacc k=>if k∈acc then acc else acc++[k]) acc).map Sum.inr:=by
  intro l;induction l with
  | nil=>intro acc;rfl
  | cons k r ih=>
   intro acc;rw[d6,fV,fV];have hm:(Sum.inr k:qL)∈acc.map Sum.inr↔k∈acc:=by
    rw[dD];constructor
    .rintro ⟨y,h1,h2⟩;cases h2;exact h1
    .exact λh=>⟨k,h,Z'⟩
   by_cases h:k∈acc
   .rw[df h,df (hm.mpr h)];exact ih acc
   .rw[de h,de λz=>h (hm.mp z)];have:=ih (acc++[k]);rw[dI]at this;exact this
 have:=go ss [];unfold tz;rw[iQ]at this;rw[this,cW]
def J'(hc:X.calm=Db)(he:PE X e te)(hg1:Gl X "len")(Xp:X.mg "len"=Fa)(hg2:Gl X "set")(XA:X.mg "set"=Fa)(b1:Tl "len"=ga (.builtin "len"))(b2:Tl "set"=ga (.type "set")) (hs:Tk [e] X.env=[(pc,No e X.env)]:=by rfl):PE X (.Call (.Name "len" p) [.Call (.Name "set" p2) [e] [] Zb] [] pos) (Qk X.K te):=by
 intro Xn s Y H Q I h;refine gh (vW I hg1 Xp b1 ?_);refine iP ?_ Z' Z';show Ch _ _ (spliced ((pc,No (.Call (.Name "set" p2) [e] [] Zb) X.env)::wv pos (Tk [] X.env))) _ _ s;refine g9 ?_;refine gh (vW I hg2 XA b2 ?_);refine fz ?_ hs Z';rw[hs];show Ch _ _ (spliced ((pc,No e X.env)::wv Zb (Tk [] X.env))) _ _ s;refine g9 (rR (he Xn s Y H _ I h) λu s1 ⟨x,H1,I1,r1,a,ss,ex,hq,hb,q⟩=>iG ?_);subst ex;obtain rfl:u=Value.ref a:=r1;have Yl:(ss.map λx=>(Sum.inr x:qL)).length+1<XXh:=by rw[cW];exact hb
 have Xs:∀(h':Go) (tk:Nat),h'.SetOf (rg X.prog X.w) s1.heap.objs.size (λx=>decide (x∈tz (ss.map λx=>(Sum.inr x:qL)))) (tz (ss.map λx=>(Sum.inr x:qL))).length->(∀b o,s1.heap.get? b=ga o->h'.get? b=ga o)->
   Ch (pi X.prog X.w) X.A (spliced (wv pos (Tk [] X.env))) (λvs s₁=>Ch (pi X.prog X.w) X.A (call (.builtin "len") (.ref s1.heap.objs.size::vs)) (EP X Xn Y Q) X.xe s₁) X.xe {s1 with heap:=h',toks:=tk}:=λh' tk hS keep=>by
  refine iG ?_;obtain⟨o,es,ep,t,ho,hex,hd,_,_,hz,hf,hn⟩:=hS;have XD:(es.size:Int)<2 ^ 63:=by have:XXh=4096:=rfl;lia
  refine call_len_set ho hex hd hf XD ?_;refine⟨.int es.size,H1,I1.kept keep,⟨_,Z'⟩,?_⟩;rw[hn,MW];exact q
 rcases hq with hq|hq
 .obtain⟨its,r,pl,hz⟩:=I1.list hq;obtain⟨k1,k2⟩:=GC (P:=X.prog) (w:=X.w) r;exact L2.zy (knd:=rg X.prog X.w) (all:=ss.map λx=>(Sum.inr x:qL)) (I1.ok.hd hc) (.inl pl.isList) (by rw[dB,k1,cW]) (λi v k e1 e2=>k2 i v k (by simpa using e1) e2) Yl Xs
 .obtain⟨its,r,pl,hz⟩:=I1.tuple hq;obtain⟨k1,k2⟩:=GC (P:=X.prog) (w:=X.w) r;exact L2.zy (knd:=rg X.prog X.w) (all:=ss.map λx=>(Sum.inr x:qL)) (I1.ok.hd hc) (.inr pl) (by rw[dB,k1,cW]) (λi v k e1 e2=>k2 i v k (by simpa using e1) e2) Yl Xs
end
variable {Xn:T0 (lf × Obj)}{Y:St}{H:Hp}{s:Sd}
theorem DD(I:Inv X Xn Y H s):∀(ts:QXQ) (kvs:T0 (qL×V)),ts.length=kvs.length->(∀(j:Nat) (t:lf) (p:qL×V),ts[j]?=ga t->kvs[j]?=ga p->vo X.K H t [kV p.1,p.2])->
  ∃(us:T0 Vl) (all:T0 (qL×Vl)),us.length=kvs.length/\KV kvs all/\∀(j:Nat) (t:lf) (p:qL×Vl),ts[j]?=ga t->all[j]?=ga p->∃u,us[j]?=ga u/\s.heap.IsTuple t #[u,p.2]/\(rg X.prog X.w).is p.1 u=Db
 | [],[],_,_=>⟨[],[],Z',.nil,λj t p e=>by simp at e⟩
 | [],_::_,h,_=>by simp at h
 | _::_,[],h,_=>by simp at h
 | t::ts,(k,v)::kvs,h,hq=>by
  obtain⟨us,all,h1,h2,h3⟩:=DD I ts kvs (by simpa using h) (λj t p e1 e2=>hq (j+1) t p (by simpa using e1) (by simpa using e2));obtain⟨its,r,pl,_⟩:=I.tuple (hq 0 t (k,v) (by simp) (by simp));cases r with
  | cons r1 r2=>
   cases r2 with
   | cons r3 r4=>
    cases r4;rename_i u w;refine⟨u::us,(k,w)::all,by simpa using h1,.cons ⟨Z',r3⟩ h2,λj t' p e1 e2=>?_⟩;cases j with
    | zero=>
     have e1':t=t':=by simpa using e1
     have Zz:(k,w)=p:=by simpa using e2
     subst e1' Zz;exact⟨u,by simp,pl,D9 r1⟩
    | succ j=>simpa using h3 j t' p (by simpa using e1) (by simpa using e2)
theorem KW:∀{kvs:T0 (qL×V)} {all:T0 (qL×Vl)},KV kvs all->all.map (·.1)=kvs.map (·.1)
 | _,_,.nil=>rfl
 | _,_,.cons r rs=>by rw[d6,d6,KW rs,r.1]
def Hn(hc:X.calm=Db):yt X (.type "dict") (λxs H Q=>∃l,∃ts:QXQ,∃kvs:T0 (qL×V),xs=[V.ref l]/\xq X.K H l (ts.map V.ref)/\ts.length=kvs.length/\
  (∀(j:Nat) (t:lf) (p:qL×V),ts[j]?=ga t->kvs[j]?=ga p->vo X.K H t [kV p.1,p.2])/\(kvs.map (·.1)).Nodup/\∀d,H d=Fa->Q (.ref d) (upd H d (.dK kvs))):=by
 intro Xn s Y H xs us Q I r h;obtain⟨l,ts,kvs,rfl,hl,Xt,hq,hnd,q⟩:=h;obtain⟨u,rfl,ru⟩:=xh r;cases ru;obtain⟨its,rv,⟨⟨c1,d1,t1,sl1⟩,n,g1,e1,e2,e3⟩,hz⟩:=I.list hl;simp only at e1 e2 e3;subst e1 e2 e3;obtain⟨ks,all,h1,h2,h3⟩:=DD I ts kvs Xt hq;have la:all.length=kvs.length:=(jg h2).symm;have li:its.length=kvs.length:=by rw[<-rv.length,cW,Xt]
 have zl:all.length<=Uf:=by rw[la,<-Xt];simpa using hz
 have at_:∀(j:Nat) (p:qL×Vl),all[j]?=ga p->∃t,ts[j]?=ga t:=λj p e=>by have:=(cZ.mp e).1;exact⟨ts[j],cY (by lia)⟩
 refine AG (knd:=rg X.prog X.w) (all:=all) (λj=>(ks[j]?).getD .none) (λj=>(ts[j]?).getD 0) (I.ok.hd hc) g1 (λj v e=>?_) (by rw[dB,li,la]) (λj p e=>?_) (λj p e=>?_) zl λh' tk hD keep=>?_
 .have e':its[j]?=ga v:=by simpa using e
  have hj:=(cZ.mp e').1;have hj2:j<ts.length:=by lia
  obtain⟨w,e4,e5⟩:=rv.get (i:=j) (x:=V.ref ts[j]) (by rw[dA,cY hj2];rfl);rw[e']at e4;cases e4;show v=Value.ref ((ts[j]?).getD 0);rw[cY hj2];exact e5
 .obtain⟨t,et⟩:=at_ j p e;obtain⟨u,e4,e5,_⟩:=h3 j t p et e;show s.heap.IsTuple ((ts[j]?).getD 0) #[(ks[j]?).getD .none,p.2];rw[et,e4];exact e5
 .obtain⟨t,et⟩:=at_ j p e;obtain⟨u,e4,_,e6⟩:=h3 j t p et e;show(rg X.prog X.w).is p.1 ((ks[j]?).getD .none)=Db;rw[e4];exact e6
 .rw[merged_nil_of_nodup all (by rw[KW h2];exact hnd)]at hD;have fr:=I.mH.fresh (dq s.heap.objs.size);exact⟨.ref s.heap.objs.size,_,I.laid (t':=tk) (o:=.dK kvs) keep (dq _) (CC (by rw[<-la];exact zl) (fW.mpr (dX (dU I.big))) h2 hD),Z',q _ fr⟩
def VG:R2:=λx y H Q=>∃a v,x=.ref a/\AN H a y (ga v)/\Q v H
def ON(hu:X.A.units+1<wP):Tr X VG:=by
 intro value Xz Xn s Y H x y o i Q I rx ry h hs;obtain⟨a,v,rfl,g,q⟩:=h;obtain rfl:o=Value.ref a:=rx;have hT:=Gd I g;have h2:Ch (pi X.prog X.w) X.A (Y' (.ref a) i) (EP X Xn Y Q) X.xe s:=JK hu I g ry λw' s3 I3 YT=>⟨v,H,I3,YT,q⟩;unfold subscriptTail;refine cX ?_;rw[jZ hT.not_modules];refine cX (jO hT jq.lookup ?_);have Xs:Ch (pi X.prog X.w) X.A (subscripted Xz pc (.ref a) i) (λr s₃=>Ch (pi X.prog X.w) X.A (letTemporaryGo value (.ref a) r>>=λ_=>pure r) (EP X Xn Y Q) X.xe s₃) X.xe s:=by rw[hs];exact wpAny_operating (eC h2 (λr s₃ h₃=>cX (kc (dw h₃))) λ_ _ x=>x)
 first
  | exact dw (cX Xs)
  | exact cX (dw (cX Xs))
  | exact cX Xs
def Tc(hu:X.A.units+1<wP):xo X (wp .In) (λx y H Q=>∃a o,y=.ref a/\AN H a x o/\Q (.bl o.isSome) H):=by intro Xn s Y H x y v u Q I rx ry h;obtain⟨a,o,rfl,g,q⟩:=h;obtain rfl:u=Value.ref a:=ry;exact Wk hu I g rx λs3 I3=>⟨.bl o.isSome,H,I3,Z',q⟩
variable {prog:Pg}{w:Wo}{A:Ar}{E:QQX}{a:lf}{U:Type}{k:Str}{tk:Tok}
section
variable {R:U→Vl→Prop}{D:T0 (Str × U)}
def yC(T:KTD.TabOf R s.heap a D):s.TypeIs (.ref a) "dict":=let⟨_,o,_,_,ho,hc,_⟩:=T;⟨o,ho,hc.1⟩
def IZ{Q:Option Vl->Sd->Prop}(T:KTD.TabOf R s.heap a D)(h1:∀d v,KTD.datumAt k D=ga d->R d v->Q (ga v) {s with toks:=s.toks+1})(h2:KTD.datumAt k D=Fa->Q Fa {s with toks:=s.toks+1}):
  Ch (pi prog w) A (dictGet a (.str k tk)) Q E s:=by
 obtain⟨_,o,es,ep,ho,hc,hd,hr⟩:=T;have hq:Q (findBy (λk v=>v.isStr k) es k) {s with toks:=s.toks+1}:=by
  have hf:findBy (λk v=>v.isStr k) es k=(es.toList.find? λe=>e.key.isStr k).map (·.val):=by obtain⟨l⟩:=es;simp[findBy]
  rw[hf];cases hat:KTD.datumAt k D with
  | none=>rw[hr.find_none hat];exact h2 hat
  | some d=>obtain⟨v,hv,hfl⟩:=hr.find_some hat;rw[hv];exact h1 d v hat hfl
 have Yr:(es.all λe=>isExactStrKey e.key)=Db:=by
  obtain⟨l⟩:=es
  simpa using hr.exact
 unfold dictGet
 try with_reducible refine e9 ?_
 refine cX (ly (cX (KTD.kt_dictFind_strs (s:={s with toks:=s.toks+1}) ho hd Yr ?_)));rw[findBy_of_findIdx?]at hq;cases hi:es.findIdx? λe=>e.key.isStr k with
 | none=>rw[hi]at hq;exact dw hq
 | some i=>rw[hi]at hq;exact cX (wpAny_dictEntries (s:={s with toks:=s.toks+1}) ho hd (dw hq))
def Rc{Q:QQX}(T:KTD.TabOf R s.heap a D)(h:Q (.bool (KTD.datumAt k D).isSome) {s with toks:=s.toks+1}):Ch (pi prog w) A (wp .In (.str k tk) (.ref a)) Q E s:=by
 have hT:=yC T;show Ch _ _ (do return .bool (<-contains (.ref a) (.str k tk))) Q E s;refine cX ?_;unfold contains
 try with_reducible refine e9 ?_
 refine cX (jO hT jd.lookup ?_);show Ch _ _ (if (ga (Value.builtin "dict.__contains__")==ga Value.none)=Db then _ else _) _ E s;rw[de (by rw[beq_builtin_none];exact dC)];refine cX (wpAny_callSpecialUnlessNone?_slot (name:=Str.ofString "__contains__") hT jd (gg jd hT entry_dict_contains ?_ (args_dict_contains _ _)));show Ch _ _ (dictGet a (.str k tk)>>=_) _ _ s;refine cX (IZ T (λd v ha _=>?_) λhn=>?_)
 .rw[ha]at h;show Ch _ _ (ret (.bool Db)) _ _ _;exact dw ⟨_,Z',fh (dw h)⟩
 .rw[hn]at h;show Ch _ _ (Builtin.Dict.pendingKey? a (.str k tk)>>=_) _ _ _;exact cX (wpAny_pendingKey_other T.1 (dw ⟨_,Z',fh (dw h)⟩))
def NG{Q:QQX}{d:U}(T:KTD.TabOf R s.heap a D)(hd:KTD.datumAt k D=ga d)(h:∀v,R d v->Q v {s with toks:=s.toks+1}):Ch (pi prog w) A (Y' (.ref a) (.str k tk)) Q E s:=by
 have hT:=yC T;unfold Y'
 try with_reducible refine e9 ?_
 refine cX (jk hT (by decide) ?_);refine cX (fF (name:=Str.ofString "__getitem__") hT k9 (gg k9 hT entry_dict_getitem ?_ (args_dict_getitem _ _)));show Ch _ _ (dictGet a (.str k tk)>>=_) _ _ s;refine cX (IZ T (λd' v ha hv=>dw ⟨v,Z',dw (h v ?_)⟩) λhn=>?_)
 .rw[hd]at ha;cases ha;exact hv
 .rw[hd]at hn;cases hn
end
def L7(K:qk)(mg:QQZ)(x:Str)(F:T0 (Str×QQQ)):Prop:=∃a o es ep,mg x=ga (.ref a)/\(a==TD)=pc/\K.lookup a=ga o/\o.ExactDict/\o.data=.dict es ep/\
 KTD.Rows (λ(ss:QQQ) v=>∃t,v=Value.ref t/\vo K (λ_=>Fa) t (ss.map V.str)) es.toList F
variable {x:Str}{F:T0 (Str × QQQ)}
def Jm{K:qk}(h:vo K (λ_=>Fa) t xs):vo K H t xs:=by
 rcases h with(h|⟨o,h⟩)|h
 .cases h
 .cases h
 .exact .inr h
def G2{K:qk}(T:L7 K mg x F):∃a,mg x=ga (.ref a)/\∀h:Go,K.In h->KTD.TabOf (λ(ss:QQQ) v=>∃t,v=Value.ref t/\vo K (λ_=>Fa) t (ss.map V.str)) h a F:=by obtain⟨a,o,es,ep,h1,h2,h3,h4,h5,h6⟩:=T;exact⟨a,h1,λh hk=>⟨h2,o,es,ep,hk a o h3,h4,h5,h6⟩⟩
noncomputable def Wj(x:Str):It:=⟨λi _=>i<x.cps.size,λi H v H'=>H'=H/\∃c,x.cps[i]?=ga c/\v=.str ⟨#[c]⟩,λi _=>i=x.cps.size⟩
def GR{K:qk}{ty:String}{x:Str}{t:Tok}(it:lf)(W:∀A':Ar,A'.handled=Fa->Walks P w A' it [it] [it] x.cps.size (SignAt x) (λi h=>h.IsStrIter it ty x t i)) (hself:∀(A:Ar) (i:Nat) (s:Sd) (Q:QQX) (E:QQX),s.heap.IsStrIter it ty x t i->Q (.ref it) s->Ch (pi P w) A (pyIter (.ref it)) Q E s) (hn:["enumerate","zip","dict_itemiterator","dict_reverseitemiterator","odict_iterator","itertools.zip_longest","itertools.pairwise"].contains ty=pc):Gv P w K tg (Wj x) [it] it (λi h=>h.IsStrIter it ty x t i) where
 mem:=by simp
 obj:=λi h st b hb=>by
  obtain rfl:b=it:=by simpa using hb
  obtain⟨o,e,c,d⟩:=st;exact⟨o,e,λv z=>by rw[d]at z;cases z⟩
 keep:=λi h h' st k=>by obtain⟨o,e,r⟩:=st;exact⟨o,k it (by simp) o e,r⟩
 item:=by intro X hP hw hK hc i Xn s Y H E I hf st hg;subst hP hw hK;obtain⟨f0,f1,f2,f3,f4,f5⟩:=hf it (by simp);refine(W X.A (I.ok.hd hc)).item i s _ _ hg st λv h' tk hv YM kp=>?_;obtain⟨c,u,e1,e2⟩:=hv;have I1:Inv X Xn Y H {s with heap:=h',toks:=tk}:=I.turned (t':=tk) (λb o hb e=>kp b o (by simpa using hb) e) f0 f1 f3 f4 f5;obtain⟨o,e,cl,d⟩:=id YM;exact⟨v,Z',Iz (s:={s with heap:=h',toks:=tk}) e cl d hn ⟨.str ⟨#[c]⟩,H,I1,⟨u,e2⟩,⟨Z',c,e1,Z'⟩,YM,λb hb=>(hf b hb).1⟩⟩
 done:=by intro X hP hw hK hc i Xn s Y H E I hf st hg;subst hP hw hK;obtain⟨f0,f1,f2,f3,f4,f5⟩:=hf it (by simp);obtain rfl:i=x.cps.size:=hg;exact(W X.A (I.ok.hd hc)).done s _ _ st λh' tk kp=>⟨Z',I.turned (t':=tk) (λb o hb e=>kp b o (by simpa using hb) e) f0 f1 f3 f4 f5⟩
 self:=hself
variable {tg:zn}
def Ow(hc:X.calm=Db)(hl:PE X l tl):PI X tg l (λY H R=>tl Y H λx H1=>(∃a,x=.ref a/\(((∃xs,xq X.K H1 a xs)/\R (VD X.K a) H1)\/((∃xs,vo X.K H1 a xs)/\R (Wp X.K a) H1)))\/∃z,x=.str z/\R (Wj z) H1):=by
 intro Xn s Y H R I h;refine rR (hl Xn s Y H _ I h) λv s1 zz=>x5 zz λx H1 I1 r1 q1=>?_;rcases q1 with⟨a,e,q1⟩|⟨z,e,q⟩
 .subst e;cases r1;rcases q1 with⟨⟨xs,hq⟩,q⟩|⟨⟨xs,hq⟩,q⟩
  .obtain⟨its,rv,p,hz⟩:=I1.list hq;refine hW p.isList ?_;refine⟨s1.heap.objs.size,[s1.heap.objs.size],_,_,H1,Z',I1.kept (t':=s1.toks) λb o e=>dg _ e,J5 a _,⟨_,dJ _ Z',Z',Z'⟩,λb hb=>?_,q⟩;obtain rfl:b=s1.heap.objs.size:=by simpa using hb
   exact I1.nL (dq _) (I1.mH.fresh (dq _))
  .obtain⟨its,rv,p,hz⟩:=I1.tuple hq;refine iz (show s1.heap.IsTuple a its.toArray from p) ?_;refine⟨s1.heap.objs.size,[s1.heap.objs.size],_,_,H1,Z',I1.kept (t':=s1.toks) λb o e=>dg _ e,G9 a _,⟨_,dJ _ Z',Z',Z'⟩,λb hb=>?_,q⟩;obtain rfl:b=s1.heap.objs.size:=by simpa using hb
   exact I1.nL (dq _) (I1.mH.fresh (dq _))
 .subst e;obtain⟨t,rfl⟩:=r1;have fp:∀b∈[s1.heap.objs.size],zE X Xn H1 b:=λb hb=>by
   obtain rfl:b=s1.heap.objs.size:=by simpa using hb
   exact I1.nL (dq _) (I1.mH.fresh (dq _))
  cases ha:z.cps.all (·<128)
  .refine wpAny_pyIter_wide ha ?_;exact⟨s1.heap.objs.size,[s1.heap.objs.size],_,_,H1,Z',I1.kept (t':=s1.toks) λb o e=>dg _ e,GR _ (λA' hA=>Walks.strWide hA _ z t) (λA i s Q E st h=>wpAny_pyIter_striter_wide st h) (by decide),⟨_,dJ _ Z',Z',Z'⟩,fp,q⟩
  .refine wpAny_pyIter_ascii ha ?_;exact⟨s1.heap.objs.size,[s1.heap.objs.size],_,_,H1,Z',I1.kept (t':=s1.toks) λb o e=>dg _ e,GR _ (λA' hA=>Walks.strAscii hA _ z t) (λA i s Q E st h=>wpAny_pyIter_striter_ascii st h) (by decide),⟨_,dJ _ Z',Z',Z'⟩,fp,q⟩
end L2
namespace L2
inductive CQ{α0:Sort u}{α1:Sort v}(p:α0->α1->Prop):Prop
 | mk (a0:α0) (a1:α1) (h:p a0 a1):CQ p
inductive Dg{α0:Sort u}{α1:Sort v}{α2:Sort w}(p:α0->α1->α2->Prop):Prop
 | mk (a0:α0) (a1:α1) (a2:α2) (h:p a0 a1 a2):Dg p
def x7{α:Sort u}{β:Sort v}{γ:Sort w}{p q r s:α->β->γ->Prop}{C:Prop}(h:Dg λa b c=>p a b c/\q a b c/\r a b c/\s a b c)(f:∀a b c,p a b c->q a b c->r a b c->s a b c->C):C:=by obtain⟨a,b,c,h1,h2,h3,h4⟩:=h;exact f a b c h1 h2 h3 h4
def JG{α:Sort u}{β:Sort v}{γ:Sort w}{p q r s s1 s2 s3:α->β->γ->Prop}{C:Prop}(h:Dg λa b c=>p a b c/\q a b c/\r a b c/\s a b c/\s1 a b c/\s2 a b c/\s3 a b c)(f:∀a b c,p a b c->q a b c->r a b c->s a b c->s1 a b c->s2 a b c->s3 a b c->C):C:=by obtain⟨a,b,c,h1,h2,h3,h4,h5,h6,h7⟩:=h;exact f a b c h1 h2 h3 h4 h5 h6 h7
inductive Co{α0:Sort u}{α1:Sort v}{α2:Sort w}{α3:Sort u1}(p:α0->α1->α2->α3->Prop):Prop
 | mk (a0:α0) (a1:α1) (a2:α2) (a3:α3) (h:p a0 a1 a2 a3):Co p
inductive GH{α0:Sort u}{α1:Sort v}{α2:Sort w}{α3:Sort u1}{α4:Sort u2}(p:α0->α1->α2->α3->α4->Prop):Prop
 | mk (a0:α0) (a1:α1) (a2:α2) (a3:α3) (a4:α4) (h:p a0 a1 a2 a3 a4):GH p
inductive KA{α0:Sort u}{α1:Sort v}{α2:Sort w}{α3:Sort u1}{α4:Sort u2}{α5:Sort u3}(p:α0->α1->α2->α3->α4->α5->Prop):Prop
 | mk (a0:α0) (a1:α1) (a2:α2) (a3:α3) (a4:α4) (a5:α5) (h:p a0 a1 a2 a3 a4 a5):KA p
inductive Tx{α0:Sort u}{α1:Sort v}{α2:Sort w}{α3:Sort u1}{α4:Sort u2}{α5:Sort u3}{α6:Sort u4}(p:α0->α1->α2->α3->α4->α5->α6->Prop):Prop
 | mk (a0:α0) (a1:α1) (a2:α2) (a3:α3) (a4:α4) (a5:α5) (a6:α6) (h:p a0 a1 a2 a3 a4 a5 a6):Tx p
inductive Ts{α0:Sort u}{α1:Sort v}{α2:Sort w}{α3:Sort u1}{α4:Sort u2}{α5:Sort u3}{α6:Sort u4}{α7:Sort u5}(p:α0->α1->α2->α3->α4->α5->α6->α7->Prop):Prop
 | mk (a0:α0) (a1:α1) (a2:α2) (a3:α3) (a4:α4) (a5:α5) (a6:α6) (a7:α7) (h:p a0 a1 a2 a3 a4 a5 a6 a7):Ts p
inductive UL{α0:Sort u}{α1:Sort v}{α2:Sort w}{α3:Sort u1}{α4:Sort u2}{α5:Sort u3}{α6:Sort u4}{α7:Sort u5}{α8:Sort u6}(p:α0->α1->α2->α3->α4->α5->α6->α7->α8->Prop):Prop
 | mk (a0:α0) (a1:α1) (a2:α2) (a3:α3) (a4:α4) (a5:α5) (a6:α6) (a7:α7) (a8:α8) (h:p a0 a1 a2 a3 a4 a5 a6 a7 a8):UL p
inductive Lk{α0:Sort u}{α1:Sort v}{α2:Sort w}{α3:Sort u1}{α4:Sort u2}{α5:Sort u3}{α6:Sort u4}{α7:Sort u5}{α8:Sort u6}{α9:Sort u7}(p:α0->α1->α2->α3->α4->α5->α6->α7->α8->α9->Prop):Prop
 | mk (a0:α0) (a1:α1) (a2:α2) (a3:α3) (a4:α4) (a5:α5) (a6:α6) (a7:α7) (a8:α8) (a9:α9) (h:p a0 a1 a2 a3 a4 a5 a6 a7 a8 a9):Lk p
end L2
namespace L2
open PySem
def T5(a C:lf)(h:Go):Prop:=CQ λoe vs=>h.get? a=ga oe/\oe.cls=.ref C/\oe.data=.fields vs/\oe.dict=Fa
end L2
namespace L3
open L2
inductive D where
 | mC|bl (b:Bool)|int (i:Int)|str (x:Str)|tup (ds:List D)|ref (a:lf)|ty (n:String)
 | rl (ds:List D)
def Py(K:qk)(H:Hp)(a:lf)(xs:T0 V):Prop:=(∃o,H a=ga (.frz o (.lst xs)))\/
 ∃(o:Obj) (its:Array Vl) (n:Nat),K.lookup a=ga o/\o.cls=.type "list"/\o.dict=Fa/\o.data=.seq its n/\its.size<=Uf/\qw xs its.toList
def Py.sq{K:qk}(h:Py K H a xs):xq K H a xs:=by
 rcases h with⟨o,h⟩|h
 .exact .inl (.inr ⟨o,h⟩)
 .exact .inr h
mutual
def rH(K:qk)(H:Hp):D->V->Prop
 | .mC,v=>v=.mC
 | .bl b,v=>v=.bl b
 | .int i,v=>v=.int i
 | .str x,v=>v=.str x
 | .ref a,v=>v=.ref a
 | .ty n,v=>v=.ty n
 | .tup ds,v=>∃a xs,v=.ref a/\vo K H a xs/\qd K H ds xs
 | .rl ds,v=>∃a xs,v=.ref a/\Py K H a xs/\qd K H ds xs
def qd(K:qk)(H:Hp):T0 D->T0 V->Prop
 | [],xs=>xs=[]
 | d::ds,xs=>∃x r,xs=x::r/\rH K H d x/\qd K H ds r
end
structure qJ(K:qk)(H H':Hp):Prop where
 t:∀a xs,vo K H a xs->vo K H' a xs
 f:∀a o xs,H a=ga (.frz o (.lst xs))->H' a=ga (.frz o (.lst xs))
def qJ.refl{K:qk}:qJ K H H:=⟨λ_ _ h=>h,λ_ _ _ h=>h⟩
def qJ.trans{K:qk}(a:qJ K H H1)(b:qJ K H1 H2):qJ K H H2:=⟨λc xs h=>b.t c xs (a.t c xs h),λc o xs h=>b.f c o xs (a.f c o xs h)⟩
def qJ.upd{K:qk}(h:∀xs,¬Rd H p (.tup xs))(h':∀u xs,H p≠ga (.frz u (.lst xs))):qJ K H (upd H p o):=⟨λa xs q=>by
 rcases q with q|q
 .have ne:a≠p:=λz=>h xs (z ▸ q);rcases q with q|⟨u,q⟩
  .exact .inl (.inl (by rw[pS ne];exact q))
  .exact .inl (.inr ⟨u,by rw[pS ne];exact q⟩)
 .exact .inr q,λa u xs q=>by
 have ne:a≠p:=λz=>h' u xs (z ▸ q);rw[pS ne];exact q⟩
def qJ.new{K:qk}{H:Hp}{p:lf}(h:H p=Fa):qJ K H (L2.upd H p o):=.upd (λxs q=>by
 rcases q with q|⟨u,q⟩<;>(rw[h]at q;cases q)) λu xs q=>by rw[h]at q;cases q
def Py.mono{K:qk}(e:qJ K H H')(h:Py K H a xs):Py K H' a xs:=by
 rcases h with⟨o,h⟩|h
 .exact .inl ⟨o,e.f a o xs h⟩
 .exact .inr h
mutual
theorem rH.mono{K:qk}(e:qJ K H H'):∀{d:D} {v:V},rH K H d v->rH K H' d v
 | .mC,_,h=>h
 | .bl _,_,h=>h
 | .int _,_,h=>h
 | .str _,_,h=>h
 | .ref _,_,h=>h
 | .ty _,_,h=>h
 | .tup ds,v,h=>by unfold rH at h ⊢;obtain⟨a,xs,e1,e2,e3⟩:=h;exact⟨a,xs,e1,e.t _ _ e2,qd.mono e e3⟩
 | .rl ds,v,h=>by unfold rH at h ⊢;obtain⟨a,xs,e1,e2,e3⟩:=h;exact⟨a,xs,e1,e2.mono e,qd.mono e e3⟩
theorem qd.mono{K:qk}(e:qJ K H H'):∀{ds:T0 D} {xs:T0 V},qd K H ds xs->qd K H' ds xs
 | [],_,h=>h
 | d::ds,xs,h=>by unfold qd at h ⊢;obtain⟨x,r,e1,e2,e3⟩:=h;exact⟨x,r,e1,rH.mono e e2,qd.mono e e3⟩
end
variable {K:qk}{H H':Hp}
def qd.nil:qd K H [] []:=by unfold qd;rfl
def qd.cons(a:rH K H d x)(b:qd K H ds xs):qd K H (d::ds) (x::xs):=by unfold qd;exact⟨x,xs,Z',a,b⟩
def qd.inv{d:D}{ds:T0 D}(h:qd K H (d::ds) xs):∃x r,xs=x::r/\rH K H d x/\qd K H ds r:=by unfold qd at h;exact h
def qd.nil_inv(h:qd K H [] xs):xs=[]:=by unfold qd at h;exact h
theorem qd.length:∀{ds:T0 D} {xs:T0 V},qd K H ds xs->ds.length=xs.length
 | [],_,h=>by rw[h.nil_inv];rfl
 | d::ds,_,h=>by obtain⟨x,r,rfl,_,e⟩:=h.inv;simp[qd.length e]
theorem qd.get:∀{ds:T0 D} {xs:T0 V} {i:Nat} {d:D},qd K H ds xs->ds[i]?=ga d->∃x,xs[i]?=ga x/\rH K H d x
 | [],_,_,_,_,e=>by simp at e
 | d::ds,_,0,_,h,e=>by obtain⟨x,r,rfl,a,_⟩:=h.inv;simp at e;subst e;exact⟨x,by simp,a⟩
 | d::ds,_,i+1,_,h,e=>by obtain⟨x,r,rfl,_,b⟩:=h.inv;obtain⟨y,e1,e2⟩:=qd.get b (by simpa using e);exact⟨y,by simpa using e1,e2⟩
theorem qd.append:∀{ds es:T0 D} {xs ys:T0 V},qd K H ds xs->qd K H es ys->qd K H (ds++es) (xs++ys)
 | [],_,_,_,h,g=>by rw[h.nil_inv];exact g
 | d::ds,_,_,_,h,g=>by obtain⟨x,r,rfl,a,b⟩:=h.inv;exact .cons a (qd.append b g)
theorem qd.take:∀{ds:T0 D} {xs:T0 V} (n:Nat),qd K H ds xs->qd K H (ds.take n) (xs.take n)
 | _,_,0,_=>by simp only[List.take_zero];exact .nil
 | [],_,n+1,h=>by rw[h.nil_inv];exact .nil
 | d::ds,_,n+1,h=>by obtain⟨x,r,rfl,a,b⟩:=h.inv;exact .cons a (qd.take n b)
theorem qd.drop:∀{ds:T0 D} {xs:T0 V} (n:Nat),qd K H ds xs->qd K H (ds.drop n) (xs.drop n)
 | _,_,0,h=>h
 | [],_,n+1,h=>by rw[h.nil_inv];exact .nil
 | d::ds,_,n+1,h=>by obtain⟨x,r,rfl,a,b⟩:=h.inv;exact qd.drop n b
def qd.snoc(h:qd K H ds xs)(a:rH K H d x):qd K H (ds++[d]) (xs++[x]):=h.append (.cons a .nil)
theorem qd.ints:∀{ns:T0 Int},qd K H (ns.map D.int) (ns.map V.int)
 | []=>.nil
 | n::r=>.cons (by unfold rH;rfl) qd.ints
def rH.tup(q:vo K H a xs)(h:qd K H ds xs):rH K H (.tup ds) (.ref a):=by unfold rH;exact⟨a,xs,Z',q,h⟩
def rH.mF{ds:T0 D}(h:rH K H (.tup ds) v):∃a xs,v=.ref a/\vo K H a xs/\qd K H ds xs:=by unfold rH at h;exact h
def rH.mP{ds:T0 D}(h:rH K H (.rl ds) v):∃a xs,v=.ref a/\Py K H a xs/\qd K H ds xs:=by unfold rH at h;exact h
def rH.int{i:Int}:rH K H (.int i) (.int i):=by unfold rH;rfl
def rH.bl{i:Bool}:rH K H (.bl i) (.bl i):=by unfold rH;rfl
def rH.str{i:Str}:rH K H (.str i) (.str i):=by unfold rH;rfl
def rH.ref{i:lf}:rH K H (.ref i) (.ref i):=by unfold rH;rfl
def rH.mC:rH K H .mC .mC:=by unfold rH;rfl
def rH.int_inv{i:Int}(h:rH K H (.int i) v):v=.int i:=by unfold rH at h;exact h
def rH.my{i:Bool}(h:rH K H (.bl i) v):v=.bl i:=by unfold rH at h;exact h
def rH.str_inv{i:Str}(h:rH K H (.str i) v):v=.str i:=by unfold rH at h;exact h
def rH.mw{i:lf}(h:rH K H (.ref i) v):v=.ref i:=by unfold rH at h;exact h
def rH.nI{i:String}(h:rH K H (.ty i) v):v=.ty i:=by unfold rH at h;exact h
def rH.mz{v:V}(h:rH K H .mC v):v=.mC:=by unfold rH at h;exact h
inductive uI where
 | lst (ds:List D)
 | ins (C:lf) (fs:List (Str×D))
 | dk (kvs:List (qL×D))
 | exc (C:lf)
abbrev Mp:=lf->Option uI
noncomputable def pq(M:Mp)(a:lf)(c:uI):Mp:=λb=>if b=a then ga c else M b
def pK:pq M a c a=ga c:=by unfold pq;rw[df Z']
def tQ{a b:lf}(h:b≠a):pq M a c b=M b:=by unfold pq;rw[de h]
def rD:pq (pq M a c) a d=pq M a d:=by funext b;unfold pq;split<;>rfl
def FL{M:Mp}{a b:lf}{c:uI}(h:M a=ga c)(h':M b=Fa):a≠b:=by intro e;subst e;rw[h]at h';cases h'
def BH(K:qk)(H:Hp)(fs:T0 (Str×D))(vs:T0 (Str×V)):Prop:=vs.map (·.1)=fs.map (·.1)/\qd K H (fs.map (·.2)) (vs.map (·.2))
def xF(K:qk)(H:Hp)(a:lf):uI->Prop
 | .lst ds=>∃xs,H a=ga (.lst xs)/\qd K H ds xs
 | .ins C fs=>∃dx vs,H a=ga (.ins C dx vs)/\Cls K C/\(∀f,f∈fs.map (·.1)->tU K C f)/\BH K H fs vs
 | .dk kvs=>∃vs,H a=ga (.dK vs)/\vs.map (·.1)=kvs.map (·.1)/\qd K H (kvs.map (·.2)) (vs.map (·.2))
 | .exc C=>H a=ga (.ext (T5 a C))
def HM(K:qk)(H:Hp)(M:Mp):Prop:=∀a c,M a=ga c->xF K H a c
variable {M:Mp}
def BH.mono(e:qJ K H H')(h:BH K H fs vs):BH K H' fs vs:=⟨h.1,h.2.mono e⟩
def xF.keep(e:qJ K H H')(k:H' a=H a)(h:xF K H a c):xF K H' a c:=by
 cases c with
 | lst ds=>obtain⟨xs,e1,e2⟩:=h;exact⟨xs,by rw[k];exact e1,e2.mono e⟩
 | ins C fs=>obtain⟨dx,vs,e1,c,n,e2⟩:=h;exact⟨dx,vs,by rw[k];exact e1,c,n,e2.mono e⟩
 | dk kvs=>obtain⟨vs,e1,e2,e3⟩:=h;exact⟨vs,by rw[k];exact e1,e2,e3.mono e⟩
 | exc C=>exact k.trans h
def xF.there(h:xF K H a c):∃o,H a=ga o/\(∀xs,¬Rd H a (.tup xs))/\∀u xs,H a≠ga (.frz u (.lst xs)):=by
 have go:∀o,H a=ga o->(∀xs,o≠.tup xs)->(∀u v,o≠.frz u v)->∃o,H a=ga o/\(∀xs,¬Rd H a (.tup xs))/\∀u xs,H a≠ga (.frz u (.lst xs)):=λo e n1 n2=>⟨o,e,λxs q=>by
  rcases q with q|⟨u,q⟩
  .rw[e]at q;exact n1 xs (dv q)
  .rw[e]at q;exact n2 u _ (dv q),λu xs q=>by rw[e]at q;exact n2 u _ (dv q)⟩
 cases c with
 | lst ds=>obtain⟨xs,e1,e2⟩:=h;exact go _ e1 (λ_ z=>by cases z) λ_ _ z=>by cases z
 | ins C fs=>obtain⟨dx,vs,e1,e2⟩:=h;exact go _ e1 (λ_ z=>by cases z) λ_ _ z=>by cases z
 | dk kvs=>obtain⟨vs,e1,e2,e3⟩:=h;exact go _ e1 (λ_ z=>by cases z) λ_ _ z=>by cases z
 | exc C=>exact go _ h (λ_ z=>by cases z) λ_ _ z=>by cases z
def HM.fresh(h:HM K H M){p:lf}(n:H p=Fa):M p=Fa:=by
 cases e:M p with
 | none=>rfl
 | some c=>obtain⟨o,q,_⟩:=(h p c e).there;rw[n]at q;cases q
def HM.keep(h:HM K H M)(e:qJ K H H')(k:∀a c,M a=ga c->H' a=H a):HM K H' M:=λa c q=>(h a c q).keep e (k a c q)
def HM.add(h:HM K H M){p:lf}{o:HO}(n:H p=Fa):HM K (upd H p o) M:=h.keep (.new n) λa c q=>by obtain⟨u,e,_⟩:=(h a c q).there;rw[pS (qK e n)]
def HM.new(h:HM K H M){p:lf}{o:HO}{c:uI}(n:H p=Fa)(ok:xF K (upd H p o) p c):HM K (upd H p o) (pq M p c):=λa d q=>by
 by_cases e:a=p
 .subst e;rw[pK]at q;cases q;exact ok
 .rw[tQ e]at q;exact h.add n a d q
def HM.put(h:HM K H M){p:lf}{o:HO}{c c0:uI}(e0:M p=ga c0)(ok:qJ K H (upd H p o)->xF K (upd H p o) p c):HM K (upd H p o) (pq M p c)/\qJ K H (upd H p o):=by
 obtain⟨u,eu,nt,nf⟩:=(h p c0 e0).there;have x:qJ K H (upd H p o):=.upd nt nf;refine⟨λa d q=>?_,x⟩;by_cases e:a=p
 .subst e;rw[pK]at q;cases q;exact ok x
 .rw[tQ e]at q;exact(h a d q).keep x (pS e)
abbrev St:=L2.St
abbrev vj:=T0 (Option D)
abbrev DK:=D->Mp->Prop
abbrev T3:=vj->Mp->DK->Prop
abbrev Ap:=vj->Mp->(Bool->Mp->Prop)->Prop
abbrev xf:=vj->Mp->(T0 D->Mp->Prop)->Prop
structure GT where
 nx:vj->Mp->Prop
 rt:DK
 bk:vj->Mp->Prop:=λ_ _=>False
 ct:vj->Mp->Prop:=λ_ _=>False
abbrev xj:=GT->vj->Mp->Prop
def zQ(K:qk)(H:Hp)(Y:St)(U:vj):Prop:=∀(i:Nat) (d:D),U[i]?=ga (ga d)->∃v,Y[i]?=ga (ga v)/\rH K H d v
def zQ.mono{K:qk}(e:qJ K H H')(h:zQ K H Y U):zQ K H' Y U:=λi d q=>by obtain⟨v,e1,e2⟩:=h i d q;exact⟨v,e1,e2.mono e⟩
def zQ.set{K:qk}{i:Nat}(h:zQ K H Y U)(hv:rH K H d v)(hi:i<Y.length):zQ K H (Y.set i (ga v)) (U.set i (ga d)):=λj e q=>by
 by_cases hj:j=i
 .subst hj;rw[fC hi];by_cases hl:j<U.length
  .rw[fC hl]at q;cases q;exact⟨v,Z',hv⟩
  .rw[fO (by simpa using hl)]at q;cases q
 .rw[fB (dX hj)]at q ⊢;exact h j e q
def lo(K:qk)(t:T3):TE:=λY H Q'=>Dg λU M Q=>zQ K H Y U/\HM K H M/\t U M Q/\∀v H' d M',rH K H' d v->HM K H' M'->qJ K H H'->Q d M'->Q' v H'
def TF(K:qk)(t:Ap):TT:=λY H Q'=>Dg λU M Q=>zQ K H Y U/\HM K H M/\t U M Q/\∀b H' M',HM K H' M'->qJ K H H'->Q b M'->Q' b H'
def WO(K:qk)(t:xf):TA:=λY H Q'=>Dg λU M Q=>zQ K H Y U/\HM K H M/\t U M Q/\∀vs H' ds M',qd K H' ds vs->HM K H' M'->qJ K H H'->Q ds M'->Q' vs H'
def VE(K:qk)(t:xj):TS:=λD' Y H=>Dg λU M D=>zQ K H Y U/\HM K H M/\t D U M/\(∀σ' H' δ' M',zQ K H' σ' δ'->HM K H' M'->qJ K H H'->σ'.length=Y.length->D.nx δ' M'->D'.nx σ' H')/\
 (∀v H' d M',rH K H' d v->HM K H' M'->qJ K H H'->D.rt d M'->D'.rt v H')/\(∀σ' H' δ' M',zQ K H' σ' δ'->HM K H' M'->qJ K H H'->σ'.length=Y.length->D.bk δ' M'->D'.bk σ' H')/\
 (∀σ' H' δ' M',zQ K H' σ' δ'->HM K H' M'->qJ K H H'->σ'.length=Y.length->D.ct δ' M'->D'.ct σ' H')
def E3(X:Cx)(e:zn)(t:T3):Prop:=PE X e (lo X.K t)
def B3(X:Cx)(e:zn)(t:Ap):Prop:=PT X e (TF X.K t)
def A3(X:Cx)(es:T0 zn)(t:xf):Prop:=PA X es (WO X.K t)
def S3(X:Cx)(st:xz)(t:xj):Prop:=PS X st (VE X.K t)
def G8(X:Cx)(st:T0 xz)(t:xj):Prop:=B7 X st (VE X.K t)
def PE.mono{t t':TE}(h:PE X e t)(m:∀Y H Q,t' Y H Q->t Y H Q):PE X e t':=λXn s Y H Q I q=>h Xn s Y H Q I (m Y H Q q)
def PT.mono{t t':TT}(h:PT X e t)(m:∀Y H Q,t' Y H Q->t Y H Q):PT X e t':=λXn s Y H Q I q=>h Xn s Y H Q I (m Y H Q q)
def PA.mono{t t':TA}(h:PA X e t)(m:∀Y H Q,t' Y H Q->t Y H Q):PA X e t':=λpos Xn s Y H Q I q=>h pos Xn s Y H Q I (m Y H Q q)
def PS.mono{t t':TS}(h:PS X e t)(m:∀D Y H,t' D Y H->t D Y H):PS X e t':=λXn s Y H D I q=>h Xn s Y H D I (m D Y H q)
def B7.mono{t t':TS}(h:B7 X e t)(m:∀D Y H,t' D Y H->t D Y H):B7 X e t':=λXn s Y H D I q=>h Xn s Y H D I (m D Y H q)
def PS.nH{t t':TS}(h:PS X e t)(m:∀D Y H,Y.length=X.N.length->t' D Y H->t D Y H):PS X e t':=λXn s Y H D I q=>h Xn s Y H D I (m D Y H I.len q)
def vJ{K:qk}{Q':VK}{Q:DK}(x:qJ K H H1)(f:∀v H' d M',rH K H' d v->HM K H' M'->qJ K H H'->Q d M'->Q' v H'):∀v H' d M',rH K H' d v->HM K H' M'->qJ K H1 H'->Q d M'->Q' v H':=
 λv H' d M' a b c e=>f v H' d M' a b (x.trans c) e
variable {X:Cx}{pos:Pos}
def v3(i:Nat):T3:=λU M Q=>(U.getD i Fa).elim False λd=>Q d M
def Kn{U:vj}{i:Nat}{P:D->Prop}(h:(U.getD i Fa).elim False P):∃d,U[i]?=ga (ga d)/\P d:=by
 cases e:U[i]? with
 | none=>rw[gI,e]at h;exact h.elim
 | some o=>
  rw[gI,e]at h;cases o with
  | none=>exact h.elim
  | some d=>exact⟨d,Z',h⟩
def RZ(i:Nat){x:Str}(h:PE X (.Name x pos) (HJ i)):E3 X (.Name x pos) (v3 i):=PE.mono h λY H Q' zz=>x7 zz λU M Q hs hm ht k=>by obtain⟨d,e,q⟩:=Kn ht;obtain⟨v,e1,e2⟩:=hs i d e;exact⟨v,e1,k v H d M e2 hm .refl q⟩
def c3(d:D):T3:=λ_ M Q=>Q d M
def o9{i j}:E3 X (.Constant (.int i) j pos) (c3 (.int i)):=PE.mono SX λY H Q' zz=>x7 zz λU M Q hs hm ht k=>k _ H _ M .int hm .refl ht
def wu{i j}:E3 X (.Constant (.bool i) j pos) (c3 (.bl i)):=PE.mono Ui λY H Q' zz=>x7 zz λU M Q hs hm ht k=>k _ H _ M .bl hm .refl ht
def pb{i j}:E3 X (.Constant (.str i) j pos) (c3 (.str i)):=PE.mono RE λY H Q' zz=>x7 zz λU M Q hs hm ht k=>k _ H _ M .str hm .refl ht
def rQ{j}:E3 X (.Constant .none j pos) (c3 .mC):=PE.mono Sj λY H Q' zz=>x7 zz λU M Q hs hm ht k=>k _ H _ M .mC hm .refl ht
def Jt{n:String}(hg:Gl X x)(hm:X.mg x=Fa)(hv:Tl x=ga (.type n))(hn:x≠"__name__":=by decide)(hd:zb x:=by decide):E3 X (.Name x pos) (c3 (.ty n)):=
 PE.mono (O5 (v:=.ty n) hg hm hv Z' hn hd) λY H Q' zz=>x7 zz λU M Q hs hm ht k=>k _ H _ M (by unfold rH;rfl) hm .refl ht
noncomputable def oa(M:Mp)(a:lf):Option (T0 D):=match M a with
 | some (.lst ds)=>ga ds
 | _=>Fa
noncomputable def yO(x:Str)(n:Int):Str:=⟨(List.replicate n.toNat x.cps).foldl (·++·) #[]⟩
def Uc(op:XXe)(x y:D)(M:Mp)(Q:DK):Prop:=match op,x,y with
 | .Add,.int i,.int j=>Q (.int (i+j)) M
 | .Add,.str i,.str j=>i.length+j.length<=Uf/\Q (.str (i++j)) M
 | .Add,.tup i,.tup j=>i≠[]/\i.length+j.length<=Uf/\Q (.tup (i++j)) M
 | .Add,.ref a,.ref b=>(oa M a).elim False λi=>(oa M b).elim False λj=>i.length+j.length<=Uf/\∀p,M p=Fa->Q (.ref p) (pq M p (.lst (i++j)))
 | .Add,.rl i,.ref b=>(oa M b).elim False λj=>i.length+j.length<=Uf/\∀p,M p=Fa->Q (.ref p) (pq M p (.lst (i++j)))
 | .Sub,.int i,.int j=>Q (.int (i - j)) M
 | .Mult,.int i,.int j=>C8 i j/\Q (.int (i*j)) M
 | .Mult,.str i,.int j=>(j<4096/\-4096<j/\i.length<4096)/\Q (.str (yO i j)) M
 | .FloorDiv,.int i,.int j=>U5 i j/\Q (.int (i / j)) M
 | .Mod,.int i,.int j=>0<j/\Q (.int (i % j)) M
 | _,_,_=>False
def o3(op:XXe)(ta tb:T3):T3:=λU M Q=>ta U M λx M1=>tb U M1 λy M2=>Uc op x y M2 Q
def Up(K:qk)(H:Hp)(Q':VK)(Q:DK):Prop:=∀v H' d M',rH K H' d v->HM K H' M'->qJ K H H'->Q d M'->Q' v H'
variable {ta tb:T3}
section
def pU{K:qk}{ds:T0 D}(hm:HM K H M)(h:oa M a=ga ds):∃xs,xq K H a xs/\qd K H ds xs/\Rd H a (.lst xs):=by
 unfold oa at h;cases e:M a with
 | none=>rw[e]at h;cases h
 | some c=>
  rw[e]at h;have ok:=hm a c e;cases c with
  | lst es=>cases h;obtain⟨xs,e1,e2⟩:=ok;exact⟨xs,.inl (.inl e1),e2,.inl e1⟩
  | ins _ _=>cases h
  | dk _=>cases h
  | exc _=>cases h
def qx{α:Type}{o:Option α}{P:α->Prop}(h:o.elim False P):∃a,o=ga a/\P a:=by
 cases o with
 | none=>exact h.elim
 | some a=>exact⟨a,Z',h⟩
def Jx:xo X (dL .Add) (λx y H Q=>∃l b xs zs,x=.ref l/\y=.ref b/\xq X.K H l xs/\xq X.K H b zs/\xs.length+zs.length<=Uf/\∀p,H p=Fa->Q (.ref p) (upd H p (.lst (xs++zs)))):=by
 intro Xn s Y H x y v u Q I rx ry h;obtain⟨l,b,xs,zs,rfl,rfl,hH,hB,hz,q⟩:=h;cases rx;cases ry;obtain⟨its,r,⟨⟨c1,d1,t1,sl1⟩,n,g1,e1,_,f1⟩,_⟩:=I.list hH;obtain⟨Zc,r2,⟨⟨c2,d2,t2,sl2⟩,m,g2,e2,_,f2⟩,_⟩:=I.list hB;simp only at e1 f1 e2 f2;subst e1 f1 e2 f2;have hl:=r.length;have hl2:=r2.length;refine kG ⟨_,g1,Z'⟩ ⟨_,g2,Z'⟩ noFill_list_add seq_list_add PySem.F.slot_list_add PySem.F.entry_list_add (PySem.F.args_list_add_2 _ _) (list_addW l b its.toArray Zc.toArray n m d1 d2 sl1 sl2 (by rw[dB,dB];lia)) ⟨g1,g2,?_⟩;have ea:its.toArray++Zc.toArray=(its++Zc).toArray:=by simp
 rw[ea];exact⟨.ref _,_,I.oC (t':=s.toks) (r.append r2) (by rw[c9];lia),Z',q _ I.fresh⟩
def Jr(x:Array Nat):∀k,((List.replicate k x).foldl (·++·) #[]:Array Nat).size=k*x.size:=by
 have go:∀(k:Nat) (acc:Array Nat),((List.replicate k x).foldl (·++·) acc).size=acc.size+k*x.size:=by
  intro k;induction k with
  | zero=>intro acc;simp
  | succ k ih=>intro acc;rw[eF,fV,ih,Array.size_append,l8];lia
 intro k;rw[go];simp
def QE:xo X (dL .Mult) (λx y H Q=>∃i j,x=.str i/\y=.int j/\(j<4096/\-4096<j/\i.length<4096)/\Q (.str (yO i j)) H):=by
 intro Xn s Y H x y v u Q I rx ry h;obtain⟨i,j,rfl,rfl,⟨h1,h2,h3⟩,q⟩:=h;obtain⟨t,rfl⟩:=rx;obtain⟨t',rfl⟩:=ry;refine PySem.P.mul_str ?_ ?_ ?_ ?_
 .rw[eD (by lia),eD (by lia)];rfl
 .intro h0 _;have:(4096:Int)<=(2 ^ 63 - 1) / j:=by
   have:(4096:Int)*j<=2 ^ 63 - 1:=by lia
   exact(Int.le_ediv_iff_mul_le (by lia)).mpr this
  lia
 .intro h0 _;have hm:i.length*j.toNat<=4096*4096:=i9 (by lia) (by lia);have hz:=dP;unfold Builtin.Str.tooLong;exact eD (by lia)
 .by_cases h0:j<1
  .rw[df h0];have e:yO i j=Str.empty:=by unfold yO;rw[show j.toNat=0 by lia];rfl
   rw[e]at q;exact⟨by decide,⟨.str Str.empty,H,I.tok _,⟨_,Z'⟩,q⟩⟩
  .rw[de h0];by_cases hj:(j==1||i.length==0)=Db
   .rw[df hj];have e:yO i j=i:=by
     have hj':j=1\/i.length=0:=by simpa using hj
     unfold yO;rcases hj' with z|z
     .subst z;show(⟨#[]++i.cps⟩:Str)=i;simp
     .have ec:i.cps=#[]:=Array.size_eq_zero_iff.mp z;have er:∀k:Nat,((List.replicate k (#[]:Array Nat)).foldl (·++·) #[]:Array Nat)=#[]:=by
       intro k;induction k with
       | zero=>rfl
       | succ k ih=>rw[eF,fV];simpa using ih
      rw[ec,er,<-ec]
    rw[e]at q;exact⟨.str i,H,I,⟨t,Z'⟩,q⟩
   .rw[de hj];refine⟨?_,⟨.str _,H,I.tok _,⟨_,Z'⟩,q⟩⟩;have hz:=dP;have hm:j.toNat*i.length<=4096*4096:=i9 (by lia) (by lia);show((List.replicate j.toNat i.cps).foldl (·++·) #[]:Array Nat).size<=_;rw[Jr];have YW:j.toNat*i.cps.size<=4096*4096:=hm;lia
def R3(K:qk)(f:D->D->Mp->DK->Prop):R2:=λvx vy H Q'=>Co λx y M Q=>rH K H x vx/\rH K H y vy/\HM K H M/\f x y M Q/\Up K H Q' Q
def Xa(op:XXe):xo X (dL op) (R3 X.K (Uc op)):=by
 intro Xn s Y H vx vy v u Q' I rx ry h;obtain⟨x,y,M,Q,hx,hy,hm,q,k⟩:=h;unfold Uc at q;split at q
 .cases hx.int_inv;cases hy.int_inv;exact RC Xn s Y H _ _ v u Q' I rx ry ⟨_,_,Z',Z',k _ _ _ _ .int hm .refl q⟩
 .cases hx.str_inv;cases hy.str_inv;exact HG Xn s Y H _ _ v u Q' I rx ry ⟨_,_,Z',Z',q.1,k _ _ _ _ .str hm .refl q.2⟩
 .rename_i i j;obtain⟨q1,q2,q3⟩:=q;obtain⟨a,xs,rfl,ha,Y3⟩:=hx.mF;obtain⟨b,ys,rfl,hb,Yl⟩:=hy.mF;have l1:=Y3.length;have l2:=Yl.length;refine Pd Xn s Y H _ _ v u Q' I rx ry ⟨a,b,xs,ys,Z',Z',ha,hb,λz=>q1 (by rw[z]at l1;exact gw.mp l1),by lia,λz=>?_,λz p hp=>?_⟩
  .refine k _ _ _ _ (.tup ha ?_) hm .refl q3;rw[z]at Yl;have e0:j=[]:=gw.mp (by simpa using Yl.length);rw[e0,eN];exact Y3
  .have e:qJ X.K H (upd H p (.tup (xs++ys))):=.new hp;exact k _ _ _ _ (.tup (.of pT) ((Y3.append Yl).mono e)) (hm.add hp) e q3
 .obtain⟨i,ei,q⟩:=qx q;obtain⟨j,ej,q1,q2⟩:=qx q;cases hx.mw;cases hy.mw;obtain⟨xs,rx',hxs,_⟩:=pU hm ei;obtain⟨ys,ry',hys,_⟩:=pU hm ej;have l1:=hxs.length;have l2:=hys.length;refine Jx Xn s Y H _ _ v u Q' I rx ry ⟨_,_,xs,ys,Z',Z',rx',ry',by lia,λp hp=>?_⟩;have e:qJ X.K H (upd H p (.lst (xs++ys))):=.new hp;exact k _ _ _ _ .ref (hm.new (c:=.lst (i++j)) hp ⟨_,pT,(hxs.append hys).mono e⟩) e (q2 p (hm.fresh hp))
 .obtain⟨j,ej,q1,q2⟩:=qx q;obtain⟨l,xs,rfl,rx',hxs⟩:=hx.mP;cases hy.mw;obtain⟨ys,ry',hys,_⟩:=pU hm ej;have l1:=hxs.length;have l2:=hys.length;refine Jx Xn s Y H _ _ v u Q' I rx ry ⟨_,_,xs,ys,Z',Z',rx'.sq,ry',by lia,λp hp=>?_⟩;have e:qJ X.K H (upd H p (.lst (xs++ys))):=.new hp;exact k _ _ _ _ .ref (hm.new (c:=.lst (_++j)) hp ⟨_,pT,(hxs.append hys).mono e⟩) e (q2 p (hm.fresh hp))
 .cases hx.int_inv;cases hy.int_inv;exact Sk Xn s Y H _ _ v u Q' I rx ry ⟨_,_,Z',Z',k _ _ _ _ .int hm .refl q⟩
 .cases hx.int_inv;cases hy.int_inv;exact Td Xn s Y H _ _ v u Q' I rx ry ⟨_,_,Z',Z',q.1,k _ _ _ _ .int hm .refl q.2⟩
 .cases hx.str_inv;cases hy.int_inv;exact QE Xn s Y H _ _ v u Q' I rx ry ⟨_,_,Z',Z',q.1,k _ _ _ _ .str hm .refl q.2⟩
 .cases hx.int_inv;cases hy.int_inv;exact NY Xn s Y H _ _ v u Q' I rx ry ⟨_,_,Z',Z',q.1,k _ _ _ _ .int hm .refl q.2⟩
 .cases hx.int_inv;cases hy.int_inv;exact RW Xn s Y H _ _ v u Q' I rx ry ⟨_,_,Z',Z',q.1,k _ _ _ _ .int hm .refl q.2⟩
 .exact q.elim
variable {a b:zn}
def Gs{f:D->D->Mp->DK->Prop}:∀Y H Q',lo X.K (λU M Q=>ta U M λx M1=>tb U M1 λy M2=>f x y M2 Q) Y H Q'->UY (R3 X.K f) (lo X.K ta) (lo X.K tb) Y H Q':=λY H Q' zz=>x7 zz λU M Q hs hm ht k=>⟨U,M,_,hs,hm,ht,λv H1 x M1 hx Xp e1 q1=>⟨U,M1,_,hs.mono e1,Xp,q1,λu H2 y M2 hy XA e2 q2=>⟨x,y,M2,Q,hx.mono e2,hy,XA,q2,vJ (e1.trans e2) k⟩⟩⟩
def pQ(ha:E3 X a ta)(hb:E3 X b tb):E3 X (.BinOp a op b pos) (o3 op ta tb):=PE.mono (Nj (Xa op) ha hb) Gs
end
noncomputable def sy(f:D->D->Option Bool):T0 D->T0 D->Option Bool
 | x::a,y::b=>(f x y).bind λp=>(sy f a b).map λq=>p&&q
 | _,_=>ga Db
noncomputable def za(M:Mp):Nat->D->D->Option Bool
 | 0,_,_=>Fa
 | n+1,x,y=>match x,y with
  | .mC,.mC=>ga Db
  | .bl a,.bl b=>ga (a==b)
  | .int a,.int b=>ga (a==b)
  | .str a,.str b=>ga (a==b)
  | .mC,.bl _=>ga pc
  | .mC,.int _=>ga pc
  | .mC,.str _=>ga pc
  | .bl _,.mC=>ga pc
  | .bl _,.str _=>ga pc
  | .int _,.mC=>ga pc
  | .int _,.str _=>ga pc
  | .str _,.mC=>ga pc
  | .str _,.bl _=>ga pc
  | .str _,.int _=>ga pc
  | .tup a,.tup b=>(sy (za M n) a b).map λp=>p&&a.length==b.length
  | .ref a,.ref b=>(oa M a).bind λi=>(oa M b).bind λj=>if i.length=j.length then sy (za M n) i j else ga pc
  | _,_=>Fa
variable {Xn:T0 (lf × Obj)}{Y:St}{s:Sd}
theorem yH{f:D->D->Option Bool}:∀{ds es:T0 D} {xs:T0 V} {b:Bool},qd X.K H ds xs->qd X.K H es xs->(∀x y v b,rH X.K H x v->rH X.K H y v->f x y=ga b->b=Db)->sy f ds es=ga b->b=Db
 | [],[],_,_,_,_,_,e=>(dv e).symm
 | [],_::_,_,_,h,g,_,_=>by have h1:=h.length;have h2:=g.length;rw[<-h1]at h2;simp at h2
 | _::_,[],_,_,h,g,_,_=>by have h1:=h.length;have h2:=g.length;rw[<-h1]at h2;simp at h2
 | d::ds,e::es,xs,b,h,g,k,q=>by
  obtain⟨x,r,rfl,h1,h2⟩:=h.inv;obtain⟨x',r',e',g1,g2⟩:=g.inv;cases e';unfold sy at q;cases p1:f d e with
  | none=>rw[p1]at q;cases q
  | some b1=>
   rw[p1]at q;cases p2:sy f ds es with
   | none=>rw[p2]at q;cases q
   | some b2=>rw[p2]at q;have q':(b1&&b2)=b:=dv q;rw[<-q',k _ _ _ _ h1 g1 p1,yH h2 g2 k p2];rfl
theorem zB(I:Inv X Xn Y H s)(hm:HM X.K H M):∀(n:Nat) (x y:D) (v:V) (b:Bool),rH X.K H x v->rH X.K H y v->za M n x y=ga b->b=Db
 | 0,_,_,_,_,_,_,e=>by cases e
 | n+1,x,y,v,b,hx,hy,e=>by
  unfold za at e;split at e
  .exact(dv e).symm
  .rw[hx.my]at hy;cases hy.my;exact(dv e).symm.trans (by simp)
  .rw[hx.int_inv]at hy;cases hy.int_inv;exact(dv e).symm.trans (by simp)
  .rw[hx.str_inv]at hy;cases hy.str_inv;exact(dv e).symm.trans (by simp)
  .rw[hx.mz]at hy;cases hy.my
  .rw[hx.mz]at hy;cases hy.int_inv
  .rw[hx.mz]at hy;cases hy.str_inv
  .rw[hx.my]at hy;cases hy.mz
  .rw[hx.my]at hy;cases hy.str_inv
  .rw[hx.int_inv]at hy;cases hy.mz
  .rw[hx.int_inv]at hy;cases hy.str_inv
  .rw[hx.str_inv]at hy;cases hy.mz
  .rw[hx.str_inv]at hy;cases hy.my
  .rw[hx.str_inv]at hy;cases hy.int_inv
  .obtain⟨a,xs,rfl,h1,h2⟩:=hx.mF;obtain⟨a',ys,e',g1,g2⟩:=hy.mF;cases e';rw[I.ni g1 h1]at g2;cases p:sy (za M n) _ _ with
   | none=>rw[p]at e;cases e
   | some b1=>rw[p]at e;have e':=dv e;rw[<-e',yH h2 g2 (zB I hm n) p,h2.length,g2.length];simp
  .rw[hx.mw]at hy;cases hy.mw;cases p:oa M _ with
   | none=>rw[p]at e;cases e
   | some i=>rw[p]at e;have e:(if i.length=i.length then sy (za M n) i i else ga pc)=ga b:=e;rw[df Z']at e;obtain⟨xs,_,h2,_⟩:=pU hm p;exact yH h2 h2 (zB I hm n) e
  .cases e
theorem BM{A:Ar}:∀{ds es:T0 D} {xs ys:T0 V} {us ws:T0 Vl} {b:Bool},sy f ds es=ga b->qd X.K H ds xs->qd X.K H es ys->qw xs us->qw ys ws->
  (∀x y b vx vy u w,f x y=ga b->rH X.K H x vx->rH X.K H y vy->qy vx u->qy vy w->SeqAt.EqAt A s u w b)->
  ∃e:Nat->Bool,(∀j (h1:j<us.length) (h2:j<ws.length),SeqAt.EqAt A s us[j] ws[j] (e j))/\(List.range (min us.length ws.length)).all e=b
 | [],es,xs,ys,us,ws,b,q,hx,hy,rx,ry,k=>by
  have e1:=hx.nil_inv;subst e1;cases rx;refine⟨λ_=>Db,λj h1=>absurd h1 (by simp),?_⟩;have q':ga Db=ga b:=by cases es<;>exact q
  simpa using(dv q')
 | d::ds,[],xs,ys,us,ws,b,q,hx,hy,rx,ry,k=>by
  have e1:=hy.nil_inv;subst e1;cases ry;refine⟨λ_=>Db,λj _ h2=>absurd h2 (by simp),?_⟩;have q':ga Db=ga b:=q
  simpa using(dv q')
 | d::ds,e::es,xs,ys,us,ws,b,q,hx,hy,rx,ry,k=>by
  obtain⟨x,r,rfl,h1,h2⟩:=hx.inv;obtain⟨y,r',rfl,g1,g2⟩:=hy.inv;cases rx with
  | cons r1 r2=>
   cases ry with
   | cons t1 t2=>
    unfold sy at q;cases p1:f d e with
    | none=>rw[p1]at q;cases q
    | some b1=>
     rw[p1]at q;cases p2:sy f ds es with
     | none=>rw[p2]at q;cases q
     | some b2=>
      rw[p2]at q;have q':(b1&&b2)=b:=dv q;obtain⟨e',he,ha⟩:=BM p2 h2 g2 r2 t2 k;refine⟨λj=>match j with|0=>b1|j+1=>e' j,λj l1 l2=>?_,?_⟩
      .cases j with
       | zero=>exact k _ _ _ _ _ _ _ p1 h1 g1 r1 t1
       | succ j=>exact he j (by simpa using l1) (by simpa using l2)
      .rw[<-q',<-ha];simp only[eA];rw[Nat.succ_min_succ,List.range_succ_eq_map,gv,ma];rfl
theorem FC(I:Inv X Xn Y H s)(hm:HM X.K H M):∀(n:Nat) (A:Ar) (x y:D) (b:Bool) (vx vy:V) (u w:Vl),A.units+n<wP->za M n x y=ga b->rH X.K H x vx->rH X.K H y vy->qy vx u->qy vy w->
  SeqAt.RcAt A s u w b/\SeqAt.EqAt A s u w b/\SeqAt.RcNeAt A s u w (!b)
 | 0,_,_,_,_,_,_,_,_,_,e,_,_,_,_=>by cases e
 | n+1,A,x,y,b,vx,vy,u,w,hu,e,hx,hy,rx,ry=>by
  have hu1:A.units<wP:=by lia
  have hui:A.in1.units+n<wP:=by show A.units+1+n<wP;lia
  unfold za at e;split at e
  .cases hx.mz;cases hy.mz;cases rx;cases ry;cases e;exact⟨.none_none,.same _,.none_none⟩
  .cases hx.my;cases hy.my;cases rx;cases ry;cases e;exact⟨.bool_bool _ _,.bool_bool _ _,.bool_bool _ _⟩
  .cases hx.int_inv;cases hy.int_inv;obtain⟨t,rfl⟩:=rx;obtain⟨t',rfl⟩:=ry;cases e;exact⟨.int_int _ _ _ _,.int_int _ _ _ _,.int_int _ _ _ _⟩
  .cases hx.str_inv;cases hy.str_inv;obtain⟨t,rfl⟩:=rx;obtain⟨t',rfl⟩:=ry;cases e;exact⟨.str_str _ _ _ _,.str_str _ _ _ _,.str_str _ _ _ _⟩
  .cases hx.mz;cases hy.my;cases rx;cases ry;cases e;exact⟨.none_bool _,.none_bool _,.none_bool _⟩
  .cases hx.mz;cases hy.int_inv;cases rx;obtain⟨t',rfl⟩:=ry;cases e;exact⟨.none_int _ _,.none_int _ _,.none_int _ _⟩
  .cases hx.mz;cases hy.str_inv;cases rx;obtain⟨t',rfl⟩:=ry;cases e;exact⟨.none_str _ _,.none_str _ _,.none_str _ _⟩
  .cases hx.my;cases hy.mz;cases rx;cases ry;cases e;exact⟨.bool_none _,.bool_none _,.bool_none _⟩
  .cases hx.my;cases hy.str_inv;cases rx;obtain⟨t',rfl⟩:=ry;cases e;exact⟨.bool_str _ _ _,.bool_str _ _ _,.bool_str _ _ _⟩
  .cases hx.int_inv;cases hy.mz;obtain⟨t,rfl⟩:=rx;cases ry;cases e;exact⟨.int_none _ _,.int_none _ _,.int_none _ _⟩
  .cases hx.int_inv;cases hy.str_inv;obtain⟨t,rfl⟩:=rx;obtain⟨t',rfl⟩:=ry;cases e;exact⟨.int_str _ _ _ _,.int_str _ _ _ _,.int_str _ _ _ _⟩
  .cases hx.str_inv;cases hy.mz;obtain⟨t,rfl⟩:=rx;cases ry;cases e;exact⟨.str_none _ _,.str_none _ _,.str_none _ _⟩
  .cases hx.str_inv;cases hy.my;obtain⟨t,rfl⟩:=rx;cases ry;cases e;exact⟨.str_bool _ _ _,.str_bool _ _ _,.str_bool _ _ _⟩
  .cases hx.str_inv;cases hy.int_inv;obtain⟨t,rfl⟩:=rx;obtain⟨t',rfl⟩:=ry;cases e;exact⟨.str_int _ _ _ _,.str_int _ _ _ _,.str_int _ _ _ _⟩
  .rename_i da db;obtain⟨a1,xs,rfl,h1,h2⟩:=hx.mF;obtain⟨a2,ys,rfl,g1,g2⟩:=hy.mF;cases rx;cases ry;obtain⟨us,r1,p1,_⟩:=I.tuple h1;obtain⟨ws,r2,p2,_⟩:=I.tuple g1;cases p:sy (za M n) da db with
   | none=>rw[p]at e;cases e
   | some b1=>
    have e0:=e;rw[p]at e;have e':(b1&&da.length==db.length)=b:=dv e;obtain⟨f,hf,ha⟩:=BM (A:=A.in1) (s:=s) p h2 g2 r1 r2 λx y b vx vy u w q1 q2 q3 q4 q5=>(FC I hm n A.in1 x y b vx vy u w hui q1 q2 q3 q4 q5).2.1;have hb:((List.range (min us.toArray.size ws.toArray.size)).all f&&us.toArray.size==ws.toArray.size)=b:=by rw[dB,dB,ha,<-e',<-r1.length,<-r2.length,h2.length,g2.length]
    have hf':∀j (l1:j<us.toArray.size) (l2:j<ws.toArray.size),SeqAt.EqAt A.in1 s us.toArray[j] ws.toArray[j] (f j):=λj l1 l2=>by simpa using hf j (by simpa using l1) (by simpa using l2)
    have c1:SeqAt.RcAt A s (.ref a1) (.ref a2) b:=by rw[<-hb];exact .tuples p1 p2 hu1 hf'
    have c3:SeqAt.RcNeAt A s (.ref a1) (.ref a2) (!b):=by have:=SeqAt.RcNeAt.tuples p1 p2 hu1 hf';rw[hb]at this;exact this
    refine⟨c1,?_,c3⟩;by_cases ea:a1=a2
    .subst ea;have:b=Db:=zB I hm (n+1) (.tup da) (.tup db) (.ref a1) b hx hy (by unfold za;exact e0);rw[this];exact .same _
    .exact .of_refs ea c1
  .cases hx.mw;cases hy.mw;cases rx;cases ry;rename_i a1 a2;have e0:=e;cases p:oa M a1 with
   | none=>rw[p]at e;cases e
   | some i=>
    cases p':oa M a2 with
    | none=>rw[p,p']at e;cases e
    | some j=>
     rw[p,p']at e;have e:(if i.length=j.length then sy (za M n) i j else ga pc)=ga b:=e;obtain⟨xs,q1,h2,_⟩:=pU hm p;obtain⟨ys,q2,g2,_⟩:=pU hm p';obtain⟨us,r1,p1,_⟩:=I.list q1;obtain⟨ws,r2,p2,_⟩:=I.list q2;have Xs:SeqAt.RcAt A s (.ref a1) (.ref a2) b/\SeqAt.RcNeAt A s (.ref a1) (.ref a2) (!b):=by
      by_cases hl:i.length=j.length
      .rw[df hl]at e;obtain⟨f,hf,ha⟩:=BM (A:=A.in1) (s:=s) e h2 g2 r1 r2 λx y b vx vy u w q1 q2 q3 q4 q5=>(FC I hm n A.in1 x y b vx vy u w hui q1 q2 q3 q4 q5).2.1;have hsz:us.toArray.size=ws.toArray.size:=by rw[dB,dB,<-r1.length,<-r2.length,<-h2.length,<-g2.length];exact hl
       have hf':∀j (l1:j<us.toArray.size) (l2:j<ws.toArray.size),SeqAt.EqAt A.in1 s us.toArray[j] ws.toArray[j] (f j):=λj l1 l2=>by simpa using hf j (by simpa using l1) (by simpa using l2)
       have hb:(List.range us.toArray.size).all f=b:=by rw[<-ha];rw[dB,dB]at hsz;rw[dB,<-hsz,gC]
       rw[<-hb];exact⟨.lists p1.isList p2.isList hsz hu1 hf',.lists p1.isList p2.isList hsz hu1 hf'⟩
      .rw[de hl]at e;cases e;have hsz:(us.toArray.size != ws.toArray.size)=Db:=by
        rw[dB,dB,<-r1.length,<-r2.length,<-h2.length,<-g2.length]
        simpa using hl
       exact⟨.lists_lengths p1.isList p2.isList hsz hu1,.lists_lengths p1.isList p2.isList hsz hu1⟩
     refine⟨Xs.1,?_,Xs.2⟩;by_cases ea:a1=a2
     .subst ea;have:b=Db:=zB I hm (n+1) (.ref a1) (.ref a1) (.ref a1) b .ref .ref (by unfold za;exact e0);rw[this];exact .same _
     .exact .of_refs ea Xs.1
  .cases e
noncomputable def uS:D->Bool
 | .mC=>Db
 | .bl _=>Db
 | .int _=>Db
 | .str _=>Db
 | _=>pc
noncomputable def Qq:D->D->Bool
 | .mC,.mC=>Db
 | .bl a,.bl b=>a==b
 | .bl a,.int b=>(if a then 1 else 0)==b
 | .int a,.bl b=>a==(if b then 1 else 0)
 | .int a,.int b=>a==b
 | .str a,.str b=>a==b
 | _,_=>pc
noncomputable def inD(x:D)(ds:T0 D):Bool:=ds.any λy=>Qq y x
noncomputable def Nu(M:Mp):D->Option (T0 D)
 | .tup ds=>ga ds
 | .ref a=>oa M a
 | .rl ds=>ga ds
 | _=>Fa
noncomputable def Dt(i j:Str):Bool:=!(Builtin.Str.occurrences j i 0 j.length 1).isEmpty
def Sy(Y2:Bool)(x y:D)(M:Mp)(Q:DK):Prop:=match x,y with
 | .str i,.str j=>Q (.bl (if Y2 then !Dt i j else Dt i j)) M
 | _,_=>(Nu M y).elim False λds=>uS x=Db/\ds.all uS=Db/\Q (.bl (if Y2 then !inD x ds else inD x ds)) M
def PL(op:CmpOp)(x y:D)(M:Mp)(Q:DK):Prop:=match op with
 | .Eq=>(za M 9 x y).elim False λb=>Q (.bl b) M
 | .NotEq=>(za M 9 x y).elim False λb=>Q (.bl (!b)) M
 | .Lt=>match x,y with|.int i,.int j=>Q (.bl (decide (i<j))) M|_,_=>False
 | .LtE=>match x,y with|.int i,.int j=>Q (.bl (decide (i<=j))) M|_,_=>False
 | .Gt=>match x,y with|.int i,.int j=>Q (.bl (decide (j<i))) M|_,_=>False
 | .GtE=>match x,y with|.int i,.int j=>Q (.bl (decide (j<=i))) M|_,_=>False
 | .Is=>match y with|.mC=>Q (.bl (match x with|.mC=>Db|_=>pc)) M|_=>False
 | .IsNot=>match y with|.mC=>Q (.bl (match x with|.mC=>pc|_=>Db)) M|_=>False
 | .In=>Sy pc x y M Q
 | .NotIn=>Sy Db x y M Q
def k3(op:CmpOp)(ta tb:T3):T3:=λU M Q=>ta U M λx M1=>tb U M1 λy M2=>PL op x y M2 Q
def zv(h:rH K H d v)(f:uS d=Db):yy v=Db:=by
 cases d with
 | mC=>rw[h.mz];rfl
 | bl _=>rw[h.my];rfl
 | int _=>rw[h.int_inv];rfl
 | str _=>rw[h.str_inv];rfl
 | _=>cases f
def IU(h:rH K H d v)(g:rH K H e w)(f:uS d=Db)(f':uS e=Db):NT v w=Qq d e:=by
 cases d with
 | mC=>
  rw[h.mz];cases e with
  | mC=>rw[g.mz];rfl
  | bl _=>rw[g.my];rfl
  | int _=>rw[g.int_inv];rfl
  | str _=>rw[g.str_inv];rfl
  | _=>cases f'
 | bl _=>
  rw[h.my];cases e with
  | mC=>rw[g.mz];rfl
  | bl _=>rw[g.my];rfl
  | int _=>rw[g.int_inv];rfl
  | str _=>rw[g.str_inv];rfl
  | _=>cases f'
 | int _=>
  rw[h.int_inv];cases e with
  | mC=>rw[g.mz];rfl
  | bl _=>rw[g.my];rfl
  | int _=>rw[g.int_inv];rfl
  | str _=>rw[g.str_inv];rfl
  | _=>cases f'
 | str _=>
  rw[h.str_inv];cases e with
  | mC=>rw[g.mz];rfl
  | bl _=>rw[g.my];rfl
  | int _=>rw[g.int_inv];rfl
  | str _=>rw[g.str_inv];rfl
  | _=>cases f'
 | _=>cases f
theorem EQ:∀{ds:T0 D} {xs:T0 V},qd K H ds xs->ds.all uS=Db->xs.all yy=Db
 | [],_,h,_=>by rw[h.nil_inv];rfl
 | d::ds,_,h,f=>by obtain⟨x,r,rfl,h1,h2⟩:=h.inv;rw[gv,dY]at f ⊢;exact⟨zv h1 f.1,EQ h2 f.2⟩
theorem NP(g:rH K H e w)(f':uS e=Db):∀{ds:T0 D} {xs:T0 V},qd K H ds xs->ds.all uS=Db->inV w xs=inD e ds
 | [],_,h,_=>by rw[h.nil_inv];rfl
 | d::ds,_,h,f=>by obtain⟨x,r,rfl,h1,h2⟩:=h.inv;rw[gv,dY]at f;show(NT x w||inV w r)=(Qq d e||inD e ds);rw[IU h1 g f.1 f',NP g f' h2 f.2]
def Eh(hm:HM K H M){y:D}{v:V}{ds:T0 D}(h:rH K H y v)(q:Nu M y=ga ds):∃p xs,v=.ref p/\(xq K H p xs\/vo K H p xs)/\qd K H ds xs:=by
 cases y with
 | tup es=>cases q;obtain⟨a,xs,rfl,h1,h2⟩:=h.mF;exact⟨a,xs,Z',.inr h1,h2⟩
 | ref a=>cases h.mw;obtain⟨xs,h1,h2,_⟩:=pU hm q;exact⟨a,xs,Z',.inl h1,h2⟩
 | rl es=>cases q;obtain⟨a,xs,rfl,h1,h2⟩:=h.mP;exact⟨a,xs,Z',.inl h1.sq,h2⟩
 | _=>cases q
variable {c:zn}{tc:T3}
section
def Kt(op:CmpOp)(hu:X.A.units+9<wP):xo X (wp op) (R3 X.K (PL op)):=by
 intro Xn s Y H vx vy v u Q' I rx ry h;obtain⟨x,y,M,Q,hx,hy,hm,q,k⟩:=h;have bk:∀b,Q (.bl b) M->EP X Xn Y Q' (.bool b) s:=λb q=>⟨.bl b,H,I,Z',k _ _ _ _ .bl hm .refl q⟩;have inn:∀Y2:Bool,((Nu M y).elim False λds=>uS x=Db/\ds.all uS=Db/\Q (.bl (if Y2 then !inD x ds else inD x ds)) M)->WJ X.K Y2 vx vy H Q':=λY2 q=>by obtain⟨ds,e,f1,f2,q⟩:=qx q;obtain⟨p,xs,rfl,h1,h2⟩:=Eh hm hy e;refine⟨p,xs,Z',h1,zv hx f1,EQ h2 f2,?_⟩;rw[NP hx f1 h2 f2];exact k _ _ _ _ .bl hm .refl q
 cases op with
 | Eq=>obtain⟨b,e,q⟩:=qx q;exact(FC I hm 9 X.A x y b vx vy v u hu e hx hy rx ry).1 _ _ _ _ (bk b q)
 | NotEq=>obtain⟨b,e,q⟩:=qx q;exact(FC I hm 9 X.A x y b vx vy v u hu e hx hy rx ry).2.2 _ _ _ _ (bk _ q)
 | Lt=>
  cases x<;>first|exact q.elim|skip
  cases y<;>first|exact q.elim|skip
  cases hx.int_inv;cases hy.int_inv;exact UT Xn s Y H _ _ v u Q' I rx ry ⟨_,_,Z',Z',k _ _ _ _ .bl hm .refl q⟩
 | LtE=>
  cases x<;>first|exact q.elim|skip
  cases y<;>first|exact q.elim|skip
  cases hx.int_inv;cases hy.int_inv;exact US Xn s Y H _ _ v u Q' I rx ry ⟨_,_,Z',Z',k _ _ _ _ .bl hm .refl q⟩
 | Gt=>
  cases x<;>first|exact q.elim|skip
  cases y<;>first|exact q.elim|skip
  cases hx.int_inv;cases hy.int_inv;exact Vd Xn s Y H _ _ v u Q' I rx ry ⟨_,_,Z',Z',k _ _ _ _ .bl hm .refl q⟩
 | GtE=>
  cases x<;>first|exact q.elim|skip
  cases y<;>first|exact q.elim|skip
  cases hx.int_inv;cases hy.int_inv;exact Uj Xn s Y H _ _ v u Q' I rx ry ⟨_,_,Z',Z',k _ _ _ _ .bl hm .refl q⟩
 | Is=>
  cases y<;>first|exact q.elim|skip
  cases hy.mz;refine Th Xn s Y H _ _ v u Q' I rx ry ⟨Z',k _ _ _ _ ?_ hm .refl q⟩;cases x with
  | mC=>rw[hx.mz];exact .bl
  | bl _=>rw[hx.my];exact .bl
  | int _=>rw[hx.int_inv];exact .bl
  | str _=>rw[hx.str_inv];exact .bl
  | tup _=>obtain⟨a,xs,rfl,_⟩:=hx.mF;exact .bl
  | ref _=>rw[hx.mw];exact .bl
  | ty _=>rw[hx.nI];exact .bl
  | rl _=>obtain⟨a,xs,rfl,_⟩:=hx.mP;exact .bl
 | IsNot=>
  cases y<;>first|exact q.elim|skip
  cases hy.mz;refine P0 Xn s Y H _ _ v u Q' I rx ry ⟨Z',k _ _ _ _ ?_ hm .refl q⟩;cases x with
  | mC=>rw[hx.mz];exact .bl
  | bl _=>rw[hx.my];exact .bl
  | int _=>rw[hx.int_inv];exact .bl
  | str _=>rw[hx.str_inv];exact .bl
  | tup _=>obtain⟨a,xs,rfl,_⟩:=hx.mF;exact .bl
  | ref _=>rw[hx.mw];exact .bl
  | ty _=>rw[hx.nI];exact .bl
  | rl _=>obtain⟨a,xs,rfl,_⟩:=hx.mP;exact .bl
 | In=>
  have q:Sy pc x y M Q:=q;unfold Sy at q;split at q
  .cases hx.str_inv;cases hy.str_inv;exact Kh Xn s Y H _ _ v u Q' I rx ry ⟨_,_,Z',Z',k _ _ _ _ .bl hm .refl q⟩
  .exact Kc Xn s Y H _ _ v u Q' I rx ry (inn pc q)
 | NotIn=>
  have q:Sy Db x y M Q:=q;unfold Sy at q;split at q
  .cases hx.str_inv;cases hy.str_inv;exact Ez Xn s Y H _ _ v u Q' I rx ry ⟨_,_,Z',Z',k _ _ _ _ .bl hm .refl q⟩
  .exact ER Xn s Y H _ _ v u Q' I rx ry (inn Db q)
variable {a b:zn}
def qc{op:CmpOp}(hu:X.A.units+9<wP)(ha:E3 X a ta)(hb:E3 X b tb)(hm:wT op b=pc:=by first|exact Ht _|with_unfolding_all rfl):E3 X (.Compare a [op] [b] pos) (k3 op ta tb):=PE.mono (Jz (Kt op hu) ha hb hm) Gs
def b3(t:T3):Ap:=λU M Q=>t U M λd M1=>match d with|.bl c=>Q c M1|_=>False
def ur(h:E3 X e t)(he:∀XX,isTrue e X.env XX=(do let v<-XX;X' e.pos;At [v] (truthy v)):=by intro _;rfl):B3 X e (b3 t):=PT.mono (R5 h he) λY H Q' zz=>x7 zz λU M Q hs hm ht k=>
 ⟨U,M,_,hs,hm,ht,λv H1 d M1 hd Xp e1 q1=>by
  cases d with
  | bl c=>exact⟨c,hd.my,k c H1 M1 Xp e1 q1⟩
  | _=>exact q1.elim⟩
def pB{op:CmpOp}(hu:X.A.units+9<wP)(ha:E3 X a ta)(hb:E3 X b tb)(hm:wT op b=pc:=by first|exact Ht _|with_unfolding_all rfl):B3 X (.Compare a [op] [b] pos) (b3 (k3 op ta tb)):=PT.mono (JB (Kt op hu) ha hb hm) λY H Q' zz=>x7 zz λU M Q hs hm ht k=>
 Gs Y H _ ⟨U,M,_,hs,hm,ht,λv H1 d M1 hd Xp e1 q1=>by
  cases d with
  | bl c=>exact⟨c,hd.my,k c H1 M1 Xp e1 q1⟩
  | _=>exact q1.elim⟩
end
variable {tA tB:Ap}{rest:T0 zn}
section
variable {a b:zn}
def QH(t u:Ap):Ap:=λU M Q=>t U M λc M1=>if c=Db then u U M1 Q else Q pc M1
def W9(t u:Ap):Ap:=λU M Q=>t U M λc M1=>if c=Db then Q Db M1 else u U M1 Q
def T8(t:Ap):Ap:=λU M Q=>t U M λc M1=>Q (!c) M1
def W3(X:Cx)(e:zn)(t:Ap):Prop:=PW X e (TF X.K t)
def PW.mono{t t':TT}(h:PW X e t)(m:∀Y H Q,t' Y H Q->t Y H Q):PW X e t':=λwh Xn s Y H Q I q=>h wh Xn s Y H Q I (m Y H Q q)
def W3.b3(h:W3 X e t):B3 X e t:=PW.pt h
def yk(h:B3 X a tA):W3 X (.BoolOp .And [a] pos) tA:=QB h
def wU(h:B3 X a tA):W3 X (.BoolOp .Or [a] pos) tA:=Sr h
def yR(ha:B3 X a tA)(hb:W3 X (.BoolOp .And (b::rest) pos) tB):W3 X (.BoolOp .And (a::b::rest) pos) (QH tA tB):=PW.mono (Sl ha hb) λY H Q' zz=>x7 zz λU M Q hs hm ht k=>
 ⟨U,M,_,hs,hm,ht,λc H1 M1 Xp e1 q1=>by
  cases c with
  | true=>exact(df Z').mpr ⟨U,M1,Q,hs.mono e1,Xp,(df Z').mp q1,λb H' M' x1 x2 x3=>k b H' M' x1 (e1.trans x2) x3⟩
  | false=>exact(de dC).mpr (k pc H1 M1 Xp e1 ((de dC).mp q1))⟩
def xM(ha:B3 X a tA)(hb:W3 X (.BoolOp .Or (b::rest) pos) tB):W3 X (.BoolOp .Or (a::b::rest) pos) (W9 tA tB):=PW.mono (UX ha hb) λY H Q' zz=>x7 zz λU M Q hs hm ht k=>
 ⟨U,M,_,hs,hm,ht,λc H1 M1 Xp e1 q1=>by
  cases c with
  | true=>exact(df Z').mpr (k Db H1 M1 Xp e1 ((df Z').mp q1))
  | false=>exact(de dC).mpr ⟨U,M1,Q,hs.mono e1,Xp,(de dC).mp q1,λb H' M' x1 x2 x3=>k b H' M' x1 (e1.trans x2) x3⟩⟩
def vS(ha:B3 X a tA):B3 X (.UnaryOp .Not a pos) (T8 tA):=PT.mono (SB ha) λY H Q' zz=>x7 zz λU M Q hs hm ht k=>⟨U,M,_,hs,hm,ht,λc H1 M1 Xp e1 q1=>k _ H1 M1 Xp e1 q1⟩
def U'(ta tb:T3):T3:=λU M Q=>ta U M λd M1=>match d with|.bl c=>if c=Db then tb U M1 Q else Q (.bl pc) M1|_=>False
def VW(ta tb:T3):T3:=λU M Q=>ta U M λd M1=>match d with|.bl c=>if c=Db then Q (.bl Db) M1 else tb U M1 Q|_=>False
def Uq(ta:T3):T3:=λU M Q=>ta U M λd M1=>match d with|.bl c=>Q (.bl (!c)) M1|_=>False
def sv{op}(h:E3 X a ta):E3 X (.BoolOp op [a] pos) ta:=Tg h
def sN(ha:E3 X a ta)(hb:E3 X (.BoolOp .And (b::rest) pos) tb):E3 X (.BoolOp .And (a::b::rest) pos) (U' ta tb):=PE.mono (SQ ha hb) λY H Q' zz=>x7 zz λU M Q hs hm ht k=>
 ⟨U,M,_,hs,hm,ht,λv H1 d M1 hd Xp e1 q1=>by
  cases d with
  | bl c=>
   refine⟨c,hd.my,?_⟩;cases c with
   | true=>exact(df Z').mpr ⟨U,M1,Q,hs.mono e1,Xp,(df Z').mp q1,vJ e1 k⟩
   | false=>exact(de dC).mpr (k _ H1 _ M1 .bl Xp e1 ((de dC).mp q1))
  | _=>exact q1.elim⟩
def IK(ha:E3 X a ta)(hb:E3 X (.BoolOp .Or (b::rest) pos) tb):E3 X (.BoolOp .Or (a::b::rest) pos) (VW ta tb):=PE.mono (Vo ha hb) λY H Q' zz=>x7 zz λU M Q hs hm ht k=>
 ⟨U,M,_,hs,hm,ht,λv H1 d M1 hd Xp e1 q1=>by
  cases d with
  | bl c=>
   refine⟨c,hd.my,?_⟩;cases c with
   | true=>exact(df Z').mpr (k _ H1 _ M1 .bl Xp e1 ((df Z').mp q1))
   | false=>exact(de dC).mpr ⟨U,M1,Q,hs.mono e1,Xp,(de dC).mp q1,vJ e1 k⟩
  | _=>exact q1.elim⟩
def MQ(ha:E3 X a ta):E3 X (.UnaryOp .Not a pos) (Uq ta):=PE.mono (Rf ha) λY H Q' zz=>x7 zz λU M Q hs hm ht k=>
 ⟨U,M,_,hs,hm,ht,λv H1 d M1 hd Xp e1 q1=>by
  cases d with
  | bl c=>exact⟨c,hd.my,k _ H1 _ M1 .bl Xp e1 q1⟩
  | _=>exact q1.elim⟩
def Xl(t:Ap)(ta tb:T3):T3:=λU M Q=>t U M λc M1=>if c=Db then ta U M1 Q else tb U M1 Q
def Jd(hc:B3 X c tA)(ha:E3 X a ta)(hb:E3 X b tb):E3 X (.IfExp c a b pos) (Xl tA ta tb):=PE.mono (MN hc ha hb) λY H Q' zz=>x7 zz λU M Q hs hm ht k=>
 ⟨U,M,_,hs,hm,ht,λc H1 M1 Xp e1 q1=>by
  cases c with
  | true=>exact(df Z').mpr ⟨U,M1,Q,hs.mono e1,Xp,(df Z').mp q1,vJ e1 k⟩
  | false=>exact(de dC).mpr ⟨U,M1,Q,hs.mono e1,Xp,(de dC).mp q1,vJ e1 k⟩⟩
def WE(x y:D)(M:Mp)(Q:DK):Prop:=match x,y with
 | .tup ds,.int i=>(wF ds i).elim False λd=>Q d M
 | .ref a,.int i=>(oa M a).elim False λds=>(wF ds i).elim False λd=>Q d M
 | .rl ds,.int i=>(wF ds i).elim False λd=>Q d M
 | .str z,.int i=>z.length<=Uf/\(wF z.cps.toList i).elim False λc=>Q (.str ⟨#[c]⟩) M
 | _,_=>False
def i3(ta tb:T3):T3:=λU M Q=>ta U M λx M1=>tb U M1 λy M2=>WE x y M2 Q
def EW{K:qk}{d:D}(h:qd K H ds xs)(e:wF ds i=ga d):∃v,wF xs i=ga v/\rH K H d v:=by
 unfold wF at e ⊢;rw[<-h.length];cases q:D3 ds.length i with
 | none=>rw[q]at e;cases e
 | some j=>rw[q]at e;exact h.get e
def Xh:Tr X (R3 X.K WE):=by
 intro value Xz Xn s Y H vx vy v u Q' I rx ry h hs;obtain⟨x,y,M,Q,hx,hy,hm,q,k⟩:=h;unfold WE at q;split at q
 .obtain⟨d,e,q⟩:=qx q;obtain⟨p,xs,rfl,h1,h2⟩:=hx.mF;cases hy.int_inv;obtain⟨w,e1,e2⟩:=EW h2 e;exact RK value Xz Xn s Y H _ _ v u Q' I rx ry ⟨p,xs,_,w,Z',Z',h1,e1,k _ _ _ _ e2 hm .refl q⟩ hs
 .obtain⟨ds,e0,q⟩:=qx q;obtain⟨d,e,q⟩:=qx q;cases hx.mw;cases hy.int_inv;obtain⟨xs,h1,h2,_⟩:=pU hm e0;obtain⟨w,e1,e2⟩:=EW h2 e;exact Jv value Xz Xn s Y H _ _ v u Q' I rx ry ⟨_,xs,_,w,Z',Z',h1,e1,k _ _ _ _ e2 hm .refl q⟩ hs
 .obtain⟨d,e,q⟩:=qx q;obtain⟨p,xs,rfl,h1,h2⟩:=hx.mP;cases hy.int_inv;obtain⟨w,e1,e2⟩:=EW h2 e;exact Jv value Xz Xn s Y H _ _ v u Q' I rx ry ⟨p,xs,_,w,Z',Z',h1.sq,e1,k _ _ _ _ e2 hm .refl q⟩ hs
 .obtain⟨q1,q⟩:=q;obtain⟨c,e,q⟩:=qx q;cases hx.str_inv;cases hy.int_inv;exact RY value Xz Xn s Y H _ _ v u Q' I rx ry ⟨_,_,c,Z',Z',q1,e,k _ _ _ _ .str hm .refl q⟩ hs
 .exact q.elim
def pD(ha:E3 X a ta)(hb:E3 X b tb)(hs:A8 b:=by exact λ_ _=>rfl):E3 X (.Subscript a b pos) (i3 ta tb):=PE.mono (K' Xh ha hb hs) Gs
noncomputable def uM(ds:T0 D)(lo hi:Option Int):T0 D:=(ds.drop (HT.sW ds.length 0 lo)).take (HT.sW ds.length ds.length hi - HT.sW ds.length 0 lo)
def Fs{K:qk}(q:qd K H ds xs):qd K H (uM ds l h) (BV xs l h):=by unfold uM BV;rw[q.length];exact(q.drop _).take _
abbrev TC:=vj->Mp->(Option Int->Mp->Prop)->Prop
def Xe(K:qk)(t:TC):TO:=λY H Q'=>Dg λU M Q=>zQ K H Y U/\HM K H M/\t U M Q/\∀o H' M',HM K H' M'->qJ K H H'->Q o M'->Q' o H'
def O3(X:Cx)(e:Option zn)(t:TC):Prop:=PO X e (Xe X.K t)
def OU:TC:=λ_ M Q=>Q Fa M
def Vg(t:T3):TC:=λU M Q=>t U M λd M1=>match d with|.int i=>Q (ga i) M1|_=>False
def PO.mono{t t':TO}(h:PO X e t)(m:∀Y H Q,t' Y H Q->t Y H Q):PO X e t':=λXn s Y H Q I q=>h Xn s Y H Q I (m Y H Q q)
def sR:O3 X Fa OU:=PO.mono Pe λY H Q' zz=>x7 zz λU M Q hs hm ht k=>k Fa H M hm .refl ht
def sS(h:E3 X e t):O3 X (ga e) (Vg t):=PO.mono (Qa h) λY H Q' zz=>x7 zz λU M Q hs hm ht k=>
 ⟨U,M,_,hs,hm,ht,λv H1 d M1 hd Xp e1 q1=>by
  cases d with
  | int i=>exact⟨i,hd.int_inv,k (ga i) H1 M1 Xp e1 q1⟩
  | _=>exact q1.elim⟩
def W2(x:D)(lo hi:Option Int)(M:Mp)(Q:DK):Prop:=match x with
 | .tup ds=>Q (.tup (uM ds lo hi)) M
 | .ref a=>(oa M a).elim False λds=>∀p,M p=Fa->Q (.ref p) (pq M p (.lst (uM ds lo hi)))
 | .rl ds=>∀p,M p=Fa->Q (.ref p) (pq M p (.lst (uM ds lo hi)))
 | _=>False
def s3(te:T3)(tl th:TC):T3:=λU M Q=>te U M λx M1=>tl U M1 λl M2=>th U M2 λu M3=>W2 x l u M3 Q
def V9(K:qk):V->Option Int->Option Int->Hp->VK->Prop:=λvx l u H Q'=>Dg λx M Q=>rH K H x vx/\HM K H M/\W2 x l u M Q/\Up K H Q' Q
def Qs{ds:T0 D}{lo hi:Option Int}(h:HT.sW ds.length 0 lo=0/\HT.sW ds.length ds.length hi=ds.length):uM ds lo hi=ds:=by unfold uM;rw[h.1,h.2,j3,kK,fP]
def WA:U7 X (V9 X.K):=by
 intro Xn s Y H vx v vl vu l u sl Q' I rx hsl pl pu h;obtain⟨x,M,Q,hx,hm,q,k⟩:=h;cases x with
 | tup ds=>
  have q2:Q (.tup (uM ds l u)) M:=q;obtain⟨a,xs,rfl,h1,h2⟩:=hx.mF;by_cases q1:HT.sW ds.length 0 l=0/\HT.sW ds.length ds.length u=ds.length
  .rw[Qs q1]at q2;exact RS Xn s Y H _ v vl vu l u sl Q' I rx hsl pl pu ⟨a,xs,Z',h1,by rw[<-h2.length];exact q1,k _ _ _ _ hx hm .refl q2⟩
  refine RO Xn s Y H _ v vl vu l u sl Q' I rx hsl pl pu ⟨a,xs,Z',h1,by rw[<-h2.length];exact q1,λp hp=>?_⟩;have e:qJ X.K H (upd H p (.tup (BV xs l u))):=.new hp;exact k _ _ _ _ (.tup (.of pT) ((Fs h2).mono e)) (hm.add hp) e q2
 | ref a=>obtain⟨ds,e0,q⟩:=qx q;cases hx.mw;obtain⟨xs,h1,h2,_⟩:=pU hm e0;refine ID Xn s Y H _ v vl vu l u sl Q' I rx hsl pl pu ⟨a,xs,Z',h1,λp hp=>?_⟩;have e:qJ X.K H (upd H p (.lst (BV xs l u))):=.new hp;exact k _ _ _ _ .ref (hm.new (c:=.lst (uM ds l u)) hp ⟨_,pT,(Fs h2).mono e⟩) e (q p (hm.fresh hp))
 | rl ds=>obtain⟨a,xs,rfl,h1,h2⟩:=hx.mP;refine ID Xn s Y H _ v vl vu l u sl Q' I rx hsl pl pu ⟨a,xs,Z',h1.sq,λp hp=>?_⟩;have e:qJ X.K H (upd H p (.lst (BV xs l u))):=.new hp;exact k _ _ _ _ .ref (hm.new (c:=.lst (uM ds l u)) hp ⟨_,pT,(Fs h2).mono e⟩) e (q p (hm.fresh hp))
 | _=>exact q.elim
def r6{lo hi:Option zn}{p2:Pos}(he:E3 X e te)(hl:O3 X lo tl)(hu:O3 X hi th):E3 X (.Subscript e (.Slice lo hi Fa p2) pos) (s3 te tl th):=PE.mono (L0 WA he hl hu) λY H Q' zz=>x7 zz λU M Q hs hm ht k=>⟨U,M,_,hs,hm,ht,λv H1 x M1 hx Xp e1 q1=>⟨U,M1,_,hs.mono e1,Xp,q1,λl H2 M2 XA e2 q2=>⟨U,M2,_,hs.mono (e1.trans e2),XA,q2,λu H3 M3 XW e3 q3=>⟨x,M3,Q,hx.mono (e2.trans e3),XW,q3,vJ (e1.trans (e2.trans e3)) k⟩⟩⟩⟩
def vt:xf:=λ_ M Q=>Q [] M
def ua(ta:T3)(tr:xf):xf:=λU M Q=>ta U M λx M1=>tr U M1 λxs M2=>Q (x::xs) M2
def rO:A3 X [] vt:=PA.mono SC λY H Q' zz=>x7 zz λU M Q hs hm ht k=>k [] H [] M .nil hm .refl ht
def pV(ha:E3 X e te)(hr:A3 X es t)(hs:A9 X e es:=by rfl):A3 X (e::es) (ua te t):=PA.mono (Px ha hr hs) λY H Q' zz=>x7 zz λU M Q hs hm ht k=>⟨U,M,_,hs,hm,ht,λv H1 x M1 hx Xp e1 q1=>⟨U,M1,_,hs.mono e1,Xp,q1,λvs H2 xs M2 hxs XA e2 q2=>k _ H2 _ M2 (.cons (hx.mono e2) hxs) XA (e1.trans e2) q2⟩⟩
def Wd(t:xf):T3:=λU M Q=>t U M λds M1=>ds.length<=Uf/\Q (.tup ds) M1
def RA(t:xf):T3:=λU M Q=>t U M λds M1=>ds.length<=Uf/\∀p,M1 p=Fa->Q (.ref p) (pq M1 p (.lst ds))
def pI{x1}(h:A3 X es t):E3 X (.Tuple es x1 pos) (Wd t):=PE.mono (RU h) λY H Q' zz=>x7 zz λU M Q hs hm ht k=>
 ⟨U,M,_,hs,hm,ht,λvs H1 ds M1 YG Xp e1 q1=>⟨by rw[<-YG.length];exact q1.1,λp hp=>by
  have e:qJ X.K H1 (upd H1 p (.tup vs)):=.new hp;exact k _ _ _ M1 (.tup (.of pT) (YG.mono e)) (Xp.add hp) (e1.trans e) q1.2⟩⟩
def qB(h:A3 X es t):E3 X (.List es pos) (RA t):=PE.mono (S6 h) λY H Q' zz=>x7 zz λU M Q hs hm ht k=>
 ⟨U,M,_,hs,hm,ht,λvs H1 ds M1 YG Xp e1 q1=>⟨by rw[<-YG.length];exact q1.1,λp hp=>by
  have e:qJ X.K H1 (upd H1 p (.lst vs)):=.new hp;exact k _ _ _ _ .ref (Xp.new (c:=.lst ds) hp ⟨_,pT,YG.mono e⟩) (e1.trans e) (q1.2 p (Xp.fresh hp))⟩⟩
def uo(t u:xj):xj:=λD U M=>t {D with nx:=u D} U M
def WR:xj:=λD U M=>D.nx U M
def pE:G8 X [] WR:=B7.mono Qc λD' Y H zz=>JG zz λU M D hs hm ht k1 k2 k3 k4=>k1 Y H U M hs hm .refl Z' ht
def oX{st:xz}{rest:T0 xz}(h1:S3 X st t)(h2:G8 X rest u):G8 X (st::rest) (uo t u):=B7.mono (Nz h1 h2) λD' Y H zz=>JG zz λU M D hs hm ht k1 k2 k3 k4=>
 ⟨U,M,{D with nx:=u D},hs,hm,ht,λσ1 H1 δ1 M1 hs1 Xp e1 l1 q1=>⟨δ1,M1,D,hs1,Xp,q1,λσ' H' δ' M' x1 x2 x3 x4 x5=>k1 σ' H' δ' M' x1 x2 (e1.trans x3) (x4.trans l1) x5,λv H' d M' x1 x2 x3 x4=>k2 v H' d M' x1 x2 (e1.trans x3) x4,λσ' H' δ' M' x1 x2 x3 x4 x5=>k3 σ' H' δ' M' x1 x2 (e1.trans x3) (x4.trans l1) x5,λσ' H' δ' M' x1 x2 x3 x4 x5=>k4 σ' H' δ' M' x1 x2 (e1.trans x3) (x4.trans l1) x5⟩,k2,k3,k4⟩
def oY{st:xz}(h1:S3 X st t):G8 X [st] t:=B7.mono (IL h1) λD' Y H h=>h
def TV(te:T3):xj:=λD U M=>te U M λ_ M1=>D.nx U M1
def pH(he:E3 X e te)(YU:Ix e Fa pos.line X.env=pure pc:=by rfl):S3 X (.Expr e pos) (TV te):=PS.mono (OR he YU) λD' Y H zz=>JG zz λU M D hs hm ht k1 k2 k3 k4=>⟨U,M,_,hs,hm,ht,λv H1 d M1 hd Xp e1 q1=>k1 Y H1 U M1 (hs.mono e1) Xp e1 Z' q1⟩
def SR(te:T3):xj:=λD U M=>te U M D.rt
noncomputable def pk(he:E3 X e te):S3 X (.Return (ga e) pos) (SR te):=PS.mono (SK he) λD' Y H zz=>JG zz λU M D hs hm ht k1 k2 k3 k4=>⟨U,M,_,hs,hm,ht,λv H1 d M1 hd Xp e1 q1=>k2 v H1 d M1 hd Xp e1 q1⟩
def Qb(c:Ap)(t u:xj):xj:=λD U M=>c U M λb M1=>if b=Db then t D U M1 else u D U M1
def pJ{tc:Ap}(hc:B3 X c tc)(ha:G8 X as t)(hb:G8 X bs u):S3 X (.If c as bs pos) (Qb tc t u):=PS.mono (UB hc ha hb) λD' Y H zz=>JG zz λU M D hs hm ht k1 k2 k3 k4=>
 ⟨U,M,_,hs,hm,ht,λb H1 M1 Xp e1 q1=>by
  have up:∀t:xj,t D U M1->VE X.K t D' Y H1:=λt q=>⟨U,M1,D,hs.mono e1,Xp,q,λσ' H' δ' M' x1 x2 x3 x4 x5=>k1 σ' H' δ' M' x1 x2 (e1.trans x3) x4 x5,λv H' d M' x1 x2 x3 x4=>k2 v H' d M' x1 x2 (e1.trans x3) x4,λσ' H' δ' M' x1 x2 x3 x4 x5=>k3 σ' H' δ' M' x1 x2 (e1.trans x3) x4 x5,λσ' H' δ' M' x1 x2 x3 x4 x5=>k4 σ' H' δ' M' x1 x2 (e1.trans x3) x4 x5⟩
  cases b with
  | true=>exact(df Z').mpr (up t ((df Z').mp q1))
  | false=>exact(de dC).mpr (up u ((de dC).mp q1))⟩
def SE:xj:=λ_ _ _=>False
def GS{st:xz}:S3 X st SE:=PS.mono MB λD' Y H ⟨U,M,D,hs,hm,ht,_⟩=>ht
abbrev DE:=D->vj->Mp->(vj->Mp->Prop)->Prop
def Vy(K:qk)(g:DE):TG:=λv Y H Q'=>Co λd U M Q=>rH K H d v/\zQ K H Y U/\HM K H M/\g d U M Q/\∀σ' H' δ' M',zQ K H' σ' δ'->HM K H' M'->qJ K H H'->σ'.length=Y.length->Q δ' M'->Q' σ' H'
def G3(X:Cx)(e:zn)(g:DE):Prop:=PG X e (Vy X.K g)
def PG.nH{t t':TG}(h:PG X e t)(m:∀v Y H Q,Y.length=X.N.length->t' v Y H Q->t v Y H Q):PG X e t':=λXn s Y H v u Q I r q=>h Xn s Y H v u Q I r (m v Y H Q I.len q)
def rG(i:Nat):DE:=λd U M Q=>Q (U.set i (ga d)) M
def Je{i:Nat}{x:Str}(hN:X.N.Nodup)(hi:X.N[i]?=ga x)(hx:KM X.env.scope x)(hf:KL X x:=by first|exact .inl Z'|exact .inr Z'|assumption):G3 X (.Name x pos) (rG i):=
 PG.nH (QA hN hi hx hf) λv Y H Q' hl ⟨d,U,M,Q,hd,hs,hm,ht,k⟩=>k _ H _ M (hs.set hd (by rw[hl];exact(cZ.mp hi).1)) hm .refl (by simp) ht
abbrev G7:=T0 D->vj->Mp->(vj->Mp->Prop)->Prop
def Wz(K:qk)(g:G7):OC:=λvs Y H Q'=>Co λds U M Q=>qd K H ds vs/\zQ K H Y U/\HM K H M/\g ds U M Q/\∀σ' H' δ' M',zQ K H' σ' δ'->HM K H' M'->qJ K H H'->σ'.length=Y.length->Q δ' M'->Q' σ' H'
def Vx(X:Cx)(es:T0 zn)(g:G7):Prop:=NX X es (Wz X.K g)
def NX.mono{t t':OC}(h:NX X e t)(m:∀v Y H Q,t' v Y H Q->t v Y H Q):NX X e t':=λXn s Y H v u Q I r q=>h Xn s Y H v u Q I r (m v Y H Q q)
def PG.mono{t t':TG}(h:PG X e t)(m:∀v Y H Q,t' v Y H Q->t v Y H Q):PG X e t':=λXn s Y H v u Q I r q=>h Xn s Y H v u Q I r (m v Y H Q q)
def BU:G7:=λds U M Q=>match ds with|[]=>Q U M|_=>False
def xt(t:DE)(u:G7):G7:=λds U M Q=>match ds with|d::r=>t d U M λδ' M'=>u r δ' M' Q|[]=>False
def sU:Vx X [] BU:=NX.mono Qp λvs Y H Q' ⟨ds,U,M,Q,hd,hs,hm,ht,k⟩=>by
 cases ds with
 | nil=>exact⟨hd.nil_inv,k Y H U M hs hm .refl Z' ht⟩
 | cons _ _=>exact ht.elim
def qh(h1:G3 X e t)(h2:Vx X es u)(hs:(IN (e::es) X.env).map (·.2)=assign e X.env::(IN es X.env).map (·.2):=by rfl):Vx X (e::es) (xt t u):=
 NX.mono (Nq h1 h2 hs) λvs Y H Q' ⟨ds,U,M,Q,hd,hs,hm,ht,k⟩=>by
 cases ds with
 | nil=>exact ht.elim
 | cons d r=>obtain⟨x,xr,rfl,hx,hr⟩:=hd.inv;exact⟨x,xr,Z',d,U,M,_,hx,hs,hm,ht,λσ1 H1 δ1 M1 hs1 Xp e1 l1 q1=>⟨r,δ1,M1,Q,hr.mono e1,hs1,Xp,q1,λσ' H' δ' M' x1 x2 x3 x4 x5=>k σ' H' δ' M' x1 x2 (e1.trans x3) (x4.trans l1) x5⟩⟩
def QM(n:Nat)(t:G7):DE:=λd U M Q=>match d with|.tup ds=>ds.length=n/\t ds U M Q|_=>False
def ue{n:Nat}(hc:X.calm=Db)(h:Vx X es t)(hn:(IN es X.env).length=n:=by rfl)(XJ:(IN es X.env).findIdx? (·.1)=Fa:=by rfl):G3 X (.Tuple es k pos) (QM n t):=
 PG.mono (Rp hc h hn XJ) λv Y H Q' ⟨d,U,M,Q,hd,hs,hm,ht,k⟩=>by
 cases d with
 | tup ds=>obtain⟨a,xs,rfl,h1,h2⟩:=hd.mF;exact⟨a,xs,Z',h1,by rw[<-h2.length];exact ht.1,ds,U,M,Q,h2,hs,hm,ht.2,k⟩
 | _=>exact ht.elim
def Dl(te:T3)(g:DE):xj:=λD U M=>te U M λx M1=>g x U M1 D.nx
def R0(he:E3 X e te)(hg:G3 X tg g)(hs:swapsWithSole [tg] e pos.line X.env=pure pc:=by rfl)(hw:swappedStores [tg] e X.env=pure Fa:=by rfl)
  (h1:(IN [tg] X.env).map (·.2)=[assign tg X.env]:=by rfl):S3 X (.Assign [tg] e pos) (Dl te g):=PS.mono (RG he hg hs hw h1) λD' Y H zz=>JG zz λU M D hs hm ht k1 k2 k3 k4=>
 ⟨U,M,_,hs,hm,ht,λv H1 d M1 hd Xp e1 q1=>⟨d,U,M1,_,hd,hs.mono e1,Xp,q1,λσ' H' δ' M' x1 x2 x3 x4 x5=>k1 σ' H' δ' M' x1 x2 (e1.trans x3) x4 x5⟩⟩
def RJ{i:Nat}{x:Str}(hN:X.N.Nodup)(hi:X.N[i]?=ga x)(hx:KM X.env.scope x)(he:E3 X e te)(YU:Ix e (ga (.Name x Xw)) pos.line X.env=pure pc:=by rfl)
  (hf:KL X x:=by first|exact .inl Z'|exact .inr Z'|assumption):S3 X (.Assign [.Name x Xw] e pos) (Dl te (rG i)):=PS.nH (SA hN hi hx he YU hf) λD' Y H hl zz=>JG zz λU M D hs hm ht k1 k2 k3 k4=>
 ⟨U,M,_,hs,hm,ht,λv H1 d M1 hd Xp e1 q1=>k1 _ H1 _ M1 ((hs.mono e1).set hd (by rw[hl];exact(cZ.mp hi).1)) Xp e1 (by simp) q1⟩
end
abbrev rb:=T0 D->Mp->DK->Prop
def NV(K:qk)(sp:rb):Sp:=λvs H Q' _=>Dg λds M Q=>qd K H ds vs/\HM K H M/\sp ds M Q/\Up K H Q' Q
noncomputable def wQ(N:QQQ)(ds:T0 D):vj:=ds.map ga++List.replicate (N.length - ds.length) Fa
def DB{K:qk}(h:qd K H ds vs):zQ K H (L2.start N vs) (wQ N ds):=λi d q=>by
 unfold wQ at q;unfold L2.start;by_cases hi:i<ds.length
 .rw[eV (by simpa using hi),dA]at q;cases e:ds[i]? with
  | none=>rw[e]at q;cases q
  | some d'=>rw[e]at q;cases q;obtain⟨v,e1,e2⟩:=h.get e;refine⟨v,?_,e2⟩;rw[eV (by rw[cW,<-h.length];exact hi),dA,e1];rfl
 .rw[eL (by simpa using hi),jI]at q;split at q<;>cases q
variable {P:Pg}{w:Wo}{mg:QQZ}{base:Go}
abbrev Tu(P:Pg)(w:Wo)(K:qk)(mg:QQZ)(base:Go)(k:Nat)(f:lf)(fd:Rs)(ps:QQQ)(sp:rb):Prop:=xl P w K mg base NU k f fd ps (NV K sp)
variable {k:Nat}{f C:lf}{fd:Rs}{ps:QQQ}{sp:rb}{x m fn:Str}{p Xq:Pos}{e o:zn}{es:T0 zn}{t:xf}
def AD(sp:rb)(t:xf):T3:=λU M Q=>t U M λds M1=>sp ds M1 Q
def Ov(F:Tu X.prog X.w X.K X.mg X.base k f fd ps sp)(hr:rS k X.A)(hg:Gl X x)(hm:X.mg x=ga (.ref f))(hk:W.keepIn X.K (.ref f)=Db)(hb:uK X.K fd ps [])(ha:A3 X (e::es) t) (XF:zb x:=by decide) (he:A9 X e es:=by rfl) (XC:CP X pos es:=by rfl):
  E3 X (.Call (.Name x p) (e::es) [] pos) (AD sp t):=PE.mono (OQ F hr hg hm hk hb .nil (G1 (X:=X)) ha XF he XC) λY H Q' zz=>x7 zz λU M Q hs hm ht k=>
 ⟨U,M,_,hs,hm,ht,λvs H1 ds M1 hd Xp e1 q1=>⟨ds,M1,Q,by rw[eN];exact hd,Xp,q1,vJ e1 k⟩⟩
def C3(X:Cx)(f:Vl)(r:rb):Prop:=yt X f λvs H Q'=>∃ds M Q,qd X.K H ds vs/\HM X.K H M/\r ds M Q/\Up X.K H Q' Q
def pM{id:String}(hc:C3 X (.builtin id) r)(hg:Gl X x)(hm:X.mg x=Fa)(hv:Tl x=ga (.builtin id))(ha:A3 X (e::es) t)(hn:x≠"__name__":=by decide)(XF:zb x:=by decide)
  (he:A9 X e es:=by rfl) (XC:CP X pos es:=by rfl):E3 X (.Call (.Name x p) (e::es) [] pos) (AD r t):=
 PE.mono (LI hc hg hm hv ha hn XF he XC) λY H Q' zz=>x7 zz λU M Q hs hm ht k=>⟨U,M,_,hs,hm,ht,λvs H1 ds M1 hd Xp e1 q1=>⟨ds,M1,Q,hd,Xp,q1,vJ e1 k⟩⟩
def qe{T:String}(hc:C3 X (.type T) r)(hg:Gl X x)(hm:X.mg x=Fa)(hv:Tl x=ga (.type T))(ha:A3 X (e::es) t)(hn:x≠"__name__":=by decide)(XF:zb x:=by decide)
  (he:A9 X e es:=by rfl) (XC:CP X pos es:=by rfl):E3 X (.Call (.Name x p) (e::es) [] pos) (AD r t):=
 PE.mono (Kw hc hg hm hv ha hn XF he XC) λY H Q' zz=>x7 zz λU M Q hs hm ht k=>⟨U,M,_,hs,hm,ht,λvs H1 ds M1 hd Xp e1 q1=>⟨ds,M1,Q,hd,Xp,q1,vJ e1 k⟩⟩
def Qg(ds:T0 D)(M:Mp)(Q:DK):Prop:=match ds with
 | [.str z]=>z.length<=Uf/\Q (.int z.length) M
 | [.tup es]=>Q (.int es.length) M
 | [.ref a]=>(oa M a).elim False λes=>Q (.int es.length) M
 | [.rl es]=>Q (.int es.length) M
 | _=>False
def rL{K:qk}{d:D}(h:qd K H [d] vs):∃v,vs=[v]/\rH K H d v:=by obtain⟨x,r,rfl,a,b⟩:=h.inv;rw[b.nil_inv];exact⟨x,Z',a⟩
def ze{K:qk}{d e:D}(h:qd K H [d,e] vs):∃v u,vs=[v,u]/\rH K H d v/\rH K H e u:=by obtain⟨x,r,rfl,a,b⟩:=h.inv;obtain⟨y,rfl,c⟩:=rL b;exact⟨x,y,Z',a,c⟩
def qm:C3 X (.builtin "len") Qg:=by
 intro Xn s Y H vs us Q' I rv h;obtain⟨ds,M,Q,hd,hm,q,k⟩:=h;unfold Qg at q;split at q
 .obtain⟨v,rfl,hv⟩:=rL hd;cases hv.str_inv;exact EE Xn s Y H _ us Q' I rv ⟨_,Z',q.1,k _ _ _ _ .int hm .refl q.2⟩
 .obtain⟨v,rfl,hv⟩:=rL hd;obtain⟨a,xs,rfl,h1,h2⟩:=hv.mF;exact wI Xn s Y H _ us Q' I rv ⟨a,xs,Z',.inr h1,k _ _ _ _ (by rw[<-h2.length];exact .int) hm .refl q⟩
 .obtain⟨v,rfl,hv⟩:=rL hd;obtain⟨es,e0,q⟩:=qx q;cases hv.mw;obtain⟨xs,h1,h2,_⟩:=pU hm e0;exact wI Xn s Y H _ us Q' I rv ⟨_,xs,Z',.inl h1,k _ _ _ _ (by rw[<-h2.length];exact .int) hm .refl q⟩
 .obtain⟨v,rfl,hv⟩:=rL hd;obtain⟨a,xs,rfl,h1,h2⟩:=hv.mP;exact wI Xn s Y H _ us Q' I rv ⟨a,xs,Z',.inl h1.sq,k _ _ _ _ (by rw[<-h2.length];exact .int) hm .refl q⟩
 .exact q.elim
def T7(ds:T0 D)(M:Mp)(Q:DK):Prop:=match ds with
 | [.int i,.int j]=>Q (.int (if j<i then j else i)) M
 | _=>False
def MX(hc:X.calm=Db):C3 X (.builtin "min") T7:=by
 intro Xn s Y H vs us Q' I rv h;obtain⟨ds,M,Q,hd,hm,q,k⟩:=h;unfold T7 at q;split at q
 .obtain⟨v,u,rfl,hv,hw⟩:=ze hd;cases hv.int_inv;cases hw.int_inv;exact KB hc Xn s Y H _ us Q' I rv ⟨_,_,Z',k _ _ _ _ .int hm .refl q⟩
 .exact q.elim
def MT(ds:T0 D)(M:Mp)(Q:DK):Prop:=match ds with
 | [.tup es]=>Q (.tup es) M
 | [.ref a]=>(oa M a).elim False λes=>Q (.tup es) M
 | [.rl es]=>Q (.tup es) M
 | _=>False
def uH:C3 X (.type "tuple") MT:=by
 intro Xn s Y H vs us Q' I rv h;obtain⟨ds,M,Q,hd,hm,q,k⟩:=h;unfold MT at q;split at q
 .obtain⟨v,rfl,hv⟩:=rL hd;obtain⟨a,xs,rfl,h1,h2⟩:=id hv.mF;exact vR Xn s Y H _ us Q' I rv ⟨a,xs,Z',.inr ⟨h1,k _ _ _ _ hv hm .refl q⟩⟩
 .obtain⟨v,rfl,hv⟩:=rL hd;obtain⟨es,e0,q⟩:=qx q;cases hv.mw;obtain⟨xs,h1,h2,_⟩:=pU hm e0;refine vR Xn s Y H _ us Q' I rv ⟨_,xs,Z',.inl ⟨h1,λl hl=>?_⟩⟩;have e:qJ X.K H (upd H l (.tup xs)):=.new hl;exact k _ _ _ _ (.tup (.of pT) (h2.mono e)) (hm.add hl) e q
 .obtain⟨v,rfl,hv⟩:=rL hd;obtain⟨a,xs,rfl,h1,h2⟩:=hv.mP;refine vR Xn s Y H _ us Q' I rv ⟨_,xs,Z',.inl ⟨h1.sq,λl hl=>?_⟩⟩;have e:qJ X.K H (upd H l (.tup xs)):=.new hl;exact k _ _ _ _ (.tup (.of pT) (h2.mono e)) (hm.add hl) e q
 .exact q.elim
def QN(ds:T0 D)(M:Mp)(Q:DK):Prop:=match ds with
 | [d]=>(Nu M d).elim False λes=>∀p,M p=Fa->Q (.ref p) (pq M p (.lst es))
 | _=>False
def sI:C3 X (.type "list") QN:=by
 intro Xn s Y H vs us Q' I rv h;obtain⟨ds,M,Q,hd,hm,q,k⟩:=h;unfold QN at q;split at q
 .obtain⟨v,rfl,hv⟩:=rL hd;obtain⟨es,e0,q⟩:=qx q;obtain⟨p,xs,rfl,h1,h2⟩:=Eh hm hv e0;refine Fz Xn s Y H _ us Q' I rv ⟨p,xs,Z',h1,λl hl=>?_⟩;have e:qJ X.K H (upd H l (.lst xs)):=.new hl;exact k _ _ _ _ .ref (hm.new (c:=.lst es) hl ⟨_,pT,h2.mono e⟩) e (q l (hm.fresh hl))
 .exact q.elim
theorem wK{K:qk}{f:Str}:∀{fs:T0 (Str×D)} {vs:T0 (Str×V)},BH K H fs vs->(∀d,fs.lookup f=ga d->∃v,vs.lookup f=ga v/\rH K H d v)/\(fs.lookup f=Fa->vs.lookup f=Fa)
 | [],[],_=>⟨λd e=>by simp at e,λ_=>rfl⟩
 | [],_::_,h=>by have:=h.1;simp at this
 | _::_,[],h=>by have:=h.1;simp at this
 | (g,d)::fs,(g',v)::vs,h=>by
  have h1:g'=g/\vs.map (·.1)=fs.map (·.1):=by
   have:=h.1
   simpa using this
  obtain⟨x,r,e,a,b⟩:=h.2.inv;have e':v::vs.map (·.2)=x::r:=e;cases e';obtain⟨i1,i2⟩:=wK (f:=f) (fs:=fs) (vs:=vs) ⟨h1.2,b⟩;rw[h1.1];refine⟨λd' e=>?_,λe=>?_⟩
  .rw[eM]at e ⊢;cases q:f==g with
   | true=>rw[q]at e;cases e;exact⟨v,Z',a⟩
   | false=>rw[q]at e;exact i1 d' e
  .rw[eM]at e ⊢;cases q:f==g with
   | true=>rw[q]at e;cases e
   | false=>rw[q]at e;exact i2 e
theorem IY{f:Str}{d:D}:∀{fs:T0 (Str×D)},fs.lookup f=ga d->f∈fs.map (·.1)
 | [],h=>by simp at h
 | (g,e)::r,h=>by
  rw[eM]at h;cases q:f==g with
  | true=>
   have z:f=g:=by simpa using q
   rw[z,d6];exact dH
  | false=>rw[q]at h;simp[IY h]
def Aa(o:Option uI)(F:lf->T0 (Str×D)->Prop):Prop:=match o with
 | some (.ins C fs)=>F C fs
 | _=>False
def oZ{o:Option uI}{F:lf->T0 (Str×D)->Prop}{C:lf}{fs:T0 (Str×D)}(e:o=ga (.ins C fs))(h:F C fs):Aa o F:=by rw[e];exact h
def xK{o:Option uI}(h:Aa o F):∃C fs,o=ga (.ins C fs)/\F C fs:=by
 unfold Aa at h;split at h
 .exact⟨_,_,Z',h⟩
 .exact h.elim
def T1(f:Str)(ta:T3):T3:=λU M Q=>ta U M λx M1=>match x with
 | .ref a=>Aa (M1 a) λ_ fs=>(fs.lookup f).elim False λd=>Q d M1
 | _=>False
def pj{f:Str}(he:E3 X o ta)(hb:wE o f X.env (No o X.env)=No o X.env:=by rfl):E3 X (.Attribute o f pos) (T1 f ta):=PE.mono (R8 he hb) λY H Q' zz=>x7 zz λU M Q hs hm ht k=>
 ⟨U,M,_,hs,hm,ht,λv H1 d M1 hd Xp e1 q1=>by
  cases d with
  | ref a=>cases hd.mw;obtain⟨C,fs,e,q1⟩:=xK q1;obtain⟨d,e2,q⟩:=qx q1;obtain⟨dx,vs,h1,cl,na,fo⟩:=Xp a _ e;obtain⟨v,e3,hv⟩:=(wK fo).1 d e2;exact⟨a,C,dx,vs,v,Z',h1,cl,na f (IY e2),e3,k v H1 d M1 hv Xp e1 q⟩
  | _=>exact q1.elim⟩
noncomputable def vP(f:Str)(v:D):T0 (Str×D)->T0 (Str×D)
 | []=>[(f,v)]
 | (g,u)::r=>if g=f then(g,v)::r else(g,u)::vP f v r
theorem E9{K:qk}{f:Str}(hv:rH K H d v):∀{fs:T0 (Str×D)} {vs:T0 (Str×V)},BH K H fs vs->BH K H (vP f d fs) (vq f v vs)
 | [],[],_=>⟨Z',.cons hv .nil⟩
 | [],_::_,h=>by have:=h.1;simp at this
 | _::_,[],h=>by have:=h.1;simp at this
 | (g,e)::fs,(g',u)::vs,h=>by
  have h1:g'=g/\vs.map (·.1)=fs.map (·.1):=by
   have:=h.1
   simpa using this
  obtain⟨x,r,e1,a,b⟩:=h.2.inv;have e':u::vs.map (·.2)=x::r:=e1;cases e';obtain⟨hg,ht⟩:=h1;subst hg;rw[show vP f d ((g',e)::fs)=(if g'=f then(g',d)::fs else(g',e)::vP f d fs)from Z',show vq f v ((g',u)::vs)=(if g'=f then(g',v)::vs else(g',u)::vq f v vs)from Z'];by_cases q:g'=f
  .rw[df q,df q];exact⟨by simpa using ht,.cons hv b⟩
  .rw[de q,de q];obtain⟨i1,i2⟩:=E9 hv (fs:=fs) (vs:=vs) ⟨ht,b⟩;exact⟨by simpa using i1,.cons a i2⟩
theorem Cz{f:Str}:∀{fs:T0 (Str×D)} {g:Str},g∈(vP f d fs).map (·.1)->g=f\/g∈fs.map (·.1)
 | [],g,h=>.inl (by simpa [vP]using h)
 | (k,e)::r,g,h=>by
  rw[show vP f d ((k,e)::r)=(if k=f then(k,d)::r else(k,e)::vP f d r)from Z']at h;by_cases q:k=f
  .rw[df q]at h;exact .inr (by simpa using h)
  .rw[de q]at h;rw[d6,dz]at h;rcases h with h|h
   .exact .inr (by simp[h])
   .rcases Cz h with z|z
    .exact .inl z
    .exact .inr (by simp;right;simpa using z)
def UR(K:qk)(f:Str)(ta tv:T3):xj:=λD U M=>tv U M λy M1=>ta U M1 λx M2=>match x with
 | .ref a=>Aa (M2 a) λC fs=>tU K C f/\fs.length<1000/\D.nx U (pq M2 a (.ins C (vP f y fs)))
 | _=>False
def pX{f:Str}(ha:E3 X o ta)(hv:E3 X value tv)(YU:Ix value (ga (.Attribute o f Xw)) pos.line X.env=pure pc:=by rfl):S3 X (.Assign [.Attribute o f Xw] value pos) (UR X.K f ta tv):=
 PS.mono (Ta ha hv YU) λD' Y H zz=>JG zz λU M D hs hm ht k1 k2 k3 k4=>
 ⟨U,M,_,hs,hm,ht,λy H1 dy M1 hy Xp e1 q1=>⟨U,M1,_,hs.mono e1,Xp,q1,λv H2 d M2 hd XA e2 q2=>by
  cases d with
  | ref a=>
   cases hd.mw;obtain⟨C,fs,e,q2⟩:=xK q2;obtain⟨na,hl,q⟩:=q2;obtain⟨dx,vs,h1,cl,nn,fo⟩:=XA a _ e;have Xt:vs.length=fs.length:=by have:=eI List.length fo.1;simpa using this
   refine⟨a,C,dx,vs,Z',h1,cl,na,by lia,?_⟩;obtain⟨XW,e3⟩:=XA.put (p:=a) (o:=.ins C dx (vq f y vs)) (c:=.ins C (vP f dy fs)) e λx=>⟨dx,_,pT,cl,λg hg=>by
    rcases Cz hg with z|z
    .rw[z];exact na
    .exact nn g z,E9 ((hy.mono e2).mono x) (fo.mono x)⟩
   exact k1 Y _ U _ (hs.mono (e1.trans (e2.trans e3))) XW (e1.trans (e2.trans e3)) Z' q
  | _=>exact q2.elim⟩⟩
def QO(C:lf)(sp:rb)(t:xf):T3:=λU M Q=>t U M λds M1=>∀x,M1 x=Fa->sp (.ref x::ds) (pq M1 x (.ins C [])) λd M2=>d=.mC/\Q (.ref x) M2
def LN{K:qk}{xa dx:lf}(hm:HM K H M)(cl:Cls K C)(h1:H xa=Fa)(h2:H dx=Fa)(ne:dx≠xa):HM K (upd (upd H dx (.own xa)) xa (.ins C dx [])) (pq M xa (.ins C []))/\qJ K H (upd (upd H dx (.own xa)) xa (.ins C dx [])):=by
 have Ya:upd H dx (.own xa) xa=Fa:=by rw[pS (dX ne)];exact h1
 exact⟨(hm.add (p:=dx) (o:=.own xa) h2).new Ya ⟨dx,[],pT,cl,λg hg=>by simp at hg,Z',.nil⟩,qJ.trans (.new h2) (.new Ya)⟩
def OI(cl:Cls X.K C)(Mk':Mk X.K C f)(F:Tu X.prog X.w X.K X.mg X.base k f fd ps sp)(hr:rS (k+1) X.A)(hg:Gl X x)(hm:X.mg x=ga (.ref C))(hb:uK X.K fd ps [])(ha:A3 X (e::es) t) (XF:zb x:=by decide) (he:A9 X e es:=by rfl) (XC:CP X pos es:=by rfl):
  E3 X (.Call (.Name x p) (e::es) [] pos) (QO C sp t):=PE.mono (Qw Mk' F hr hg hm hb .nil (G1 (X:=X)) ha XF he XC) λY H Q' zz=>x7 zz λU M Q hs hm ht k=>
 ⟨U,M,_,hs,hm,ht,λvs H1 ds M1 hd Xp e1 q1=>λxa dx n1 n2 ne=>by
  obtain⟨XA,e2⟩:=LN Xp cl n1 n2 ne;refine⟨.ref xa::ds,_,_,?_,XA,q1 xa (Xp.fresh n1),λv H3 d M3 hd3 XW e3 q3=>?_⟩
  .rw[eN];exact .cons .ref (hd.mono e2)
  .obtain⟨z,q3⟩:=q3;subst z;exact⟨hd3.mz,k _ H3 _ M3 .ref XW (e1.trans (e2.trans e3)) q3⟩⟩
def Hv(m:Str)(R:lf->Sp->Prop)(ta:TE)(t:TA):TE:=λY H Q=>ta Y H λx H1=>∃a C dx fs sp,x=.ref a/\H1 a=ga (.ins C dx fs)/\fs.lookup m=Fa/\R C sp/\t Y H1 λvs H2=>sp (x::vs) H2 Q E0
def xI(P:Pg)(w:Wo)(K:qk)(mg:QQZ)(base:Go)(k:Nat)(m:Str)(C:lf)(sp:Sp):Prop:=Cls K C/\∃f fd ps,vp K C m f/\xl P w K mg base NU k f fd ps sp/\uK K fd ps []
def Lu{R:lf->Sp->Prop}{ta:TE}{t:TA}{pl:Sem Bool}(he:PE X o ta)(hR:∀C sp,R C sp->xI X.prog X.w X.K X.mg X.base k m C sp)(hr:rS k X.A)(ha:PA X (e::es) t) (XJ:A9 X e es:=by rfl) (XC:CP X pos es:=by rfl)
  (ht:No (.Call (.Attribute o m Xq) (e::es) [] pos) X.env=(do
   let ov<-No o X.env
   X' Xq.atName
   let(f,first)<-At [ov] (XV ov m pl)
   XXd pos f first (wv pos (Tk (e::es) X.env)) (xL pos (Op [] X.env))):=by rfl):
  PE X (.Call (.Attribute o m Xq) (e::es) [] pos) (Hv m R ta t):=by
 intro Xn s Y H Q I h;refine jP (pl:=pl) (rR (he Xn s Y H _ I h) λu s1 zz=>?_) ht;obtain⟨x,H1,I1,rx,a,C,dx,fs,sp,ex,ea,l,hRC,q⟩:=zz;obtain⟨c,f,fd,ps,hm,F,hb⟩:=hR C sp hRC;subst ex;obtain rfl:u=Value.ref a:=rx;refine Ca I1 ea c hm l ?_;refine iO (first:=[.ref a]) (h₀:=X.base) I.ok.mod.nW hm.kp (rR (ha pos Xn s1 Y H1 _ I1 q) λus s2 zz=>x5 zz λvs H2 I2 r q2=>⟨I2.mR,?_⟩) XJ XC;exact FE (us:=.ref a::us) (vs:=.ref a::vs) F hr hb .nil (G1 (X:=X)) I2 (.cons Z' r) (by rw[eN];exact q2)
def JS{R:lf->Sp->Prop}{ta:TE}{pl:Sem Bool}(he:PE X o ta)(hR:∀C sp,R C sp->xI X.prog X.w X.K X.mg X.base k m C sp)(hr:rS k X.A) (ht:No (.Call (.Attribute o m Xq) [] [] pos) X.env=(do
   let ov<-No o X.env
   X' Xq.atName
   let(f,first)<-At [ov] (XV ov m pl)
   XXd pos f first (wv pos (Tk [] X.env)) (xL pos (Op [] X.env))):=by rfl):
  PE X (.Call (.Attribute o m Xq) [] [] pos) (Hv m R ta T4):=by
 intro Xn s Y H Q I h;refine jP (pl:=pl) (rR (he Xn s Y H _ I h) λu s1 zz=>?_) ht;obtain⟨x,H1,I1,rx,a,C,dx,fs,sp,ex,ea,l,hRC,q⟩:=zz;obtain⟨c,f,fd,ps,hm,F,hb⟩:=hR C sp hRC;subst ex;obtain rfl:u=Value.ref a:=rx;refine Ca I1 ea c hm l ?_;exact W.callWith_K0 (first:=[.ref a]) I1.mR hm.kp (FE (us:=[.ref a]) (vs:=[.ref a]) F hr hb .nil (G1 (X:=X)) I1 (.cons Z' .nil) (by rw[eN];exact q))
def Ay(m:Str)(R:lf->rb->Prop)(ta:T3)(t:xf):T3:=λU M Q=>ta U M λx M1=>match x with
 | .ref a=>Aa (M1 a) λC fs=>fs.lookup m=Fa/\∃sp,R C sp/\t U M1 λds M2=>sp (x::ds) M2 Q
 | _=>False
def VH(K:qk)(R:lf->rb->Prop):lf->Sp->Prop:=λC sp'=>∃sp,R C sp/\sp'=NV K sp
def IH:∀Y H Q',lo X.K (Ay m R ta t) Y H Q'->Hv m (VH X.K R) (lo X.K ta) (WO X.K t) Y H Q':=λY H Q' zz=>x7 zz λU M Q hs hm ht k=>
 ⟨U,M,_,hs,hm,ht,λv H1 d M1 hd Xp e1 q1=>by
  cases d with
  | ref a=>cases hd.mw;obtain⟨C,fs,e,q1⟩:=xK q1;obtain⟨hn,sp,hR,q⟩:=q1;obtain⟨dx,vs,h1,cl,na,fo⟩:=Xp a _ e;exact⟨a,C,dx,vs,_,Z',h1,(wK fo).2 hn,⟨sp,hR,Z'⟩,U,M1,_,hs.mono e1,Xp,q,λus H2 ds M2 YG XA e2 q2=>⟨.ref a::ds,M2,Q,.cons .ref YG,XA,q2,vJ (e1.trans e2) k⟩⟩
  | _=>exact q1.elim⟩
def E7{R:lf->rb->Prop}{pl:Sem Bool}(he:E3 X o ta)(hR:∀C sp,R C sp->xI X.prog X.w X.K X.mg X.base k m C (NV X.K sp))(hr:rS k X.A)(ha:A3 X (e::es) t) (XJ:A9 X e es:=by rfl) (XC:CP X pos es:=by rfl)
  (ht:No (.Call (.Attribute o m Xq) (e::es) [] pos) X.env=(do
   let ov<-No o X.env
   X' Xq.atName
   let(f,first)<-At [ov] (XV ov m pl)
   XXd pos f first (wv pos (Tk (e::es) X.env)) (xL pos (Op [] X.env))):=by rfl):
  E3 X (.Call (.Attribute o m Xq) (e::es) [] pos) (Ay m R ta t):=PE.mono (Lu (R:=VH X.K R) he (λC sp' ⟨sp,h,z⟩=>by rw[z];exact hR C sp h) hr ha XJ XC ht) IH
def BJ{R:lf->rb->Prop}{pl:Sem Bool}(he:E3 X o ta)(hR:∀C sp,R C sp->xI X.prog X.w X.K X.mg X.base k m C (NV X.K sp))(hr:rS k X.A) (ht:No (.Call (.Attribute o m Xq) [] [] pos) X.env=(do
   let ov<-No o X.env
   X' Xq.atName
   let(f,first)<-At [ov] (XV ov m pl)
   XXd pos f first (wv pos (Tk [] X.env)) (xL pos (Op [] X.env))):=by rfl):
  E3 X (.Call (.Attribute o m Xq) [] [] pos) (Ay m R ta vt):=PE.mono (JS (R:=VH X.K R) he (λC sp' ⟨sp,h,z⟩=>by rw[z];exact hR C sp h) hr ht) λY H Q' h=>by
 obtain⟨U,M,Q,hs,hm,ht,k⟩:=IH (t:=vt) Y H Q' h;refine⟨U,M,Q,hs,hm,ht,λv H' d M' x1 x2 x3 x4=>?_⟩;obtain⟨a,C,dx,fs,sp,e1,e2,e3,e4,δ',Xr,Q'',y1,y2,y3,y4⟩:=k v H' d M' x1 x2 x3 x4;exact⟨a,C,dx,fs,sp,e1,e2,e3,e4,y4 [] H' [] Xr .nil y2 .refl y3⟩
structure ES(K:qk)(H1:Hp)(J:It)(ds:List D)(ok:Mp->Prop):Prop where
 go:∀i H M,i<ds.length->HM K H M->ok M->qJ K H1 H->J.go i H
 oN:∀i d H M x H',ds[i]?=ga d->HM K H M->ok M->qJ K H1 H->J.oN i H x H'->rH K H' d x/\HM K H' M/\qJ K H H'
 stop:∀H M,HM K H M->ok M->qJ K H1 H->J.stop ds.length H
abbrev Nh:=vj->Mp->(T0 D->(Mp->Prop)->Mp->Prop)->Prop
def WW(K:qk)(wi:Nh):TI:=λY H R'=>Dg λU M R=>zQ K H Y U/\HM K H M/\wi U M R/\∀J H1 ds ok M1,ES K H1 J ds ok->HM K H1 M1->qJ K H H1->ok M1->R ds ok M1->R' J H1
def I3(X:Cx)(tg iter:zn)(wi:Nh):Prop:=PI X tg iter (WW X.K wi)
def PI.mono{t t':TI}(h:PI X tg e t)(m:∀Y H Q,t' Y H Q->t Y H Q):PI X tg e t':=λXn s Y H Q I q=>h Xn s Y H Q I (m Y H Q q)
variable {H1:Hp}
def LR:ES K H1 (VD K a) ds (λM=>oa M a=ga ds) where
 go:=λi H M hi hm ok _=>by obtain⟨xs,h1,h2,_⟩:=pU hm ok;obtain⟨x,e,_⟩:=h2.get (cY hi);exact⟨xs,x,h1,e⟩
 oN:=λi d H M x H' hd hm ok _ y=>by obtain⟨xs,h1,h2,_⟩:=pU hm ok;obtain⟨e,y⟩:=y;subst e;obtain⟨x',e,hx⟩:=h2.get hd;have:=y xs h1;rw[e]at this;cases this;exact⟨hx,hm,.refl⟩
 stop:=λH M hm ok _=>by obtain⟨xs,h1,h2,_⟩:=pU hm ok;exact⟨xs,h1,by rw[h2.length];exact dq _⟩
def O7(h1:vo K H1 a xs)(h2:qd K H1 ds xs):ES K H1 (Wp K a) ds (λ_=>True) where
 go:=λi H M hi hm ok e1=>by obtain⟨x,e,_⟩:=h2.get (cY hi);exact⟨xs,x,e1.t _ _ h1,e⟩
 oN:=λi d H M x H' hd hm ok e1 y=>by obtain⟨e,y⟩:=y;subst e;obtain⟨x',e,hx⟩:=h2.get hd;have:=y xs (e1.t _ _ h1);rw[e]at this;cases this;exact⟨hx.mono e1,hm,.refl⟩
 stop:=λH M hm ok e1=>⟨xs,e1.t _ _ h1,by rw[h2.length];exact dq _⟩
def Re(h1:Py K H1 a xs)(h2:qd K H1 ds xs):ES K H1 (VD K a) ds (λ_=>True) where
 go:=λi H M hi hm ok e1=>by obtain⟨x,e,_⟩:=h2.get (cY hi);exact⟨xs,x,(h1.mono e1).sq,e⟩
 oN:=λi d H M x H' hd hm ok e1 y=>by obtain⟨e,y⟩:=y;subst e;obtain⟨x',e,hx⟩:=h2.get hd;have:=y xs (h1.mono e1).sq;rw[e]at this;cases this;exact⟨hx.mono e1,hm,.refl⟩
 stop:=λH M hm ok e1=>⟨xs,(h1.mono e1).sq,by rw[h2.length];exact dq _⟩
def Dz{lo:Int}:ES K H1 (UC lo n) ((List.range n).map λi=>D.int (lo+(i:Nat))) (λ_=>True) where
 go:=λi H M hi hm ok e1=>by
  have z:i<n:=by simpa using hi
  exact z
 oN:=λi d H M x H' hd hm ok e1 y=>by
  obtain⟨e,y⟩:=y;subst e;subst y;have hi:i<n:=by
   have:=(cZ.mp hd).1
   simpa using this
  have hd':d=D.int (lo+(i:Nat)):=by rw[dA,iW hi]at hd;exact(dv hd).symm
  subst hd';exact⟨.int,hm,.refl⟩
 stop:=λH M hm ok e1=>by show n<=_;simp
variable {scope:XXa}{ix:T0 (Option Nat)}{N':QQQ}{iter Yk:zn}{X1:T0 zn}{wi:Nh}{g:DE}{tt:Ap}{te:T3}{tg:zn}
def U4(t:T3):Nh:=λU M R=>t U M λx M1=>match x with
 | .tup ds=>R ds (λ_=>True) M1
 | .ref a=>(oa M1 a).elim False λds=>R ds (λM=>oa M a=ga ds) M1
 | .rl ds=>R ds (λ_=>True) M1
 | .str z=>R (z.cps.toList.map λc=>D.str ⟨#[c]⟩) (λ_=>True) M1
 | _=>False
def Pl{K:qk}:ES K H1 (Wj z) (z.cps.toList.map λc=>D.str ⟨#[c]⟩) (λ_=>True) where
 go:=λi H M hi hm ok _=>by
  show i<z.cps.size
  simpa using hi
 oN:=λi d H M x H' hd hm ok _ y=>by obtain⟨e,c,e1,e2⟩:=y;subst e e2;rw[dA,Array.getElem?_toList,e1]at hd;cases hd;exact⟨.str,hm,.refl⟩
 stop:=λH M hm ok _=>by show _=z.cps.size;simp
def qF{t:T3}(h:E3 X l t)(hc:X.calm=Db:=by rfl):I3 X tg l (U4 t):=PI.mono (Ow hc h) λY H R' zz=>x7 zz λU M R hs hm ht k=>
 ⟨U,M,_,hs,hm,ht,λv H1 d M1 hd Xp e1 q1=>by
  cases d with
  | tup ds=>obtain⟨a,xs,rfl,h1,h2⟩:=hd.mF;exact .inl ⟨a,Z',.inr ⟨⟨xs,h1⟩,k _ H1 ds _ M1 (O7 h1 h2) Xp e1 trivial q1⟩⟩
  | ref a=>cases hd.mw;obtain⟨ds,e0,q⟩:=qx q1;obtain⟨xs,h1,h2,_⟩:=pU Xp e0;exact .inl ⟨a,Z',.inl ⟨⟨xs,h1⟩,k _ H1 ds _ M1 LR Xp e1 e0 q⟩⟩
  | str z=>exact .inr ⟨z,hd.str_inv,k _ H1 _ _ M1 Pl Xp e1 trivial q1⟩
  | rl ds=>obtain⟨a,xs,rfl,h1,h2⟩:=hd.mP;exact .inl ⟨a,Z',.inl ⟨⟨xs,h1.sq⟩,k _ H1 ds _ M1 (Re h1 h2) Xp e1 trivial q1⟩⟩
  | _=>exact q1.elim⟩
def Q9(t:xf):Nh:=λU M R=>t U M λds M1=>match ds with
 | [.int j]=>(-(2 ^ 62)<=j/\j<2 ^ 62)/\R ((List.range j.toNat).map λi=>D.int (0+(i:Nat))) (λ_=>True) M1
 | [.int i,.int j]=>(-(2 ^ 62)<=i/\i<2 ^ 62/\-(2 ^ 62)<=j/\j<2 ^ 62)/\R ((List.range (j - i).toNat).map λn=>D.int (i+(n:Nat))) (λ_=>True) M1
 | _=>False
def wb{a:zn}{ta:xf}(hg:Gl X "range")(hm:X.mg "range"=Fa)(ha:A3 X [a] ta)(hs:Tk [a] X.env=[(pc,No a X.env)]:=by rfl):I3 X tg (.Call (.Name "range" p) [a] [] pos) (Q9 λU M Q=>ta U M λds M1=>ds.length=1/\Q ds M1):=
 PI.mono (JP hg hm ha hs) λY H R' zz=>x7 zz λU M R hs hm ht k=>⟨U,M,_,hs,hm,ht,λvs H1 ds M1 hd Xp e1 q1=>by
  obtain⟨hl,q1⟩:=q1;split at q1
  .obtain⟨v,rfl,hv⟩:=rL hd;cases hv.int_inv;exact⟨_,Z',q1.1.1,q1.1.2,k _ H1 _ _ M1 Dz Xp e1 trivial q1.2⟩
  .simp at hl
  .exact q1.elim⟩
def JZ{a b:zn}{ta:xf}(hg:Gl X "range")(hm:X.mg "range"=Fa)(ha:A3 X [a,b] ta)(hs:Tk [a,b] X.env=[(pc,No a X.env),(pc,No b X.env)]:=by rfl)(X7:Tk [b] X.env=[(pc,No b X.env)]:=by rfl):
  I3 X tg (.Call (.Name "range" p) [a,b] [] pos) (Q9 λU M Q=>ta U M λds M1=>ds.length=2/\Q ds M1):=
 PI.mono (Kr hg hm ha hs X7) λY H R' zz=>x7 zz λU M R hs hm ht k=>⟨U,M,_,hs,hm,ht,λvs H1 ds M1 hd Xp e1 q1=>by
  obtain⟨hl,q1⟩:=q1;split at q1
  .simp at hl
  .obtain⟨v,u,rfl,hv,hw⟩:=ze hd;cases hv.int_inv;cases hw.int_inv;exact⟨_,_,Z',q1.1,k _ H1 _ _ M1 Dz Xp e1 trivial q1.2⟩
  .exact q1.elim⟩
def Fo(g:DE)(tb:xj)(ok:Mp->Prop)(E:GT):T0 D->vj->Mp->Prop
 | [],U,M=>E.nx U M
 | d::r,U,M=>g d U M λδ2 M2=>tb {E with nx:=λδ' M'=>ok M'/\Fo g tb ok E r δ' M',ct:=λδ' M'=>ok M'/\Fo g tb ok E r δ' M',bk:=E.nx} δ2 M2
def UE(wi:Nh)(g:DE)(tb:xj):xj:=λE U M=>wi U M λds ok M1=>Fo g tb ok E ds U M1
def tT{tb:xj}(hp:PassesOwn (pi X.prog X.w) X.A X.env X.xe)(hc:X.calm=Db)(hi:I3 X tg iter wi)(hg:G3 X tg g)(hb:G8 X body tb) (hs:∀x,AT iter X.env x=pure x:=by intro _;rfl):S3 X (.For tg iter body [] pos) (UE wi g tb):=PS.mono (RI hp hc hi hg hb hs) λD' Y H zz=>JG zz λU M E hs hm ht k1 k2 k3 k4=>
 ⟨U,M,_,hs,hm,ht,λJ H1 ds ok M1 S Xp e1 ok1 q1=>by
  refine⟨λi m σ' H'=>m=ds.length - i/\i<=ds.length/\∃δ' M',zQ X.K H' σ' δ'/\HM X.K H' M'/\ok M'/\qJ X.K H1 H'/\σ'.length=Y.length/\Fo g tb ok E (ds.drop i) δ' M',⟨ds.length,by simp,eU _,U,M1,hs.mono e1,Xp,ok1,.refl,Z',by simpa using q1⟩,?_⟩
  rintro i m σ' H' ⟨rfl,hi,δ',M',ZW,YW,ok',e',l',q'⟩
  by_cases XD:i<ds.length
  .rw[gP XD]at q';refine .inr ⟨S.go i H' M' XD YW ok' e',λσ2 H2=>∃δ2 M2,zQ X.K H2 σ2 δ2/\HM X.K H2 M2/\ok M2/\qJ X.K H1 H2/\σ2.length=Y.length/\Fo g tb ok E (ds.drop (i+1)) δ2 M2,λσ2 H2 z=>⟨ds.length - (i+1),by lia,Z',XD,z⟩,λx H2 y=>?_⟩;obtain⟨hx,XA,e2⟩:=S.oN i ds[i] H' M' x H2 (cY XD) YW ok' e' y;refine⟨ds[i],δ',M',_,hx,ZW.mono e2,XA,q',λσ3 H3 δ3 M3 x1 x2 x3 x4 x5=>?_⟩;refine⟨δ3,M3,_,x1,x2,x5,λσ4 H4 δ4 M4 y1 y2 y3 y4 y5=>?_,λv H4 d M4 y1 y2 y3 y4=>?_,λσ4 H4 δ4 M4 y1 y2 y3 y4 y5=>?_,λσ4 H4 δ4 M4 y1 y2 y3 y4 y5=>?_⟩
   .exact⟨δ4,M4,y1,y2,y5.1,e'.trans (e2.trans (x3.trans y3)),by rw[y4,x4,l'],y5.2⟩
   .exact k2 v H4 d M4 y1 y2 (e1.trans (e'.trans (e2.trans (x3.trans y3)))) y4
   .exact k1 σ4 H4 δ4 M4 y1 y2 (e1.trans (e'.trans (e2.trans (x3.trans y3)))) (by rw[y4,x4,l']) y5
   .exact⟨δ4,M4,y1,y2,y5.1,e'.trans (e2.trans (x3.trans y3)),by rw[y4,x4,l'],y5.2⟩
  .have e:i=ds.length:=by lia
   subst e;rw[jB]at q';exact .inl ⟨S.stop H' M' YW ok' e',k1 σ' H' δ' M' ZW YW (e1.trans e') l' q'⟩⟩
noncomputable def OD(ix:T0 (Option Nat))(U:vj):vj:=ix.map λo=>o.bind λi=>(U[i]?).join
def Oj{K:qk}(h:zQ K H Y U):zQ K H (N8 ix Y) (OD ix U):=λi d q=>by
 unfold OD at q;unfold N8;rw[dA]at q ⊢;cases e:ix[i]? with
 | none=>rw[e]at q;cases q
 | some o=>
  rw[e]at q;cases o with
  | none=>cases q
  | some j=>
   have q':(U[j]?).join=ga d:=dv q;have e4:U[j]?=ga (ga d):=by
    cases r:U[j]? with
    | none=>rw[r]at q';cases q'
    | some w=>rw[r]at q';exact eI ga q'
   obtain⟨v,e5,hv⟩:=h j d e4;refine⟨v,?_,hv⟩;show ga ((Y[j]?).join)=ga (ga v);rw[e5];rfl
def uV(g:DE)(tt:Ap)(te:T3)(ok:Mp->Prop)(Q:DK):T0 D->T0 D->vj->Mp->Prop
 | [],acc,_,M=>acc.length<=Uf/\∀p,M p=Fa->Q (.ref p) (pq M p (.lst acc))
 | d::r,acc,U,M=>acc.length<Uf/\g d U M λδ2 M2=>tt δ2 M2 λb M3=>if b=Db then te δ2 M3 λy M4=>ok M4/\uV g tt te ok Q r (acc++[y]) δ2 M4 else ok M3/\uV g tt te ok Q r acc δ2 M3
def Nx(ix:T0 (Option Nat))(wi:Nh)(g:DE)(tt:Ap)(te:T3):T3:=λU M Q=>wi U M λds ok M1=>uV g tt te ok Q ds [] (OD ix U) M1
def F3(X:Cx)(X1:T0 zn)(t:Ap):Prop:=PF X X1 (TF X.K t)
def PF.mono{e:T0 zn}{t t':TT}(h:PF X e t)(m:∀Y H Q,t' Y H Q->t Y H Q):PF X e t':=λXn s Y H Q I q=>h Xn s Y H Q I (m Y H Q q)
def Cj:Ap:=λ_ M Q=>Q Db M
def rM:F3 X [] Cj:=PF.mono Sh λY H Q' zz=>x7 zz λU M Q hs hm ht k=>k Db H M hm .refl ht
def vU{t:Ap}(h:B3 X c t):F3 X [c] t:=RQ h
def IV:∀Y H Q',lo X.K (Nx ix wi g tt te) Y H Q'->NE ix (WW X.K wi) (Vy X.K g) (TF X.K tt) (lo X.K te) Y H Q':=λY H Q' zz=>x7 zz λU M Q hs hm ht k=>
 ⟨U,M,_,hs,hm,ht,λJ H1 ds ok M1 S Xp e1 ok1 q1=>by
  refine⟨λi m ys σ' H'=>m=ds.length - i/\i<=ds.length/\∃δ' M' acc,zQ X.K H' σ' δ'/\HM X.K H' M'/\qd X.K H' acc ys/\ok M'/\qJ X.K H1 H'/\uV g tt te ok Q (ds.drop i) acc δ' M',⟨ds.length,by simp,eU _,OD ix U,M1,[],Oj (hs.mono e1),Xp,.nil,ok1,.refl,by simpa using q1⟩,?_⟩
  rintro i m ys σ' H' ⟨rfl,hi,δ',M',acc,ZW,YW,Y3,ok',e',q'⟩
  by_cases XD:i<ds.length
  .rw[gP XD]at q';obtain⟨hz,q'⟩:=q';refine .inr ⟨S.go i H' M' XD YW ok' e',by rw[<-Y3.length];exact hz,λx H2 y=>?_⟩;obtain⟨hx,XA,e2⟩:=S.oN i ds[i] H' M' x H2 (cY XD) YW ok' e' y;refine⟨ds[i],δ',M',_,hx,ZW.mono e2,XA,q',λσ3 H3 δ3 M3 x1 x2 x3 x4 x5=>?_⟩;refine⟨δ3,M3,_,x1,x2,x5,λb H4 M4 y2 y3 y5=>?_⟩;cases b with
   | true=>rw[df Z']at y5 ⊢;refine⟨δ3,M4,_,x1.mono y3,y2,y5,λv H5 d M5 z1 z2 z3 z4=>⟨ds.length - (i+1),by lia,Z',XD,δ3,M5,acc++[d],x1.mono (y3.trans z3),z2,(Y3.mono (e2.trans (x3.trans (y3.trans z3)))).snoc z1,z4.1,e'.trans (e2.trans (x3.trans (y3.trans z3))),z4.2⟩⟩
   | false=>rw[de dC]at y5 ⊢;exact⟨ds.length - (i+1),by lia,Z',XD,δ3,M4,acc,x1.mono y3,y2,Y3.mono (e2.trans (x3.trans y3)),y5.1,e'.trans (e2.trans (x3.trans y3)),y5.2⟩
  .have e:i=ds.length:=by lia
   subst e;rw[jB]at q';refine .inl ⟨S.stop H' M' YW ok' e',by rw[<-Y3.length];exact q'.1,λp hp=>?_⟩;have e5:qJ X.K H' (upd H' p (.lst ys)):=.new hp;exact k _ _ _ _ .ref (YW.new (c:=.lst acc) hp ⟨_,pT,Y3.mono e5⟩) (e1.trans (e'.trans e5)) (q'.2 p (YW.fresh hp))⟩
def qE(hc:X.calm=Db)(S:rV X scope ix N')(hi:I3 X tg iter wi)(hg:∀{C s0 H0 ex},G3 (X.comp scope N' C s0 H0 ex) tg g)(ht:∀{C s0 H0 ex},F3 (X.comp scope N' C s0 H0 ex) X1 tt)(he:∀{C s0 H0 ex},E3 (X.comp scope N' C s0 H0 ex) Yk te) (hs:∀x,AT iter X.env x=pure x:=by intro _;rfl):E3 X (.ListComp Yk [⟨tg,iter,X1,0⟩] scope pos) (Nx ix wi g tt te):=PE.mono (Qm (g:=Vy X.K g) (tt:=TF X.K tt) (te:=lo X.K te) hc S hi (λ_ _ _ _=>hg) (λ_ _ _ _=>ht) (λ_ _ _ _=>he) hs) IV
def uu{i:Nat}{x:Str}{px Za:Pos}(hN:X.N.Nodup)(hix:X.N[i]?=ga x)(hx:KM X.env.scope x)(hc:X.calm=Db)(S:rV X scope ix N')(hi:I3 X tg iter wi)(hg:∀{C s0 H0 ex},G3 (X.comp scope N' C s0 H0 ex) tg g)(ht:∀{C s0 H0 ex},F3 (X.comp scope N' C s0 H0 ex) X1 tt) (he:∀{C s0 H0 ex},E3 (X.comp scope N' C s0 H0 ex) Yk te) (YU:Ix (.ListComp Yk [⟨tg,iter,X1,0⟩] scope pos) (ga (.Name x px)) Za.line X.env=pure Db:=by rfl)
  (hf:KL X x:=by first|exact .inl Z'|exact .inr Z'|assumption) (hs:∀x,AT iter X.env x=pure x:=by intro _;rfl):
  S3 X (.Assign [.Name x px] (.ListComp Yk [⟨tg,iter,X1,0⟩] scope pos) Za) (Dl (Nx ix wi g tt te) (rG i)):=PS.nH (HP (g:=Vy X.K g) (tt:=TF X.K tt) (te:=lo X.K te) hN hix hx hc S hi (λ_ _ _ _=>hg) (λ_ _ _ _=>ht) (λ_ _ _ _=>he) YU hf hs) λD' Y H hl zz=>JG zz λU M D hs hm ht k1 k2 k3 k4=>
 IV Y H _ ⟨U,M,_,hs,hm,ht,λv H1 d M1 hd Xp e1 q1=>k1 _ H1 _ M1 ((hs.mono e1).set hd (by rw[hl];exact(cZ.mp hix).1)) Xp e1 (by simp) q1⟩
def WV(hr:rS k A):A.units+9<wP:=by have:=hr.units;lia
noncomputable def Ib(sc:XXa)(N:QQQ)(scope:XXa)(ix:T0 (Option Nat))(N':QQQ):Bool:=
 (scope.kind==.function)&&(scope.names.all λy=>!(y.2==.cell))&&(scope.names.all λy=>!(y.2==.local)||(scope.names.lookup y.1==ga .local))&&
 (scope.names.all λy=>!(y.2==.free)||(sc.names.lookup y.1==ga .cell)||(sc.names.lookup y.1==ga .free))&&(ix.length==N'.length)&&
 ((ix.zip N').all λp=>match p.1 with|none=>Db|some i=>(N[i]?==ga p.2)&&(scope.names.lookup p.2==ga .free))
def TY{X:Cx}(h:Ib X.env.scope X.N scope ix N'=Db):rV X scope ix N':=by
 unfold Ib at h;simp only[dY]at h;obtain⟨⟨⟨⟨⟨h1,h2⟩,h3⟩,h4⟩,h5⟩,h6⟩:=h;refine⟨by simpa using h1,λy hy e=>?_,λy hy e=>?_,λy hy e=>?_,by simpa using h5,λj i x e1 e2=>?_⟩
 .have:=eX.mp h2 y hy;rw[e]at this;simp at this
 .have:=eX.mp h3 y hy;rw[e]at this
  simpa using this
 .have:=eX.mp h4 y hy;rw[e]at this
  simpa using this
 .have hm:(ga i,x)∈ix.zip N':=by
   have:(ix.zip N')[j]?=ga (ga i,x):=by rw[List.getElem?_zip_eq_some];exact⟨e1,e2⟩
   exact fk this
  have:=eX.mp h6 _ hm
  simpa using this
section
variable {a b:zn}
def IM(op Yi:CmpOp)(ta tb tc:T3):T3:=λU M Q=>ta U M λx M1=>tb U M1 λy M2=>PL op x y M2 λz M3=>match z with
 | .bl k=>if k=Db then tc U M3 λw M4=>PL Yi y w M4 Q else Q (.bl pc) M3
 | _=>False
def tY{op Yi:CmpOp}(hu:X.A.units+9<wP)(ha:E3 X a ta)(hb:E3 X b tb)(hc:E3 X c tc)(hmk:lastMarks [op,Yi] [b,c]=pc:=by rfl):
  E3 X (.Compare a [op,Yi] [b,c] pos) (IM op Yi ta tb tc):=PE.mono (Ll (Kt op hu) (Kt Yi hu) ha hb hc hmk) λY H Q' zz=>x7 zz λU M Q hs hm ht k=>
 ⟨U,M,_,hs,hm,ht,λv H1 x M1 hx Xp e1 q1=>⟨U,M1,_,hs.mono e1,Xp,q1,λu H2 y M2 hy XA e2 q2=>⟨x,y,M2,_,hx.mono e2,hy,XA,q2,λw H3 z M3 hz XW e3 q3=>by
  cases z with
  | bl c=>
   refine⟨c,hz.my,?_⟩;cases c with
   | true=>refine(df Z').mpr ⟨U,M3,_,hs.mono (e1.trans (e2.trans e3)),XW,(df Z').mp q3,λw' H4 d M4 hd Zn e4 q4=>⟨y,d,M4,Q,hy.mono (e3.trans e4),hd,Zn,q4,vJ (e1.trans (e2.trans (e3.trans e4))) k⟩⟩
   | false=>exact(de dC).mpr (k _ H3 _ M3 .bl XW (e1.trans (e2.trans e3)) ((de dC).mp q3))
  | _=>exact q3.elim⟩⟩⟩
def FU{op Yi:CmpOp}(hu:X.A.units+9<wP)(ha:E3 X a ta)(hb:E3 X b tb)(hc:E3 X c tc)(hmk:lastMarks [op,Yi] [b,c]=pc:=by rfl):
  B3 X (.Compare a [op,Yi] [b,c] pos) (b3 (IM op Yi ta tb tc)):=PT.mono (LQ (Kt op hu) (Kt Yi hu) ha hb hc hmk) λY H Q' zz=>x7 zz λU M Q hs hm ht k=>
 ⟨U,M,_,hs,hm,ht,λv H1 x M1 hx Xp e1 q1=>⟨U,M1,_,hs.mono e1,Xp,q1,λu H2 y M2 hy XA e2 q2=>⟨x,y,M2,_,hx.mono e2,hy,XA,q2,λw H3 z M3 hz XW e3 q3=>by
  cases z with
  | bl c=>
   refine⟨c,hz.my,?_⟩;cases c with
   | true=>
    refine(df Z').mpr ⟨U,M3,_,hs.mono (e1.trans (e2.trans e3)),XW,(df Z').mp q3,λw' H4 d M4 hd Zn e4 q4=>⟨y,d,M4,_,hy.mono (e3.trans e4),hd,Zn,q4,λw5 H5 d5 M5 hd5 hm5 e5 q5=>?_⟩⟩;cases d5 with
    | bl c5=>exact⟨c5,hd5.my,k c5 H5 M5 hm5 (e1.trans (e2.trans (e3.trans (e4.trans e5)))) q5⟩
    | _=>exact q5.elim
   | false=>exact(de dC).mpr ⟨pc,Z',k pc H3 M3 XW (e1.trans (e2.trans e3)) ((de dC).mp q3)⟩
  | _=>exact q3.elim⟩⟩⟩
structure VT(K:qk)(C:lf):Prop where
 ha:W.findIn K (.ref C) "__class__"=ga (ga (.builtin "object.__class__"))
 hn:W.specialIn K (.builtin "object.__class__") "__get__"=ga (ga (.builtin "getset_descriptor.__get__"))
 htk:W.takesIn K (.builtin "object.__class__")=ga Db
 hm:W.mroIn K C (.type "object")=ga Db
noncomputable def Hg:Option uI->Option Vl
 | some (.lst _)=>ga (.type "list")
 | some (.ins C _)=>ga (.ref C)
 | some (.dk _)=>ga (.type "dict")
 | some (.exc _)=>Fa
 | none=>Fa
noncomputable def W1(M:Mp):D->Option Vl
 | .mC=>ga (.type "NoneType")
 | .bl _=>ga (.type "bool")
 | .int _=>ga (.type "int")
 | .str _=>ga (.type "str")
 | .tup _=>ga (.type "tuple")
 | .ref a=>Hg (M a)
 | .ty _=>Fa
 | .rl _=>ga (.type "list")
noncomputable def VO:D->Option Vl
 | .ref C=>ga (.ref C)
 | .ty n=>ga (.type n)
 | _=>Fa
def Q0(K:qk)(ds:T0 D)(M:Mp)(Q:DK):Prop:=match ds with
 | [x,c]=>(W1 M x).elim False λt=>(VO c).elim False λcv=>(∀C,t=.ref C->VT K C)/\(W.kitOne K t cv).elim False λb=>Q (.bl b) M
 | _=>False
def x9:C3 X (.builtin "isinstance") (Q0 X.K):=by
 intro Xn s Y H vs us Q' I rv h;obtain⟨ds,M,Q,hd,hm,q,k⟩:=h;unfold Q0 at q;split at q
 .rename_i x c;obtain⟨v,u,rfl,hv,hw⟩:=ze hd;obtain⟨t,et,q⟩:=qx q;obtain⟨cv,ec,hC,q⟩:=qx q;obtain⟨b,eb,qb⟩:=qx q;obtain⟨uv,uw,rfl,ZH,rv2⟩:=IW rv;have ecv:uw=cv:=by
   cases c with
   | ref C=>cases hw.mw;cases ec;exact rv2
   | ty n=>cases hw.nI;cases ec;exact rv2
   | _=>cases ec
  subst ecv;have Xs:∀tk,EP X Xn Y Q' (.bool b) {s with toks:=tk}:=λtk=>⟨.bl b,H,I.tok tk,Z',k _ _ _ _ .bl hm .refl qb⟩;cases x with
  | mC=>cases hv.mz;cases et;exact uA I ZH .mC eb Xs
  | bl y=>cases hv.my;cases et;exact uA I ZH (.bl y) eb Xs
  | int y=>cases hv.int_inv;cases et;exact uA I ZH (.int y) eb Xs
  | str y=>cases hv.str_inv;cases et;exact uA I ZH (.str y) eb Xs
  | tup ds=>obtain⟨a,xs,rfl,h1,h2⟩:=hv.mF;cases et;cases ZH;obtain⟨its,r,p,_⟩:=I.tuple h1;obtain⟨o,g1,g2,_⟩:=p;exact gu W.kitx_tuple I.mR ⟨o,g1,g2⟩ eb (λz=>nomatch z) Xs
  | ref a=>
   cases hv.mw;have et:Hg (M a)=ga t:=et;cases e:M a with
   | none=>rw[e]at et;cases et
   | some cell=>
    rw[e]at et;have ok:=hm a cell e;cases cell with
    | lst ds=>cases et;obtain⟨xs,e1,_⟩:=ok;exact uA I ZH (.lst e1) eb Xs
    | ins C fs=>cases et;obtain⟨dx,vs,e1,cl,_⟩:=ok;obtain⟨i1,i2,i3,i4⟩:=hC C Z';exact uA I ZH (.ins e1 cl i1 i2 i3 i4) eb Xs
    | dk kvs=>cases et;obtain⟨vs,e1,_⟩:=ok;exact uA I ZH (.dK e1) eb Xs
    | exc C=>cases et
  | ty n=>cases et
  | rl ds=>obtain⟨p,xs,rfl,h1,h2⟩:=hv.mP;cases et;cases ZH;obtain⟨its,r,⟨o,n,g1,g2,_⟩,_⟩:=I.list h1.sq;exact gu lq I.mR ⟨o,g1,g2⟩ eb (λz=>nomatch z) Xs
 .exact q.elim
noncomputable def FW:T0 D->Option (T0 Bool)
 | []=>ga []
 | .bl b::r=>(FW r).map (b::·)
 | _::_=>Fa
theorem Fe{K:qk}:∀{ds:T0 D} {bs:T0 Bool} {xs:T0 V} {us:T0 Vl},FW ds=ga bs->qd K H ds xs->qw xs us->us=bs.map Value.bool
 | [],bs,xs,us,e,h,r=>by cases e;have:=h.nil_inv;subst this;cases r;rfl
 | d::ds,bs,xs,us,e,h,r=>by
  cases d with
  | bl b=>
   obtain⟨y,ys,rfl,h1,h2⟩:=h.inv;cases h1.my;unfold FW at e;cases q:FW ds with
   | none=>rw[q]at e;cases e
   | some cs=>
    rw[q]at e;cases e;cases r with
    | cons r1 r2=>cases r1;rw[Fe q h2 r2];rfl
  | _=>cases e
def Uu(ds:T0 D)(M:Mp)(Q:DK):Prop:=match ds with
 | [.ref a]=>(oa M a).elim False λes=>(FW es).elim False λbs=>Q (.bl (bs.all id)) M
 | _=>False
def Ft(hc:X.calm=Db):C3 X (.builtin "all") Uu:=by
 intro Xn s Y H vs us Q' I rv h;obtain⟨ds,M,Q,hd,hm,q,k⟩:=h;unfold Uu at q;split at q
 .rename_i a;obtain⟨v,rfl,hv⟩:=rL hd;obtain⟨es,e0,q⟩:=qx q;obtain⟨bs,e1,q⟩:=qx q;cases hv.mw;obtain⟨u,rfl,ru⟩:=xh rv;cases ru;obtain⟨xs,h1,h2,_⟩:=pU hm e0;obtain⟨its,r,pl,hz⟩:=I.list h1;have eits:=Fe e1 h2 r;subst eits;have XN:a≠s.heap.objs.size:=by obtain⟨o,_,e,_⟩:=pl;exact dU (dE e)
  refine call_all_walk (hW pl.isList ?_);refine⟨s.heap.objs.size,_,_,_,_,_,λi=>(bs[i]?).getD Db,Z',j8 (A:=X.A.in1) (I.ok.hd hc) _ a XN (bs.map Value.bool).toArray,⟨⟨_,dJ _ Z',Z',Z'⟩,?_⟩,λi v s' Q E hP hQ=>?_,λh' tk hk=>?_⟩
  .obtain⟨o,n,e,c,d,q⟩:=pl;exact⟨o,dg _ e,c,n,q⟩
  .simp only[iJ,dA]at hP;cases e2:bs[i]? with
   | none=>rw[e2]at hP;cases hP
   | some b=>rw[e2]at hP;cases hP;have hQ:Q ((bs[i]?).getD Db) s':=hQ;rw[e2]at hQ;exact fh hQ
  .have ea:(List.range (bs.map Value.bool).toArray.size).all (λi=>(bs[i]?).getD Db)=bs.all id:=by
    rw[dB,cW];rw[gm,eX,eX];constructor
    .intro z b hb;obtain⟨i,hi,e⟩:=gY hb;have:=z i (gy.mpr hi);rw[cY hi,e]at this;exact this
    .intro z i hi;have Zo:=gy.mp hi;rw[cY Zo];exact z _ (ii Zo)
   rw[ea];refine⟨.bl (bs.all id),H,?_,Z',k _ _ _ _ .bl hm .refl q⟩;exact I.kept (h':=h') (t':=tk) λb o e=>hk b o (by simpa using dU (dE e)) (dg _ e)
 .exact q.elim
noncomputable def AY(x:D):T0 D->Option Nat
 | []=>Fa
 | d::r=>if Qq d x=Db then ga 0 else(AY x r).map (·+1)
theorem JF{K:qk}{e:D}{w:V}(g:rH K H e w)(fe:uS e=Db):∀{ds:T0 D} {xs:T0 V} {us:T0 Vl} {j:Nat},qd K H ds xs->qw xs us->ds.all uS=Db->AY e ds=ga j->
  ∃h:j<us.length,Fl w us[j]=Db/\∀m (hm:m<us.length),m<j->Fl w us[m]=pc
 | [],_,_,_,_,_,_,q=>by cases q
 | d::ds,_,us,j,h,r,fl,q=>by
  obtain⟨y,ys,rfl,h1,h2⟩:=h.inv;rw[gv,dY]at fl;cases r with
  | @cons _ u _ us' r1 r2=>
   have eu:Fl w u=Qq d e:=by rw[HC r1 (zv h1 fl.1),IU h1 g fl.1 fe]
   unfold AY at q;by_cases hq:Qq d e=Db
   .rw[df hq]at q;cases q;exact⟨by simp,by simpa [eu]using hq,λm _ hm=>absurd hm (Nat.not_lt_zero m)⟩
   .rw[de hq]at q;cases q2:AY e ds with
    | none=>rw[q2]at q;cases q
    | some j'=>
     rw[q2]at q;cases q;obtain⟨hl,e1,e2⟩:=JF g fe h2 r2 fl.2 q2;refine⟨by simpa using hl,by simpa using e1,λm hm XD=>?_⟩;cases m with
     | zero=>simpa [eu]using hq
     | succ m=>simpa using e2 m (by simpa using hm) (by have z:m+1<j'+1:=XD;lia)
def R4(x:D)(ds:T0 D)(M:Mp)(Q:DK):Prop:=match x,ds with
 | .ref a,[y]=>(oa M a).elim False λes=>uS y=Db/\es.all uS=Db/\(AY y es).elim False λj=>Q (.int (j:Nat)) M
 | _,_=>False
def M3(X:Cx)(id:String)(r:D->T0 D->Mp->DK->Prop):Prop:=WQ X id λvx vs H Q'=>∃x ds M Q,rH X.K H x vx/\qd X.K H ds vs/\HM X.K H M/\r x ds M Q/\Up X.K H Q' Q
def LH:M3 X "list.index" R4:=by
 intro Xn s Y H vx vs v us Q' I rx rv h;obtain⟨x,ds,M,Q,hx,hd,hm,q,k⟩:=h;unfold R4 at q;split at q
 .rename_i a y;obtain⟨es,e0,f1,f2,q⟩:=qx q;obtain⟨j,e1,q⟩:=qx q;cases hx.mw;cases rx;obtain⟨w,rfl,hw⟩:=rL hd;obtain⟨u,rfl,ru⟩:=xh rv;obtain⟨xs,h1,h2,rd⟩:=pU hm e0;obtain⟨hz,its,n,r,g⟩:=rd.ok I.mH;obtain⟨hl,p1,p2⟩:=JF hw f1 h2 r f2 e1;have hlz:its.length<=Uf:=by rw[<-r.length];exact hz
  have h63:=xT;refine jp F.slot_list_index ⟨_,g,Z'⟩ F.entry_list_index (F.args_list_index_2 _ _) (SeqAt.list_indexAt a its.toArray n Fa #[] u (Fl w) j (by simpa using hl) (by lia) (by simpa using p1) λm hm XD=>by simpa using p2 m (by simpa using hm) XD) ⟨g,?_,?_⟩
  .intro z hz';exact wg ru (zv hw f1) r (EQ h2 f2) z (by simpa using hz')
  .exact⟨.int (j:Nat),H,I.tok _,⟨_,Z'⟩,k _ _ _ _ .int hm .refl q⟩
 .exact q.elim
def QT(M:Mp):D->Prop
 | .ref a=>(oa M a).isSome=Db
 | _=>False
def VN(r:D->T0 D->Mp->DK->Prop)(to:T3)(t:xf):T3:=λU M Q=>to U M λx M1=>QT M1 x/\t U M1 λds M2=>r x ds M2 Q
def So{K:qk}{x:D}(hm:HM K H M)(h:rH K H x v)(l:QT M x):Wu K "list" v H:=by
 cases x with
 | ref a=>cases h.mw;obtain⟨ds,e⟩:=ir.mp (show(oa M a).isSome=Db from l);obtain⟨xs,h1,_⟩:=pU hm e;exact .inl ⟨Z',xs,h1⟩
 | _=>exact l.elim
def QY{id:String}(slot:Slot "list" name id)(hty:typeOf (.builtin id)=pure (.type "method_descriptor"))(hm:M3 X id r)(ho:E3 X o ta)(ha:A3 X (e::es) t) (XI:wE o name X.env (No o X.env)=No o X.env:=by rfl)
  (YH:((wv pos (Tk (e::es) X.env)).all (λx=>!x.1)&&(xL pos (Op [] X.env)).all (λx=>x.1.isSome)
   &&decide ((e::es).length+([]:T0 XXb).length+(if ([]:T0 XXb).isEmpty then 0 else 1)<30))=Db:=by rfl)
  (XZ:(Xq.endLine==pos.line)=Db:=by rfl) (hs:A9 X e es:=by rfl) (XE:CP X pos es:=by rfl):
  E3 X (.Call (.Attribute o name Xq) (e::es) [] pos) (VN r ta t):=PE.mono (TL PySem.F.plainAttrs_list slot hty hm ho ha XI YH XZ hs XE) λY H Q' zz=>x7 zz λU M Q hs hm ht k=>
 ⟨U,M,_,hs,hm,ht,λv H1 x M1 hx Xp e1 q1=>⟨So Xp hx q1.1,U,M1,_,hs.mono e1,Xp,q1.2,λvs H2 ds M2 YG XA e2 q2=>⟨x,ds,M2,Q,hx.mono e2,YG,XA,q2,vJ (e1.trans e2) k⟩⟩⟩
def xJ(ho:E3 X o ta)(ha:A3 X (e::es) t) (XI:wE o "index" X.env (No o X.env)=No o X.env:=by rfl)
  (YH:((wv pos (Tk (e::es) X.env)).all (λx=>!x.1)&&(xL pos (Op [] X.env)).all (λx=>x.1.isSome)
   &&decide ((e::es).length+([]:T0 XXb).length+(if ([]:T0 XXb).isEmpty then 0 else 1)<30))=Db:=by rfl)
  (XZ:(Xq.endLine==pos.line)=Db:=by rfl) (hs:A9 X e es:=by rfl) (XE:CP X pos es:=by rfl):
  E3 X (.Call (.Attribute o "index" Xq) (e::es) [] pos) (VN R4 ta t):=QY PySem.F.slot_list_index PySem.F.type_list_index LH ho ha XI YH XZ hs XE
structure LG(K:qk)(C:lf)(m:Str)(f:lf):Prop where
 hg:W.specialIn K (.ref C) "__getattribute__"=ga (ga (.builtin "type.__getattribute__"))
 rd:W.readsIn K C (.type "type")=Db
 fc:W.findCls K (.ref C) (.type "type") m=ga (.val (.ref f))
def OT{sp:Sp}{t:TA}{pl:Sem Bool}(cm:LG X.K C m f)(F:xl X.prog X.w X.K X.mg X.base NU k f fd ps sp)(hr:rS k X.A)(hg:Gl X x)(hm:X.mg x=ga (.ref C))(hk:W.keepIn X.K (.ref f)=Db)(hb:uK X.K fd ps [])(ha:PA X (e::es) t) (XF:zb x:=by decide) (XJ:A9 X e es:=by rfl) (XC:CP X pos es:=by rfl)
  (ht:No (.Call (.Attribute (.Name x p) m Xq) (e::es) [] pos) X.env=(do
   let ov<-No (.Name x p) X.env
   X' Xq.atName
   let(f,first)<-At [ov] (XV ov m pl)
   XXd pos f first (wv pos (Tk (e::es) X.env)) (xL pos (Op [] X.env))):=by rfl):
  PE X (.Call (.Attribute (.Name x p) m Xq) (e::es) [] pos) (λY H Q=>t Y H λvs H1=>sp vs H1 Q E0):=by
 intro Xn s Y H Q I h;refine jP (pl:=pl) (wG I hg hm ?_ XF) ht;refine W.method_cls I.mR cm.hg (W.cls_value I.mR cm.rd cm.fc Z' ?_);refine iO (first:=[]) (h₀:=X.base) I.ok.mod.nW hk (rR (ha pos Xn _ Y H _ (I.tok _) h) λus s2 zz=>x5 zz λvs H2 I2 r q2=>⟨I2.mR,?_⟩) XJ XC;exact FE F hr hb .nil (G1 (X:=X)) I2 r (by rw[eN];exact q2)
def Om{pl:Sem Bool}(cm:LG X.K C m f)(F:Tu X.prog X.w X.K X.mg X.base k f fd ps sp)(hr:rS k X.A)(hg:Gl X x)(hm:X.mg x=ga (.ref C))(hk:W.keepIn X.K (.ref f)=Db)(hb:uK X.K fd ps [])(ha:A3 X (e::es) t) (XF:zb x:=by decide) (XJ:A9 X e es:=by rfl) (XC:CP X pos es:=by rfl)
  (ht:No (.Call (.Attribute (.Name x p) m Xq) (e::es) [] pos) X.env=(do
   let ov<-No (.Name x p) X.env
   X' Xq.atName
   let(f,first)<-At [ov] (XV ov m pl)
   XXd pos f first (wv pos (Tk (e::es) X.env)) (xL pos (Op [] X.env))):=by rfl):
  E3 X (.Call (.Attribute (.Name x p) m Xq) (e::es) [] pos) (AD sp t):=PE.mono (OT cm F hr hg hm hk hb ha XF XJ XC ht) λY H Q' zz=>x7 zz λU M Q hs hm ht k=>
 ⟨U,M,_,hs,hm,ht,λvs H1 ds M1 hd Xp e1 q1=>⟨ds,M1,Q,hd,Xp,q1,vJ e1 k⟩⟩
def ql:Tl "len"=ga (.builtin "len"):=by decide+kernel
def Mw:Tl "min"=ga (.builtin "min"):=by decide+kernel
def uF:Tl "isinstance"=ga (.builtin "isinstance"):=by decide+kernel
def EH:Tl "all"=ga (.builtin "all"):=by decide+kernel
def ub:Tl "tuple"=ga (.type "tuple"):=by decide+kernel
def so:Tl "list"=ga (.type "list"):=by decide+kernel
def Ln:Tl "int"=ga (.type "int"):=by decide+kernel
def P':Tl "bool"=ga (.type "bool"):=by decide+kernel
def FK:Tl "dict"=ga (.type "dict"):=by decide+kernel
def E2:Tl "enumerate"=ga (.type "enumerate"):=by decide+kernel
def Nd:Tl "zip"=ga (.type "zip"):=by decide+kernel
end
theorem _root_.L2.Inv.drawn{ch:QXQ}{T:lf}{xs:T0 V}{h':Go}{tk:Nat}(I:Inv X Xn Y H s)(Yo:∀b∈ch,zE X Xn H b)(k:∀b o,b∉ch->s.heap.get? b=ga o->h'.get? b=ga o)(hT:s.heap.objs.size<=T)(hx:xs.length<=Uf) (rv:qw xs its) (ht:EZ h' T its.toArray):Inv X Xn Y (upd H T (.tup xs)) {s with heap:=h',toks:=tk}:=by
 have ZI:H T=Fa:=I.mH.fresh hT;have nT:∀b o,s.heap.get? b=ga o->b≠T:=λb o e=>dU (dQ (dE e) hT);refine I.step (g':=s.gens) (d':=s.drawn) (ch:=ch) (λb hb=>⟨(Yo b hb).2.2.2.1,(Yo b hb).2.1,(Yo b hb).2.2.2.2.1,(Yo b hb).2.2.2.2.2⟩) (λb o _ _ hc e _=>k b o hc e) (λb o _ _ hc e _=>⟨o.slots,k b o hc e⟩) (λb o _ e n=>by rw[pS (nT b o e)];exact n)
  (λb o hc e=>⟨o,k b o hc e⟩) (λb ys e=>by rw[pS (qK e ZI)];exact e) (λb o u e=>by rw[pS (qK e ZI)];exact e) (λb ps e=>⟨#[],by rw[pS (qK e ZI),e];simp⟩) (λm hm=>?_) (λb u e=>?_) I.bare
 .obtain⟨o,es,ep,ho,r⟩:=hm;exact⟨o,es,ep,k _ o (λz=>(Yo _ z).2.1 Z') ho,r⟩
 .by_cases hb:b=T
  .subst hb;rw[pT]at e;cases e;exact⟨hx,its,rv,ht⟩
  .rw[pS hb]at e;refine(I.mH b u e).nq (λc v hc q=>k c v (λz=>?_) q) (λc q=>by rw[pS (qK q ZI)];exact q) (λc ys q=>by rw[pS (qK q ZI)];exact q);have n:=(Yo c z).1;rcases hc with y|y
   .rw[y,e]at n;cases n
   .rw[y]at n;cases n
noncomputable def WI(K:qk)(a:lf):It:=
 ⟨λi H=>∃xs x,xq K H a xs/\xs[i]?=ga x,λi H x H'=>∃p y,x=.ref p/\H p=Fa/\H'=upd H p (.tup [.int (i:Nat),y])/\∀xs,xq K H a xs->xs[i]?=ga y,λi H=>∃xs,xq K H a xs/\xs.length<=i⟩
def Ku{K:qk}(a e it:lf)(hei:e≠it):Gv P w K (.Tuple XO n tp) (WI K a) [e,it] e (λi h=>(∃XY,IsEnum h e it (i:Nat) XY)/\h.IsListIter it a i) where
 mem:=by simp
 obj:=λi h st b hb=>by
  obtain⟨⟨XY,he⟩,o,e1,c,d⟩:=st;rcases dz.mp hb with rfl|hb
  .exact⟨_,he,λv z=>by cases z⟩
  .rw[dh.mp hb];exact⟨o,e1,λv z=>by rw[d]at z;cases z⟩
 keep:=λi h h' st k=>by obtain⟨⟨XY,he⟩,hi⟩:=st;exact⟨⟨XY,k e (by simp) _ he⟩,hi.at λo q=>k it (by simp) o q⟩
 item:=by
  intro X hP hw hK hc i Xn s Y H E I hf st hg;subst hP hw hK;obtain⟨xs,x,hq,hx⟩:=hg;obtain⟨its,rv,p,hz⟩:=I.list hq;obtain⟨u,hu,ru⟩:=rv.get hx;obtain⟨⟨XY,he⟩,hi⟩:=st;refine wpAny_pyNext_enum_item he hi p.isList (x:=u) (by simpa using hu) hei λh1 ho Yz hT hsz hk=>?_;refine⟨_,Z',wpAny_letOwnedTupleGo_enum ho λh2 he2 X7=>?_⟩;have helt:e<s.heap.objs.size:=dE he;have hilt:it<s.heap.objs.size:=by obtain⟨o,q,_⟩:=hi;exact dE q
  have kk:∀b o,b∉[e,it]->s.heap.get? b=ga o->h2.get? b=ga o:=λb o hb q=>(X7.2 b λz=>hb (by simp[z])).trans (hk b o (λz=>hb (by simp[z])) (λz=>hb (by simp[z])) q);have hT2:h2.get? s.heap.objs.size=ga {cls:=.type "tuple",data:=.seq #[.int (i:Nat) s.toks,u]}:=(X7.2 _ (ia helt)).trans hT;have ZI:H s.heap.objs.size=Fa:=I.mH.fresh (dq _);have I2:=I.drawn (ch:=[e,it]) (T:=s.heap.objs.size) (xs:=[.int (i:Nat),x]) (its:=[.int (i:Nat) s.toks,u]) (h':=h2) (tk:=s.toks+1) hf kk (dq _) (by show 2<=Uf;decide) (.cons ⟨_,Z'⟩ (.cons ru .nil)) ⟨_,hT2,Z',⟨_,Z'⟩,Z'⟩;refine⟨.ref s.heap.objs.size,_,I2,Z',⟨_,x,Z',ZI,Z',λys hy=>by rw[I.nA hy hq];exact hx⟩,⟨⟨_,by simpa using he2⟩,Yz.extBut X7.extBut (dX hei)⟩,λb hb=>?_⟩;have Yl:b<s.heap.objs.size:=by
   rcases dz.mp hb with z|z
   .rw[z];exact helt
   .rw[dh.mp z];exact hilt
  rw[pS (dU Yl)];exact(hf b hb).1
 done:=by intro X hP hw hK hc i Xn s Y H E I hf st hg;subst hP hw hK;obtain⟨xs,hq,hx⟩:=hg;obtain⟨its,rv,p,hz⟩:=I.list hq;obtain⟨⟨XY,he⟩,hi⟩:=st;have hl:=rv.length;obtain⟨f0,f1,f2,f3,f4,f5⟩:=hf it (by simp);exact wpAny_pyNext_enum_end (I.ok.hd hc) he hi p.isList (by simp;lia) λh' eb=>⟨Z',I.turned (t':=s.toks) (λb o hb q=>eb b o hb q) f0 f1 f3 f4 f5⟩
 self:=λ_ _ _ _ _ st h=>by obtain⟨⟨XY,he⟩,_⟩:=st;exact lb he h
variable {tp:Pos}{XO:T0 zn}{n:Nat}
def Ql{a:zn}{ta:TA}(hg:Gl X "enumerate")(hm:X.mg "enumerate"=Fa)(ha:PA X [a] ta)(hs:Tk [a] X.env=[(pc,No a X.env)]:=by rfl):
  PI X (.Tuple XO n tp) (.Call (.Name "enumerate" p) [a] [] pos) (λY H R=>ta Y H λvs H1=>∃l,vs=[.ref l]/\(∃xs,xq X.K H1 l xs)/\R (WI X.K l) H1):=by
 intro Xn s Y H R I h;refine Call_ (vW I hg hm E2 (fz (rR (ha pos Xn s Y H _ I h) λus s1 zz=>x5 zz λvs H1 I1 r1 q1=>?_) hs Z'));obtain⟨l,e,⟨xs,hq⟩,q⟩:=q1;subst e;obtain⟨u,rfl,ru⟩:=xh r1;cases ru;obtain⟨its,rv,pl,hz⟩:=I1.list hq;refine call_enumerate_list pl.isList λh' he hi hsz hk=>?_;refine lb he ?_;have I2:Inv X Xn Y H1 {s1 with heap:=h'}:=I1.kept (t':=s1.toks) hk;refine⟨s1.heap.objs.size+1,[s1.heap.objs.size+1,s1.heap.objs.size],_,_,H1,Z',I2,Ku l _ _ (Nat.succ_ne_self _),⟨⟨_,he⟩,hi⟩,λb hb=>?_,q⟩;have Yl:s1.heap.objs.size<=b:=by
  rcases dz.mp hb with z|z
  .rw[z];exact hU _
  .rw[dh.mp z];exact dq _
 exact I1.nL Yl (I1.mH.fresh Yl)
noncomputable def tL:Nat->T0 D->T0 D
 | _,[]=>[]
 | i,d::r=>.tup [.int (i:Nat),d]::tL (i+1) r
theorem xY:∀{ds:T0 D} {i j:Nat},(tL j ds)[i]?=(ds[i]?).map λd=>D.tup [.int ((j+i:Nat):Int),d]
 | [],i,j=>by simp[tL]
 | d::r,0,j=>by simp[tL]
 | d::r,i+1,j=>by show(tL (j+1) r)[i]?=_;rw[xY];simp only[List.getElem?_cons_succ];rw[show j+1+i=j+(i+1)by lia]
theorem uL:∀{ds:T0 D} {j:Nat},(tL j ds).length=ds.length
 | [],j=>rfl
 | d::r,j=>by simp[tL,uL]
def ME{K:qk}:ES K H1 (WI K a) (tL 0 ds) (λM=>oa M a=ga ds) where
 go:=λi H M hi hm ok _=>by rw[uL]at hi;obtain⟨xs,h1,h2,_⟩:=pU hm ok;obtain⟨x,e,_⟩:=h2.get (cY hi);exact⟨xs,x,h1,e⟩
 oN:=λi d H M x H' hd hm ok _ y=>by
  obtain⟨xs,h1,h2,_⟩:=pU hm ok;obtain⟨p,z,rfl,hp,rfl,y⟩:=y;rw[xY]at hd;cases e:ds[i]? with
  | none=>rw[e]at hd;cases hd
  | some d'=>rw[e]at hd;cases hd;obtain⟨x',e',hx⟩:=h2.get e;have w1:=y xs h1;rw[e']at w1;have w2:x'=z:=dv w1;subst w2;have ex:qJ K H (upd H p (.tup [.int (i:Nat),x'])):=.new hp;refine⟨.tup (.of pT) (.cons (by rw[kM];exact .int) (.cons (hx.mono ex) .nil)),hm.add hp,ex⟩
 stop:=λH M hm ok _=>by obtain⟨xs,h1,h2,_⟩:=pU hm ok;exact⟨xs,h1,by rw[uL,h2.length];exact dq _⟩
def Rt(t:xf):Nh:=λU M R=>t U M λds M1=>match ds with
 | [.ref a]=>(oa M1 a).elim False λes=>R (tL 0 es) (λM=>oa M a=ga es) M1
 | _=>False
def uY{a:zn}{ta:xf}(hg:Gl X "enumerate")(hm:X.mg "enumerate"=Fa)(ha:A3 X [a] ta)(hs:Tk [a] X.env=[(pc,No a X.env)]:=by rfl):I3 X (.Tuple XO n tp) (.Call (.Name "enumerate" p) [a] [] pos) (Rt ta):=
 PI.mono (Ql hg hm ha hs) λY H R' zz=>x7 zz λU M R hs hm ht k=>⟨U,M,_,hs,hm,ht,λvs H1 ds M1 hd Xp e1 q1=>by
  split at q1
  .obtain⟨v,rfl,hv⟩:=rL hd;cases hv.mw;obtain⟨es,e0,q⟩:=qx q1;obtain⟨xs,h1,h2,_⟩:=pU Xp e0;exact⟨_,Z',⟨xs,h1⟩,k _ H1 _ _ M1 ME Xp e1 e0 q⟩
  .exact q1.elim⟩
variable {prog:Pg}{A:Ar}{E:QQX}
def HV{it t:lf}{i:Nat}{its:Array Vl}{x:Vl}{Q:QQX}(hi:s.heap.IsTupleIter it t i)(ht:s.heap.IsTuple t its)(hx:its[i]?=ga x) (hQ:∀g,g.IsTupleIter it t (i+1)->Heap.SameBut it s.heap g->Q x {s with heap:=g}):Ch (pi prog w) A (Builtin.SmallTypes.nextOf (.ref it)) Q E s:=by
 obtain⟨ob,e1,e2,e3⟩:=id hi;obtain⟨ot,e4,_,nt,e5⟩:=ht;unfold Builtin.SmallTypes.nextOf;refine cX (fF (name:=Str.ofString "__next__") hi.typeIs gJ (gg gJ hi.typeIs je ?_ (ja _)));show Ch (pi prog w) _ (field (.ref it) 0>>=_) _ _ s;refine cX (eZ e1 e3 (x:=.ref t) Z' ?_);show Ch (pi prog w) _ (if (Value.ref t==Value.none)=Db then _ else _) _ _ s;rw[de (show ¬(Value.ref t==Value.none)=Db from dC)];show Ch (pi prog w) _ (field (.ref it) 1>>=_) _ _ s;refine cX (eZ e1 e3 (x:=.int i 0) Z' ?_);show Ch (pi prog w) _ (seqItems? (.ref t)>>=_) _ _ s;refine cX (gz e4 e5 ?_);simp only[gL,hx];refine cX (ie e1 e3 (by simp) (dw ⟨x,Z',dw (hQ _ ⟨_,fD _ e1 (Obj.isFreed_of_fields (kN e3 _)),(Obj.cls_mapFields ..).trans e2,?_⟩ (kt ..))⟩));rw[kN e3];simp[o0]
def CK{it t:lf}{i:Nat}{its:Array Vl}{Q:QQX}(hh:A.handled=Fa)(hi:s.heap.IsTupleIter it t i)(ht:s.heap.IsTuple t its)(hx:its[i]?=Fa) (hE:∀g e,Heap.ExtBut it s.heap g->(∃o,g.get? e=ga o/\o.cls=.type "StopIteration")->E (.ref e) {s with heap:=g}):Ch (pi prog w) A (Builtin.SmallTypes.nextOf (.ref it)) Q E s:=by
 obtain⟨ob,e1,e2,e3⟩:=id hi;obtain⟨ot,e4,_,nt,e5⟩:=ht;unfold Builtin.SmallTypes.nextOf;refine cX (fF (name:=Str.ofString "__next__") hi.typeIs gJ (gg gJ hi.typeIs je ?_ (ja _)));show Ch (pi prog w) _ (field (.ref it) 0>>=_) _ _ s;refine cX (eZ e1 e3 (x:=.ref t) Z' ?_);show Ch (pi prog w) _ (if (Value.ref t==Value.none)=Db then _ else _) _ _ s;rw[de (show ¬(Value.ref t==Value.none)=Db from dC)];show Ch (pi prog w) _ (field (.ref it) 1>>=_) _ _ s;refine cX (eZ e1 e3 (x:=.int i 0) Z' ?_);show Ch (pi prog w) _ (seqItems? (.ref t)>>=_) _ _ s;refine cX (gz e4 e5 ?_);simp only[gL,hx];refine cX (j7 (cX (ie e1 e3 (by simp) ?_)));show Ch (pi prog w) _ (newExc (.type "StopIteration") []>>=_) _ _ _;refine cX ?_;simp only[newExc,newTuple];refine cX (fS ?_ (by size_fits));refine cX (m:=firstArgMember _ _) (wpAny_of_eq (a:=Value.none) (by first|rfl|(simp only[firstArgMember];rfl)) ?_);refine fS ?_ (by size_fits);simp only[raiseNew];refine cX (wpAny_handled ?_)
 first|rw[show A.in1.handled=Fa from hh]|rw[hh]
 refine cX (dw (wpAny_throw (hE _ _ (((kt ..).extBut.push _).push _) ⟨_,dJ _ Z',Z'⟩)))
def JQ{prog:Pg}{w:Wo}{A:Ar}(hh:A.handled=Fa)(it t:lf)(XN:t≠it)(its:Array Vl):
  Draws prog w A it [it,t] its.size (λi v=>its[i]?=ga v) (λi h=>h.IsTupleIter it t i/\h.IsTuple t its) where
 live:=λi h st=>let⟨o,ho,_⟩:=st.1;⟨o,ho⟩
 frame:=λi h g st hk=>by obtain⟨⟨o,e1,e2⟩,⟨o',e3,e4⟩⟩:=st;exact⟨⟨o,hk it (by simp) o e1,e2⟩,⟨o',hk t (by simp) o' e3,e4⟩⟩
 item:=λi s Q E hi st hQ=>HV st.1 st.2 (x:=its[i]) (by simp[hi]) λg hg hs=>hQ _ g s.toks (by simp[hi]) ⟨hg,st.2.extBut hs.extBut XN⟩ hs
 done:=λs Q E st hE=>CK hh st.1 st.2 (by simp) hE
structure BG(z TI TO i1 i2:lf)(f1 f2:QXQ):Prop where
 a1:TI≠z
 a2:TO≠z
 a3:i1≠z
 a4:i2≠z
 a5:TI≠TO
 a6:TI≠i1
 a7:TI≠i2
 a8:TO≠i1
 a9:TO≠i2
 oW:i1≠i2
 b1:z∉f1
 b2:TO∉f1
 b3:i2∉f1
 c1:z∉f2
 c2:TO∉f2
 c3:i1∉f2
variable {z TI TO i1 i2:lf}{f1 f2:QXQ}{n1 n2 k1 k2:Nat}{P1 P2:Nat→Vl→Prop}{S1 S2:Nat→Go→Prop}
section
variable {a b:Vl}
def rW{St:Nat->Go->Prop}(Dr:Draws prog w A it fp n Pt St){i:Nat}{h g:Go}{c:lf}(st:St i h)(hs:Heap.SameBut c h g)(hc:c∉fp):St i g:=
 Dr.frame _ _ _ st λd hd o e=>(hs.2 d λq=>hc (q ▸ hd)).trans e
def Ki{Q:QQX}(D1:Draws prog w A i1 f1 n1 P1 S1)(D2:Draws prog w A i2 f2 n2 P2 S2)(XG:BG z TI TO i1 i2 f1 f2)(hz:XXi s.heap z TI TO .none)(hI:sB s.heap TI (.ref i1) (.ref i2))(hO:sB s.heap TO a b) (X4:S1 k1 s.heap) (XM:S2 k2 s.heap) (l1:k1<n1) (l2:k2<n2) (hQ:∀x y g tk,P1 k1 x->P2 k2 y->XXi g z TI TO (o0 s.heap.objs.size)->sB g TO x y->S1 (k1+1) g->S2 (k2+1) g->sB g s.heap.objs.size x y->g.objs.size=s.heap.objs.size+1->
   (∀c o,c≠z->c≠TO->c≠i1->c≠i2->s.heap.get? c=ga o->g.get? c=ga o)->Q (.ref s.heap.objs.size) {s with heap:=g,toks:=tk}):
  Ch (pi prog w) A (Builtin.«zip.__next__» ⟨[.ref z],[]⟩) (λXs s'=>∃v,Xs=.done (.ret v)/\Q v s') E s:=by
 show Ch (pi prog w) A (field (.ref z) 2>>=_) _ _ _;refine cX (eZ hz Z' (x:=.bool pc) Z' ?_);show Ch (pi prog w) A (field (.ref z) 3>>=_) _ _ _;refine cX (eZ hz Z' (x:=.ref TI) Z' (cX (gz hI Z' ?_)));show Ch (pi prog w) A (Builtin.SmallTypes.ownedTupleIsFree (.ref z)>>=_) _ _ _;refine cX ?_;unfold Builtin.SmallTypes.ownedTupleIsFree;refine cX (eZ hz Z' (x:=.none) Z' (dw ?_));simp only[iY];refine cX (j7 (cX (eZ hz Z' (x:=.ref TO) Z' (cX (gD hz (by simp) λg1 z1 Zd=>?_)))));replace z1:XXi g1 z TI TO .ellipsis:=z1;refine cX ?_;simp only[lG,lQ,jM,jX];refine cX (cX (jj ?_));show Ch (pi prog w) A (Builtin.SmallTypes.nextOf (.ref i1)>>=_) _ _ _;have Ze:S1 k1 g1:=rW D1 X4 Zd XG.b1;refine cX (D1.item k1 _ _ _ l1 Ze λx g2 tk2 px st1b Ys=>dw ?_);replace Ys:Heap.SameBut i1 g1 g2:=Ys;have o2:sB g2 TO a b:=Ys.extBut _ _ XG.a8 (Zd.extBut _ _ XG.a2 hO);refine cX (gz o2 Z' (cX (iR o2 λg3 o3 YA=>?_)));replace o3:sB g3 TO x b:=o3;replace YA:Heap.SameBut TO g2 g3:=YA;refine cX (lw (dw (cX (cX (jj ?_)))));show Ch (pi prog w) A (Builtin.SmallTypes.nextOf (.ref i2)>>=_) _ _ _;have ZJ:S2 k2 g3:=rW D2 (rW D2 (rW D2 XM Zd XG.c1) Ys XG.c3) YA XG.c2;refine cX (D2.item k2 _ _ _ l2 ZJ λy g4 tk4 py st2b Zp=>dw ?_);replace Zp:Heap.SameBut i2 g3 g4:=Zp;have o4:sB g4 TO x b:=Zp.extBut _ _ XG.a9 o3;refine cX (gz o4 Z' (cX (iR o4 λg5 o5 Zq=>?_)));replace o5:sB g5 TO x y:=o5;replace Zq:Heap.SameBut TO g4 g5:=Zq;refine cX (lw (dw (dw (cX (gz o5 Z' (cX (wpAny_newTuple ?_)))))));have esz:g5.objs.size=s.heap.objs.size:=by rw[Zq.1,Zp.1,YA.1,Ys.1,Zd.1]
 have z5:XXi g5 z TI TO .ellipsis:=Zq.extBut _ _ XG.a2.symm (Zp.extBut _ _ XG.a4.symm (YA.extBut _ _ XG.a2.symm (Ys.extBut _ _ XG.a3.symm z1)));have kp:∀c o,c≠z->c≠TO->c≠i1->c≠i2->s.heap.get? c=ga o->g5.get? c=ga o:=λc o q1 q2 q3 q4 q=>Zq.extBut _ _ q2 (Zp.extBut _ _ q4 (YA.extBut _ _ q2 (Ys.extBut _ _ q3 (Zd.extBut _ _ q1 q))));have st1c:S1 (k1+1) g5:=rW D1 (rW D1 (rW D1 st1b YA XG.b2) Zp XG.b3) Zq XG.b2;have st2c:S2 (k2+1) g5:=rW D2 st2b Zq XG.c2;have zlt:z<g5.objs.size:=dE z5;show Ch (pi prog w) A (Builtin.SmallTypes.ownedTupleHandOut (.ref z) (.ref g5.objs.size)>>=_) _ _ _;refine cX ?_;unfold Builtin.SmallTypes.ownedTupleHandOut;have z6:XXi (g5.push {cls:=.type "tuple",data:=.seq #[x,y]}) z TI TO .ellipsis:=dg _ z5;refine cX (gD z6 (by simp) λg7 z7 sb7=>?_);replace z7:XXi g7 z TI TO (o0 g5.objs.size):=z7;refine gD z7 (by simp) λg8 z8 sb8=>?_;replace z8:XXi g8 z TI TO (o0 g5.objs.size):=z8;have up:∀c o,c≠z->g5.get? c=ga o->g8.get? c=ga o:=λc o q1 q=>sb8.extBut _ _ q1 (sb7.extBut _ _ q1 (dg _ q));have tu:sB g8 g5.objs.size x y:=sb8.extBut _ _ (ia zlt) (sb7.extBut _ _ (ia zlt) (dJ _ Z'));have es8:g8.objs.size=g5.objs.size+1:=by rw[sb8.1,sb7.1,fK]
 rw[esz]at z8 tu es8;refine dw ⟨_,Z',?_⟩;show Q (.ref g5.objs.size) _;rw[esz];exact hQ x y g8 _ px py z8 (up _ _ XG.a2 o5) (D1.frame _ _ _ st1c λc hc o q=>up c o (λr=>XG.b1 (r ▸ hc)) q) (D2.frame _ _ _ st2c λc hc o q=>up c o (λr=>XG.c1 (r ▸ hc)) q) tu es8 λc o q1 q2 q3 q4 q=>up c o q1 (kp c o q1 q2 q3 q4 q)
def Nk{Q:Fin->Sd->Prop}(D1:Draws prog w A i1 f1 n1 P1 S1)(D2:Draws prog w A i2 f2 n2 P2 S2)(XG:BG z TI TO i1 i2 f1 f2)(hz:XXi s.heap z TI TO .none)(hI:sB s.heap TI (.ref i1) (.ref i2))(hO:sB s.heap TO a b) (X4:S1 k1 s.heap) (XM:S2 k1 s.heap) (hend:k1=n1\/(k1<n1/\k1=n2)) (hE:∀g e,(∀c o,c≠z->c≠TO->c≠i1->c≠i2->s.heap.get? c=ga o->g.get? c=ga o)->(∃o,g.get? e=ga o/\o.cls=.type "StopIteration")->∀tk,E (.ref e) {s with heap:=g,toks:=tk}):
  Ch (pi prog w) A (Builtin.«zip.__next__» ⟨[.ref z],[]⟩) Q E s:=by
 show Ch (pi prog w) A (field (.ref z) 2>>=_) _ _ _;refine cX (eZ hz Z' (x:=.bool pc) Z' ?_);show Ch (pi prog w) A (field (.ref z) 3>>=_) _ _ _;refine cX (eZ hz Z' (x:=.ref TI) Z' (cX (gz hI Z' ?_)));show Ch (pi prog w) A (Builtin.SmallTypes.ownedTupleIsFree (.ref z)>>=_) _ _ _;refine cX ?_;unfold Builtin.SmallTypes.ownedTupleIsFree;refine cX (eZ hz Z' (x:=.none) Z' (dw ?_));simp only[iY];refine cX (j7 (cX (eZ hz Z' (x:=.ref TO) Z' (cX (gD hz (by simp) λg1 z1 Zd=>?_)))));replace z1:XXi g1 z TI TO .ellipsis:=z1;refine cX ?_;simp only[lG,lQ,jM,jX];refine cX (cX (jj ?_));show Ch (pi prog w) A (Builtin.SmallTypes.nextOf (.ref i1)>>=_) _ _ _;have Ze:S1 k1 g1:=rW D1 X4 Zd XG.b1;rcases hend with he|⟨XD,he⟩
 .rw[he]at Ze;refine cX (D1.done _ _ _ Ze λg2 e Ys hx=>?_);obtain⟨oe,g,hce⟩:=hx;have z2:XXi g2 z TI TO .ellipsis:=Ys _ _ XG.a3.symm z1;have hez:e≠z:=λq=>by subst q;rw[z2]at g;cases g;simp at hce
  exact gD z2 (by simp) λg3 _ YA=>hE g3 e (λc o q1 _ q3 _ q=>YA.extBut _ _ q1 (Ys _ _ q3 (Zd.extBut _ _ q1 q))) ⟨oe,YA.extBut _ _ hez g,hce⟩ _
 .refine cX (D1.item k1 _ _ _ XD Ze λx g2 tk2 px st1b Ys=>dw ?_);replace Ys:Heap.SameBut i1 g1 g2:=Ys;have o2:sB g2 TO a b:=Ys.extBut _ _ XG.a8 (Zd.extBut _ _ XG.a2 hO);refine cX (gz o2 Z' (cX (iR o2 λg3 o3 YA=>?_)));replace YA:Heap.SameBut TO g2 g3:=YA;refine cX (lw (dw (cX (cX (jj ?_)))));show Ch (pi prog w) A (Builtin.SmallTypes.nextOf (.ref i2)>>=_) _ _ _;have ZJ:S2 k1 g3:=rW D2 (rW D2 (rW D2 XM Zd XG.c1) Ys XG.c3) YA XG.c2;rw[he]at ZJ;refine cX (D2.done _ _ _ ZJ λg4 e Zp hx=>?_);obtain⟨oe,g,hce⟩:=hx;have z4:XXi g4 z TI TO .ellipsis:=Zp _ _ XG.a4.symm (YA.extBut _ _ XG.a2.symm (Ys.extBut _ _ XG.a3.symm z1));have hez:e≠z:=λq=>by subst q;rw[z4]at g;cases g;simp at hce
  exact gD z4 (by simp) λg5 _ Zq=>hE g5 e (λc o q1 q2 q3 q4 q=>Zq.extBut _ _ q1 (Zp _ _ q4 (YA.extBut _ _ q2 (Ys.extBut _ _ q3 (Zd.extBut _ _ q1 q))))) ⟨oe,Zq.extBut _ _ hez g,hce⟩ _
end
abbrev VA(h:Go)(t:lf):Go:=h.push {cls:=.type "tuple_iterator",data:=.fields #[.ref t,.int 0 0]}
abbrev VC(h:Go)(t u:lf):Go:=(VA h t).push {cls:=.type "tuple_iterator",data:=.fields #[.ref u,.int 0 0]}
abbrev VB(h:Go)(t u:lf):Go:=(VC h t u).push {cls:=.type "tuple",data:=.seq #[.ref h.objs.size,.ref (VA h t).objs.size]}
abbrev VF(h:Go)(t u:lf):Go:=(VB h t u).push {cls:=.type "tuple",data:=.seq #[.none,.none]}
abbrev Tt(h:Go)(t u:lf):Go:=(VF h t u).push {cls:=.type "zip",data:=.fields #[.none,.bool pc,.bool pc,.ref (VC h t u).objs.size,.ref (VB h t u).objs.size]}
def Dn(t u:lf)(xs ys:Array Vl):
  Meets (Builtin.«zip.__new__» ⟨[.type "zip",.ref t,.ref u],[]⟩) (λ_ R s=>s.heap.IsTuple t xs/\s.heap.IsTuple u ys/\R (.ok (.ret (.ref (VF s.heap t u).objs.size))) {s with heap:=Tt s.heap t u}):=
 .of_wp λprog w A R s h=>by
  obtain⟨hp,g,d,tk,os⟩:=s;obtain⟨e1,e2,h⟩:=h;have ZF:=sub_zip;have q1:Heap.IsTuple (Shared.heap ⟨hp,g,d,tk,os⟩) t xs:=e1;have q2:Heap.IsTuple (Shared.heap ⟨hp.push {cls:=.type "tuple_iterator",data:=.fields #[.ref t,.int 0 0]},g,d,tk,os⟩) u ys:=Heap.IsTuple.push e2 _
  wp_walk using iz q1,iz q2
  exact⟨_,Z',h⟩
def EA{t u:lf}{xs ys:Array Vl}{Q:QQX}(ht:s.heap.IsTuple t xs)(hu:s.heap.IsTuple u ys) (h:∀g,XXi g (s.heap.objs.size+4) (s.heap.objs.size+2) (s.heap.objs.size+3) .none->sB g (s.heap.objs.size+2) (.ref s.heap.objs.size) (.ref (s.heap.objs.size+1))->sB g (s.heap.objs.size+3) .none .none->
   g.IsTupleIter s.heap.objs.size t 0->g.IsTupleIter (s.heap.objs.size+1) u 0->(∀c o,s.heap.get? c=ga o->g.get? c=ga o)->Q (.ref (s.heap.objs.size+4)) {s with heap:=g}):
  Ch (pi prog w) A (call (.type "zip") [.ref t,.ref u]) Q E s:=by
 refine callType_new F.called_zip (by decide) (F.typeCall_zip_2 _ _) (F.newCall_zip_2 _ _) (λobj=>F.args_object_init_3 obj _ _) F.entry_zip_new (Dn t u xs ys) ⟨ht,hu,?_⟩;have m1:(VA s.heap t).objs.size=s.heap.objs.size+1:=fK ..;have m2:(VC s.heap t u).objs.size=s.heap.objs.size+2:=by rw[fK,m1]
 have m3:(VB s.heap t u).objs.size=s.heap.objs.size+3:=by rw[fK,m2]
 have m4:(VF s.heap t u).objs.size=s.heap.objs.size+4:=by rw[fK,m3]
 have up:∀{h:Go} {c:lf} {o p:Obj},h.get? c=ga o->(h.push p).get? c=ga o:=λq=>dg _ q;have r5:(Tt s.heap t u).get? (VF s.heap t u).objs.size=ga _:=dJ _ Z';have r4:(Tt s.heap t u).get? (VB s.heap t u).objs.size=ga _:=up (dJ _ Z');have r3:(Tt s.heap t u).get? (VC s.heap t u).objs.size=ga _:=up (up (dJ _ Z'));have r2:(Tt s.heap t u).get? (VA s.heap t).objs.size=ga _:=up (up (up (dJ _ Z')));have r1:(Tt s.heap t u).get? s.heap.objs.size=ga _:=up (up (up (up (dJ _ Z'))));show _/\_;rw[m2,m3,m4]at r5;rw[m1,m2]at r3;rw[m3]at r4;rw[m1]at r2;rw[m4];exact⟨⟨_,r5,Z'⟩,h _ r5 r3 r4 ⟨_,r1,Z',Z'⟩ ⟨_,r2,Z',Z'⟩ λc o q=>up (up (up (up (up q))))⟩
def GW{z TI TO i1 i2:lf}{n1 n2 k:Nat}{P1 P2:Nat->Vl->Prop}{S1 S2:Nat->Go->Prop}{Q:Option Vl->Sd->Prop}(D1:Draws prog w A.in1 i1 f1 n1 P1 S1)(D2:Draws prog w A.in1 i2 f2 n2 P2 S2)(XG:BG z TI TO i1 i2 f1 f2) (hz:XXi s.heap z TI TO .none) (hI:sB s.heap TI (.ref i1) (.ref i2)) (hO:sB s.heap TO a b) (X4:S1 k s.heap) (XM:S2 k s.heap) (l1:k<n1) (l2:k<n2) (hQ:∀x y g tk,P1 k x->P2 k y->XXi g z TI TO (o0 s.heap.objs.size)->sB g TO x y->S1 (k+1) g->S2 (k+1) g->sB g s.heap.objs.size x y->g.objs.size=s.heap.objs.size+1->
   (∀c o,c≠z->c≠TO->c≠i1->c≠i2->s.heap.get? c=ga o->g.get? c=ga o)->Q (ga (.ref s.heap.objs.size)) {s with heap:=g,toks:=tk}):Ch (pi prog w) A (pyNext (.ref z)) Q E s:=by
 have hT:s.TypeIs (.ref z) "zip":=⟨_,hz,Z'⟩;unfold pyNext;refine cX (wpAny_attempt (fF (name:=Str.ofString "__next__") hT iS (gg iS hT lH ?_ (lh _))));exact Ki D1 D2 XG hz hI hO X4 XM l1 l2 λx y g tk q1 q2 q3 q4 q5 q6 q7 q8 q9=>dw (hQ x y g tk q1 q2 q3 q4 q5 q6 q7 q8 q9)
def AM{z TI TO i1 i2:lf}{n1 n2 k:Nat}{P1 P2:Nat->Vl->Prop}{S1 S2:Nat->Go->Prop}{Q:Option Vl->Sd->Prop}(D1:Draws prog w A.in1 i1 f1 n1 P1 S1)(D2:Draws prog w A.in1 i2 f2 n2 P2 S2)(XG:BG z TI TO i1 i2 f1 f2) (hz:XXi s.heap z TI TO .none) (hI:sB s.heap TI (.ref i1) (.ref i2)) (hO:sB s.heap TO a b) (X4:S1 k s.heap) (XM:S2 k s.heap) (hend:k=n1\/(k<n1/\k=n2)) (hQ:∀g tk,(∀c o,c≠z->c≠TO->c≠i1->c≠i2->s.heap.get? c=ga o->g.get? c=ga o)->Q Fa {s with heap:=g,toks:=tk}):Ch (pi prog w) A (pyNext (.ref z)) Q E s:=by
 have hT:s.TypeIs (.ref z) "zip":=⟨_,hz,Z'⟩;unfold pyNext;refine cX (wpAny_attempt (fF (name:=Str.ofString "__next__") hT iS (gg iS hT lH (Nk D1 D2 XG hz hI hO X4 XM hend λg e kp hx tk=>?_) (lh _))));obtain⟨o,e1,e2⟩:=hx;exact cX (wpAny_isInstance (T:="StopIteration") (b:=true) ⟨o,e1,e2⟩ isSubtype_stop (dw (hQ g tk kp)))
def S0(I:Inv X Xn Y H s)(f:zE X Xn H b)(q:vo X.K H a xs):a≠b:=by
 rintro rfl
 rcases q with q|⟨o,its,n,hk,_⟩
 .have z:=f.1;rcases q with q|⟨u,q⟩<;>(rw[q]at z;cases z)
 .have e:=I.mod.nW a o hk;rcases f.2.2.2.1 with z|z
  .exact I.ok.nF a o e z
  .exact absurd (dQ (dE e) (dZ I.ok.nO z)) (eS _)
noncomputable def Tz(Sq:qk->Hp->lf->T0 V->Prop)(K:qk)(a b:lf):It:=
 ⟨λi H=>∃xs ys x y,Sq K H a xs/\Sq K H b ys/\xs[i]?=ga x/\ys[i]?=ga y,λi H v H'=>∃p x y,v=.ref p/\H p=Fa/\H'=upd H p (.tup [x,y])/\(∀xs,Sq K H a xs->xs[i]?=ga x)/\(∀ys,Sq K H b ys->ys[i]?=ga y),λi H=>∃xs ys,Sq K H a xs/\Sq K H b ys/\i=min xs.length ys.length⟩
structure ZK(Sq:qk->Hp->lf->List V->Prop)(Ir:Go->lf->lf->Nat->Prop)(C:Go->lf->Array Vl->Prop):Prop where
 gt:∀{X:Cx} {Xn:QQY} {Y:St} {H:Hp} {s:Sd} {a:lf} {xs:List V},Inv X Xn Y H s->Sq X.K H a xs->∃its:List Vl,qw xs its/\C s.heap a its.toArray
 ij:∀{X:Cx} {Xn:QQY} {Y:St} {H:Hp} {s:Sd} {a:lf} {xs ys:List V},Inv X Xn Y H s->Sq X.K H a xs->Sq X.K H a ys->xs=ys
 ne:∀{X:Cx} {Xn:QQY} {Y:St} {H:Hp} {s:Sd} {a b:lf} {xs:List V},Inv X Xn Y H s->zE X Xn H b->Sq X.K H a xs->a≠b
 dr:∀{prog:Pg} {w:Wo} {A:Ar},A.handled=Fa->∀(it l:lf),l≠it->∀its:Array Vl,Draws prog w A it [it,l] its.size (λi v=>its[i]?=ga v) (λi h=>Ir h it l i/\C h l its)
 ob:∀{h:Go} {it a:lf} {i:Nat},Ir h it a i->∃o,h.get? it=ga o/\∀v,o.data≠.cell v
 kp:∀{h h':Go} {it a:lf} {i:Nat},Ir h it a i->(∀o,h.get? it=ga o->h'.get? it=ga o)->Ir h' it a i
def Xf:ZK vo Heap.IsTupleIter Heap.IsTuple where
 gt:=λI h=>(I.tuple h).imp λ_ z=>⟨z.1,z.2.1⟩
 ij:=λI h g=>I.ni h g
 ne:=S0
 dr:=JQ
 ob:=λ⟨o,h,_,d⟩=>⟨o,h,λv z=>by rw[d]at z;cases z⟩
 kp:=λ⟨o,h,c⟩ k=>⟨o,k o h,c⟩
def Ul{z TI TO i1 i2 a b:lf}(a1:TI≠z)(a2:TO≠z)(a3:i1≠z)(a4:i2≠z)(a5:TI≠TO)(a6:TI≠i1)(a7:TI≠i2)(a8:TO≠i1)(a9:TO≠i2)(oW:i1≠i2)(fa:∀c∈[z,TI,TO,i1,i2],a≠c)(fb:∀c∈[z,TI,TO,i1,i2],b≠c):BG z TI TO i1 i2 [i1,a] [i2,b]:=by
 have n:∀{x y w:lf},x≠y->w≠x->x∉[y,w]:=λh g=>by simp only[dz,dW,fT,ic];exact⟨h,dX g⟩
 exact⟨a1,a2,a3,a4,a5,a6,a7,a8,a9,oW,n (dX a3) (fa z (by simp)),n a8 (fa TO (by simp)),n (dX oW) (fa i2 (by simp)),n (dX a4) (fb z (by simp)),n a9 (fb TO (by simp)),n oW (fb i1 (by simp))⟩
def Lf{C:Go->lf->Array Vl->Prop}(zk:ZK Sq Ir C){P:Pg}{w:Wo}{K:qk}{XO:T0 zn}{n:Nat}{tp:Pos}(a b z TI TO i1 i2:lf)(a1:TI≠z)(a2:TO≠z)(a3:i1≠z)(a4:i2≠z)(a5:TI≠TO)(a6:TI≠i1)(a7:TI≠i2)(a8:TO≠i1)(a9:TO≠i2)(oW:i1≠i2):
  Gv P w K (.Tuple XO n tp) (Tz Sq K a b) [z,TI,TO,i1,i2] z (λi h=>XXi h z TI TO .none/\sB h TI (.ref i1) (.ref i2)/\(∃u v,sB h TO u v)/\Ir h i1 a i/\Ir h i2 b i) where
 mem:=by simp
 obj:=λi h st c hc=>by
  obtain⟨h1,h2,⟨u,v,h3⟩,h4,h5⟩:=st;simp only[dz,dW,fT]at hc;rcases hc with rfl|rfl|rfl|rfl|rfl
  .exact⟨_,h1,λv z=>by cases z⟩
  .exact⟨_,h2,λv z=>by cases z⟩
  .exact⟨_,h3,λv z=>by cases z⟩
  .exact zk.ob h4
  .exact zk.ob h5
 keep:=λi h h' st k=>by obtain⟨h1,h2,⟨u,v,h3⟩,h4,h5⟩:=st;exact⟨k z (by simp) _ h1,k TI (by simp) _ h2,⟨u,v,k TO (by simp) _ h3⟩,zk.kp h4 (k i1 (by simp)),zk.kp h5 (k i2 (by simp))⟩
 item:=by
  intro X hP hw hK hc i Xn s Y H E I hf st hg;subst hP hw hK;obtain⟨xs,ys,x,y,hx,hy,ex,ey⟩:=hg;obtain⟨its,rx,px⟩:=zk.gt I hx;obtain⟨Zc,ry,py⟩:=zk.gt I hy;obtain⟨u,eu,ru⟩:=rx.get ex;obtain⟨v,ev,rv⟩:=ry.get ey;obtain⟨h1,h2,⟨p,q,h3⟩,h4,h5⟩:=st;have hh:X.A.in1.handled=Fa:=I.ok.hd hc;have fa:∀c∈[z,TI,TO,i1,i2],a≠c:=λc hc=>zk.ne I (hf c hc) hx;have fb:∀c∈[z,TI,TO,i1,i2],b≠c:=λc hc=>zk.ne I (hf c hc) hy;have XG:=Ul a1 a2 a3 a4 a5 a6 a7 a8 a9 oW fa fb;have l1:i<its.toArray.size:=by
   have:=(cZ.mp eu).1
   simpa using this
  have l2:i<Zc.toArray.size:=by
   have:=(cZ.mp ev).1
   simpa using this
  refine GW (zk.dr hh i1 a (fa i1 (by simp)) its.toArray) (zk.dr hh i2 b (fb i2 (by simp)) Zc.toArray) XG h1 h2 h3 ⟨h4,px⟩ ⟨h5,py⟩ l1 l2 λx' y' g tk e1 e2 z1 o1 s1 s2 t1 sz kp=>?_;have e1':x'=u:=by
   have:its[i]?=ga x':=by simpa using e1
   rw[eu]at this;exact(dv this).symm
  have Zz:y'=v:=by
   have:Zc[i]?=ga y':=by simpa using e2
   rw[ev]at this;exact(dv this).symm
  subst e1' Zz;refine⟨_,Z',wpAny_letOwnedTupleGo_zip z1 λg2 z2 sb=>?_⟩;have zlt:z<s.heap.objs.size:=dE h1;have kk:∀c o,c∉[z,TI,TO,i1,i2]->s.heap.get? c=ga o->g2.get? c=ga o:=λc o hc e=>by simp only[dz,dW,fT,ic]at hc;exact(sb.2 c hc.1).trans (kp c o hc.1 hc.2.2.1 hc.2.2.2.1 hc.2.2.2.2 e)
  have t2:g2.get? s.heap.objs.size=ga {cls:=.type "tuple",data:=.seq #[x',y']}:=(sb.2 _ (ia zlt)).trans t1;have ZI:H s.heap.objs.size=Fa:=I.mH.fresh (dq _);have I2:=I.drawn (ch:=[z,TI,TO,i1,i2]) (T:=s.heap.objs.size) (xs:=[x,y]) (its:=[x',y']) (h':=g2) (tk:=tk) hf kk (dq _) (by show 2<=Uf;decide) (.cons ru (.cons rv .nil)) ⟨_,t2,Z',⟨_,Z'⟩,Z'⟩;refine⟨.ref s.heap.objs.size,_,I2,Z',⟨_,x,y,Z',ZI,Z',λxs' hx'=>by rw[zk.ij I hx' hx];exact ex,λys' hy'=>by rw[zk.ij I hy' hy];exact ey⟩,?_,λc hc=>?_⟩
  .exact⟨z2,(sb.2 _ a1).trans (kp _ _ a1 a5 a6 a7 h2),⟨_,_,(sb.2 _ a2).trans o1⟩,zk.kp s1.1 λ_ e=>(sb.2 _ a3).trans e,zk.kp s2.1 λ_ e=>(sb.2 _ a4).trans e⟩
  .have n0:=(hf c hc).1;obtain⟨o,eo⟩:∃o,s.heap.get? c=ga o:=by
    obtain⟨o4,g4,_⟩:=zk.ob h4;obtain⟨o5,g5,_⟩:=zk.ob h5;simp only[dz,dW,fT]at hc;rcases hc with rfl|rfl|rfl|rfl|rfl
    .exact⟨_,h1⟩
    .exact⟨_,h2⟩
    .exact⟨_,h3⟩
    .exact⟨_,g4⟩
    .exact⟨_,g5⟩
   rw[pS (dU (dE eo))];exact n0
 done:=by
  intro X hP hw hK hc i Xn s Y H E I hf st hg;subst hP hw hK;obtain⟨xs,ys,hx,hy,hi⟩:=hg;obtain⟨its,rx,px⟩:=zk.gt I hx;obtain⟨Zc,ry,py⟩:=zk.gt I hy;obtain⟨h1,h2,⟨p,q,h3⟩,h4,h5⟩:=st;have hh:X.A.in1.handled=Fa:=I.ok.hd hc;have fa:∀c∈[z,TI,TO,i1,i2],a≠c:=λc hc=>zk.ne I (hf c hc) hx;have fb:∀c∈[z,TI,TO,i1,i2],b≠c:=λc hc=>zk.ne I (hf c hc) hy;have XG:=Ul a1 a2 a3 a4 a5 a6 a7 a8 a9 oW fa fb;have e1:=rx.length;have e2:=ry.length;refine AM (zk.dr hh i1 a (fa i1 (by simp)) its.toArray) (zk.dr hh i2 b (fb i2 (by simp)) Zc.toArray) XG h1 h2 h3 ⟨h4,px⟩ ⟨h5,py⟩ (by simp only[dB];lia) λg tk kp=>⟨Z',?_⟩;have kk:∀c o,c∉[z,TI,TO,i1,i2]->s.heap.get? c=ga o->g.get? c=ga o:=λc o hc e=>by simp only[dz,dW,fT,ic]at hc;exact kp c o hc.1 hc.2.2.1 hc.2.2.2.1 hc.2.2.2.2 e
  refine I.step (g':=s.gens) (d':=s.drawn) (t':=tk) (ch:=[z,TI,TO,i1,i2]) (λc hc=>⟨(hf c hc).2.2.2.1,(hf c hc).2.1,(hf c hc).2.2.2.2.1,(hf c hc).2.2.2.2.2⟩) ?_ ?_ (λc o _ e n=>n) ?_ (λ_ _ e=>e) (λ_ _ _ e=>e) (λc ps e=>⟨#[],by rw[e];simp⟩) ?_ ?_ I.bare
  .exact λc o _ _ hc e _=>kk c o hc e
  .exact λc o _ _ hc e _=>⟨o.slots,kk c o hc e⟩
  .exact λc o hc e=>⟨o,kk c o hc e⟩
  .intro m hm;obtain⟨o,es,ep,ho,r⟩:=hm;exact⟨o,es,ep,kk _ o (λy=>(hf _ y).2.1 Z') ho,r⟩
  .intro c u e;refine(I.mH c u e).nq (λd v hd q=>kk d v (λy=>?_) q) (λ_ q=>q) λ_ _ q=>q;have n:=(hf d y).1;rcases hd with x|x
   .rw[x,e]at n;cases n
   .rw[x]at n;cases n
 self:=λ_ _ _ _ _ st h=>lJ st.1 h
def GV{C:Go->lf->Array Vl->Prop}(zk:ZK Sq Ir C){Xn:QQY}{Y:St}{H:Hp}{s:Sd}{E:QQX}{R:It->Hp->Prop}{g:Go}{l m:lf}{u v:Vl}(I:Inv X Xn Y H s)(h1:XXi g (s.heap.objs.size+4) (s.heap.objs.size+2) (s.heap.objs.size+3) .none)(h2:sB g (s.heap.objs.size+2) (.ref s.heap.objs.size) (.ref (s.heap.objs.size+1)))(h3:sB g (s.heap.objs.size+3) u v)(h4:Ir g s.heap.objs.size l 0)(h5:Ir g (s.heap.objs.size+1) m 0)(hk:∀b o,s.heap.get? b=ga o->g.get? b=ga o)(q:R (Tz Sq X.K l m) H):Ch (pi X.prog X.w) X.A (pyIter (.ref (s.heap.objs.size+4))) (V4 X Xn Y (.Tuple XO n tp) R) E {s with heap:=g}:=by
 refine lJ h1 ?_;have I2:Inv X Xn Y H {s with heap:=g}:=I.kept (t':=s.toks) hk;have ne:∀{i j:Nat},i≠j->(s.heap.objs.size+i:Nat)≠s.heap.objs.size+j:=λh z=>h (Nat.add_left_cancel z);refine⟨s.heap.objs.size+4,[s.heap.objs.size+4,s.heap.objs.size+2,s.heap.objs.size+3,s.heap.objs.size,s.heap.objs.size+1],_,_,H,Z',I2,Lf zk l m _ _ _ _ _ (ne (by decide)) (ne (by decide)) (ne (i:=0) (by decide)) (ne (by decide)) (ne (by decide)) (ne (j:=0) (by decide)) (ne (by decide)) (ne (j:=0) (by decide)) (ne (by decide)) (ne (i:=0) (by decide)),⟨h1,h2,⟨_,_,h3⟩,h4,h5⟩,λb hb=>?_,q⟩;have Yl:s.heap.objs.size<=b:=by simp only[dz,dW,fT]at hb;rcases hb with rfl|rfl|rfl|rfl|rfl<;>first|exact dq _|exact Nat.le_add_right _ _
 exact I.nL Yl (I.mH.fresh Yl)
def SJ{a b:zn}{ta:TA}(hg:Gl X "zip")(hm:X.mg "zip"=Fa)(ha:PA X [a,b] ta)(hs:Tk [a,b] X.env=[(pc,No a X.env),(pc,No b X.env)]:=by rfl)(X7:Tk [b] X.env=[(pc,No b X.env)]:=by rfl):
  PI X (.Tuple XO n tp) (.Call (.Name "zip" p) [a,b] [] pos) (λY H R=>ta Y H λvs H1=>∃l m,vs=[.ref l,.ref m]/\(∃xs,vo X.K H1 l xs)/\(∃xs,vo X.K H1 m xs)/\R (Tz vo X.K l m) H1):=by
 intro Xn s Y H R I h;refine Call_ (vW I hg hm Nd (fz (rR (ha pos Xn s Y H _ I h) λus s1 zz=>x5 zz λvs H1 I1 r1 q1=>?_) (by rw[hs,X7]) (by rw[X7];rfl)));obtain⟨l,m,e,⟨xs,hx⟩,⟨ys,hy⟩,q⟩:=q1;subst e;obtain⟨u,v,rfl,ru,rv⟩:=IW r1;cases ru;cases rv;obtain⟨its,_,px,_⟩:=I1.tuple hx;obtain⟨Zc,_,py,_⟩:=I1.tuple hy;exact EA px py λg h1 h2 h3 h4 h5 hk=>GV Xf I1 h1 h2 h3 h4 h5 hk q
noncomputable def vY:T0 D->T0 D->T0 D
 | x::a,y::b=>.tup [x,y]::vY a b
 | _,_=>[]
theorem EJ:∀{ds es:T0 D} {i:Nat},(vY ds es)[i]?=(ds[i]?).bind λd=>(es[i]?).map λe=>D.tup [d,e]
 | [],es,i=>by simp[vY]
 | d::ds,[],i=>by simp[vY]
 | d::ds,e::es,0=>by simp[vY]
 | d::ds,e::es,i+1=>by show(vY ds es)[i]?=_;rw[EJ];simp
theorem vH:∀{ds es:T0 D},(vY ds es).length=min ds.length es.length
 | [],es=>by simp[vY]
 | d::ds,[]=>by simp[vY]
 | d::ds,e::es=>by show(vY ds es).length+1=_;rw[vH];simp only[eA];lia
def Qu{K:qk}{ds es:T0 D}(h1:vo K H1 a xs)(h2:qd K H1 ds xs)(g1:vo K H1 b ys)(g2:qd K H1 es ys):ES K H1 (Tz vo K a b) (vY ds es) (λ_=>True) where
 go:=λi H M hi hm ok e1=>by rw[vH]at hi;obtain⟨x,ex,_⟩:=h2.get (cY (show i<ds.length by lia));obtain⟨y,ey,_⟩:=g2.get (cY (show i<es.length by lia));exact⟨xs,ys,x,y,e1.t _ _ h1,e1.t _ _ g1,ex,ey⟩
 oN:=λi d H M v H' hd hm ok e1 y=>by
  obtain⟨p,x,z,rfl,hp,rfl,y1,y2⟩:=y;rw[EJ]at hd;cases e:ds[i]? with
  | none=>rw[e]at hd;cases hd
  | some d'=>
   cases e':es[i]? with
   | none=>rw[e,e']at hd;cases hd
   | some d''=>rw[e,e']at hd;cases hd;obtain⟨x',q1,hx⟩:=h2.get e;obtain⟨z',q2,hz⟩:=g2.get e';have w1:=y1 xs (e1.t _ _ h1);have w2:=y2 ys (e1.t _ _ g1);rw[q1]at w1;rw[q2]at w2;have v1:x'=x:=dv w1;have v2:z'=z:=dv w2;subst v1 v2;have ex:qJ K H (upd H p (.tup [x',z'])):=.new hp;exact⟨.tup (.of pT) (.cons (hx.mono (e1.trans ex)) (.cons (hz.mono (e1.trans ex)) .nil)),hm.add hp,ex⟩
 stop:=λH M hm ok e1=>⟨xs,ys,e1.t _ _ h1,e1.t _ _ g1,by rw[vH,h2.length,g2.length]⟩
def UF(t:xf):Nh:=λU M R=>t U M λds M1=>match ds with
 | [.tup a,.tup b]=>R (vY a b) (λ_=>True) M1
 | _=>False
def SS{a b:zn}{ta:xf}(hg:Gl X "zip")(hm:X.mg "zip"=Fa)(ha:A3 X [a,b] ta)(hs:Tk [a,b] X.env=[(pc,No a X.env),(pc,No b X.env)]:=by rfl)(X7:Tk [b] X.env=[(pc,No b X.env)]:=by rfl):
  I3 X (.Tuple XO n tp) (.Call (.Name "zip" p) [a,b] [] pos) (UF ta):=
 PI.mono (SJ hg hm ha hs X7) λY H R' zz=>x7 zz λU M R hs hm ht k=>⟨U,M,_,hs,hm,ht,λvs H1 ds M1 hd Xp e1 q1=>by
  split at q1
  .obtain⟨v,u,rfl,hv,hw⟩:=ze hd;obtain⟨l,xs,rfl,h1,h2⟩:=hv.mF;obtain⟨m,ys,rfl,g1,g2⟩:=hw.mF;exact⟨l,m,Z',⟨xs,h1⟩,⟨ys,g1⟩,k _ H1 _ _ M1 (Qu h1 h2 g1 g2) Xp e1 trivial q1⟩
  .exact q1.elim⟩
def qz(M M':Mp):Prop:=∀a c,M a=ga c->M' a=ga c
def qz.refl:qz M M:=λ_ _ h=>h
def qz.trans{M M1 M2:Mp}(a:qz M M1)(b:qz M1 M2):qz M M2:=λx c h=>b x c (a x c h)
def qz.new{M:Mp}{p:lf}{c:uI}(h:M p=Fa):qz M (pq M p c):=λx d q=>by rw[tQ (FL q h)];exact q
def qz.lst{ds:T0 D}(s:qz M M')(h:oa M a=ga ds):oa M' a=ga ds:=by
 unfold oa at h ⊢;cases e:M a with
 | none=>rw[e]at h;cases h
 | some c=>rw[s a c e];rw[e]at h;exact h
def HM.sub{K:qk}(h:HM K H M')(s:qz M M'):HM K H M:=λa c q=>h a c (s a c q)
def UG{st:xz}{sp:rb}(F:Pn K x qual st f fd)(S:sT N ps (pY st))(len:∀ds M Q,sp ds M Q->ds.length=ps.length) (XH:∀(Xy:Vl) (A:Ar) (outer:T0 Env) (s:Sd) (H:Hp) (E:XK),rS k (A.deeper (sK qual (pY st) s.heap.objs.size f Xy))->
   ∃t,G8 (u9 NU P w K mg base N qual (pY st) f Xy A outer s H E).oq (rJ st) t/\∀ds M Q,sp ds M Q->t {nx:=λ_ M'=>∃Xr,qz Xr M'/\Q .mC Xr,rt:=λd M'=>∃Xr,qz Xr M'/\Q d Xr} (wQ N ds) M):Tu P w K mg base (k+1) f fd ps sp:=by
 refine F.ok S (λvs H Q E h=>?_) (λXy A outer s H vs Q' E hr h=>?_)
 .obtain⟨ds,M,Q,hd,_,hs,_⟩:=h;rw[<-hd.length];exact len ds M Q hs
 .obtain⟨ds,M,Q,hd,hm,hs,k⟩:=h;obtain⟨t,ht,hb⟩:=XH Xy A outer s H E hr;exact⟨_,ht,wQ N ds,M,_,DB hd,hm,hb ds M Q hs,λσ' H' δ' M' _ x2 x3 _ ⟨Xr,y1,y2⟩=>k .mC H' .mC Xr .mC (x2.sub y1) x3 y2,λv H' d M' x1 x2 x3 ⟨Xr,y1,y2⟩=>k v H' d Xr x1 (x2.sub y1) x3 y2,λ_ _ _ _ _ _ _ _ z=>z,λ_ _ _ _ _ _ _ _ z=>z⟩
theorem CB{g:DE}{te:T3}{ok:Mp->Prop}{Q:DK}{f:D->D}{M:Mp}(J:vj->Prop)(mH:ok M):∀(ds acc:T0 D) (U:vj),J U->acc.length+ds.length<=Uf->
  (∀d∈ds,∀U,J U->∀k:vj->DK,(∀δ',J δ'->k δ' (f d) M)->g d U M λδ2 M2=>te δ2 M2 (k δ2))->(∀p,M p=Fa->Q (.ref p) (pq M p (.lst (acc++ds.map f))))->uV g Cj te ok Q ds acc U M
 | [],acc,U,_,hl,_,hq=>⟨by simpa using hl,by simpa using hq⟩
 | d::r,acc,U,hj,hl,ht,hq=>by
  rw[eA]at hl;refine⟨by lia,?_⟩;refine ht d dH U hj (λδ2 y M4=>ok M4/\uV g Cj te ok Q r (acc++[y]) δ2 M4) λδ' hj'=>⟨mH,CB (f:=f) J mH r (acc++[f d]) δ' hj' ?_ (λe he=>ht e (dF _ he)) ?_⟩
  .rw[c9,dM];lia
  .simpa using hq
def ra{te:T3}{ok:Mp->Prop}{Q:DK}{f:D->D}{M:Mp}(mH:ok M):∀(ds acc:T0 D) (U:vj),acc.length+ds.length<=Uf->(∀d∈ds,∀k:DK,k (f d) M->te (U.set i (ga d)) M k)->
  (∀p,M p=Fa->Q (.ref p) (pq M p (.lst (acc++ds.map f))))->uV (rG i) Cj te ok Q ds acc U M:=λds acc U hl ht hq=>
 CB (f:=f) (λδ'=>∀d,δ'.set i (ga d)=U.set i (ga d)) mH ds acc U (λ_=>rfl) hl (λd hd δ' hj k hk=>by
  show te (δ'.set i (ga d)) M (k (δ'.set i (ga d)));rw[hj d];exact ht d hd _ (hk _ λe=>by rw[jC])) hq
theorem yd{α:Type}(f:α->Bool):∀l:List α,FW (l.map λx=>D.bl (f x))=ga (l.map f)
 | []=>rfl
 | x::r=>by show(FW (r.map λx=>D.bl (f x))).map (f x::·)=_;rw[yd f r];rfl
def pA{p:lf}{ds:T0 D}:oa (pq M p (.lst ds)) p=ga ds:=by unfold oa;rw[pK]
def i'{α:Type}{o:Option α}{P:α->Prop}{x:α}(e:o=ga x)(h:P x):o.elim False P:=by rw[e];exact h
def oV{l:T0 D}(h:decide (l.length<=100)=Db):l.length<=Uf:=by have z:=dP;have:=fM h;lia
theorem Bq{g:DE}{tb:xj}{ok:Mp->Prop}{E:GT}(J:vj->Mp->Prop)(mH:∀U M,J U M->ok M):∀(ds:T0 D) (U:vj) (M:Mp),J U M->
  (∀d∈ds,∀U M,J U M->∀nx:vj->Mp->Prop,(∀δ' M',J δ' M'->nx δ' M')->g d U M λδ2 M2=>tb {E with nx:=nx,ct:=nx,bk:=E.nx} δ2 M2)->(∀U M,J U M->E.nx U M)->Fo g tb ok E ds U M
 | [],U,M,j,_,hn=>hn U M j
 | d::r,U,M,j,ht,hn=>ht d dH U M j (λδ' M'=>ok M'/\Fo g tb ok E r δ' M') λδ' M' j'=>⟨mH δ' M' j',Bq J mH r δ' M' j' (λe he=>ht e (dF _ he)) hn⟩
theorem uN{g:DE}{tb:xj}{ok:Mp->Prop}{E:GT}(all:T0 D)(J:T0 D->vj->Mp->Prop)(mH:∀p U M,J p U M->ok M):∀(ds pre:T0 D) (U:vj) (M:Mp),pre++ds=all->J pre U M->
  (∀pre d post,pre++d::post=all->∀U M,J pre U M->∀nx:vj->Mp->Prop,(∀δ' M',J (pre++[d]) δ' M'->nx δ' M')->g d U M λδ2 M2=>tb {E with nx:=nx,ct:=nx,bk:=E.nx} δ2 M2)->(∀U M,J all U M->E.nx U M)->Fo g tb ok E ds U M
 | [],pre,U,M,e,j,_,hn=>hn U M (by rw[<-e,eN];exact j)
 | d::r,pre,U,M,e,j,ht,hn=>ht pre d r e U M j (λδ' M'=>ok M'/\Fo g tb ok E r δ' M') λδ' M' j'=>⟨mH _ δ' M' j',uN all J mH r (pre++[d]) δ' M' (by rw[<-e,eY];rfl) j' ht hn⟩
def BE{K:qk}{t:Vl}:W.kitOne K t t=ga Db:=by unfold W.kitOne;rw[df (by simp)]
def S8{K:qk}{t c:Vl}{b:Bool}(h:W.kitCls K t c=ga b)(ne:b=pc->(t==c)=pc):W.kitOne K t c=ga b:=by
 unfold W.kitOne;by_cases e:(t==c)=Db
 .rw[df e];cases b with
  | true=>rfl
  | false=>rw[ne Z']at e;cases e
 .rw[de e];exact h
def Rw{K:qk}{t:Vl}{b:Bool}(m:W.kitMeta T=Db)(s:W.subIn K t (.type T)=ga b)(ne:b=pc->(t==.type T)=pc):W.kitOne K t (.type T)=ga b:=by refine S8 ?_ ne;unfold W.kitCls;simp only;rw[df m];exact s
def NZ:W.kitMeta "bool"=Db:=by decide+kernel
def Ey{c:Bool}{A B:Prop}(h:c=pc)(hb:B):if c=Db then A else B:=by subst h;exact Ka hb
def yQ{c:Bool}{A B:Prop}(h:c=Db)(ha:A):if c=Db then A else B:=by subst h;exact Qf ha
def TH{t u:xj}{E:GT}{U:vj}{M:Mp}(R:vj->Mp->Prop)(h2:∀nx:vj->Mp->Prop,(∀δ' M',R δ' M'->nx δ' M')->t {E with nx:=nx} U M)(h1:∀δ' M',R δ' M'->u E δ' M'):uo t u E U M:=h2 (u E) h1
def U0{K:qk}{ns:T0 Int}(hO:L6 H)(hS:xq K H a (ns.map V.int)):rH K H (.rl (ns.map D.int)) (.ref a):=by
 have r:Py K H a (ns.map V.int):=by
  rcases hS with h|h
  .rcases h with h|⟨o,h⟩
   .rcases hO a with z|⟨o,xs,z⟩<;>(rw[h]at z;cases z)
   .exact .inl ⟨o,h⟩
  .exact .inr h
 unfold rH;exact⟨a,_,Z',r,.ints⟩
def SV{K:qk}{sp:rb}{ns:T0 Int}(hO:L6 H)(hS:xq K H a (ns.map V.int))(h:sp [.rl (ns.map D.int)] (λ_=>Fa) λd _=>d=.bl Db):NV K sp [.ref a] H (λv _=>v=.bl Db) λ_ _ _=>False:=
 ⟨_,λ_=>Fa,_,.cons (U0 hO hS) .nil,λ_ _ z=>(by cases z),h,λv H' d M' x1 _ _ x4=>by subst x4;exact x1.my⟩
def Na{l:W.OpenLaw}{q:Pg}{Yg:QQQ}{XP:(QQZ)->Go->Prop}{YP:Wo->Go->Prop}{d:DefRec}{K:Params->qk}{x:Str}{sp:rb}(hn:l.most=ga 63)(ZT:d.params.defaults=[])(hr:rS k callerA) (hY:∀(w:Wo) (h:Go),YP w h->(K w.params).In h) (YS:∀ns:T0 Int,ns.length<=63->sp [.rl (ns.map D.int)] (λ_=>Fa) λd _=>d=.bl Db) (F:∀(w:Wo) (mg:QQZ) (fa:lf) (h:Go),(K w.params).In h->h.Ns Ps mg->mg d.name=ga (.ref fa)->
   ∃fd:Rs,(∀(s:Sd) (u:Vl),BindsTo s fd ⟨[u],[]⟩ [(x,u)])/\∀base:Go,(K w.params).In base->base.Ns Ps mg->Tu l.prog w (K w.params) mg base k fa fd [x] sp):
  W.WalkO q Yg XP YP l.row.toRowW d [] (λf vs=>PySem.call f vs):=
 L2.Qn (n:=63) (k:=k) (x:=x) (CX:=λ_=>NU) (sp:=λw=>NV (K w.params) sp) hn (by decide) ZT hr hY F (λ_ _ a ns hl hO hS=>SV hO hS (YS ns hl)) λ_ _ _ _ _ z=>z
def KD(K:qk)(mg:QQZ)(x:Str)(d:D):Prop:=CQ λv u=>mg x=ga u/\qy v u/\∀H,rH K H d v
def R7{K:qk}{mg:QQZ}{x y:Str}{t:Tok}(h:mg x=ga (.str y t)):KD K mg x (.str y):=⟨.str y,_,h,⟨t,Z'⟩,λ_=>.str⟩
def vX{K:qk}{mg:QQZ}{x:Str}{y:Int}{t:Tok}(h:mg x=ga (.int y t)):KD K mg x (.int y):=⟨.int y,_,h,⟨t,Z'⟩,λ_=>.int⟩
def tX{K:qk}{a:lf}{ss:QQQ}{us:T0 Vl}{n:Nat}{sl:Array (Option Vl)}(h:K.lookup a=ga ⟨.type "tuple",Fa,.seq us.toArray n,sl⟩)(r:qw (ss.map V.str) us)(hz:us.length<=1000):vo K (λ_=>Fa) a (ss.map V.str):=
 .inr ⟨_,us.toArray,n,h,Z',Z',Z',by rw[dB,dP];lia,by simpa using r⟩
theorem zZ{K:qk}:∀{ss:QQQ},qd K H (ss.map D.str) (ss.map V.str)
 | []=>.nil
 | _::_=>.cons .str zZ
def OJ{K:qk}{mg:QQZ}{x:Str}{a:lf}{ss:QQQ}(h:mg x=ga (.ref a))(q:vo K (λ_=>Fa) a (ss.map V.str)):KD K mg x (.tup (ss.map D.str)):=
 ⟨.ref a,_,h,Z',λ_=>.tup (Jm q) zZ⟩
variable {d:D}{i:zn}{td tk:T3}{F:T0 (Str × QQQ)}
def sA(hg:Gl X x)(h:KD X.K X.mg x d)(hd:zb x:=by decide):E3 X (.Name x pos) (c3 d):=by obtain⟨v,u,hm,r,hh⟩:=h;exact PE.mono (EK hg hm r hd) λY H Q' zz=>x7 zz λU M Q hs hm ht k=>k _ H _ M (hh H) hm .refl ht
def Wb(F:T0 (Str×QQQ))(ta:T3):T3:=λU M Q=>ta U M λx M1=>match x with|.str k=>Q (.bl (KTD.datumAt k F).isSome) M1|_=>False
def UQ(F:T0 (Str×QQQ))(ta:T3):T3:=λU M Q=>ta U M λx M1=>match x with|.str k=>(KTD.datumAt k F).elim False λss=>Q (.tup (ss.map D.str)) M1|_=>False
def Mf(T:L7 X.K X.mg x F)(hg:Gl X x)(he:E3 X e ta)(hd:zb x:=by decide)(hmk:wT .In (.Name x p)=pc:=by rfl):E3 X (.Compare e [.In] [.Name x p] pos) (Wb F ta):=by
 obtain⟨a,hm,T⟩:=G2 T;refine PE.mono (Jz (r:=λy z H Q=>∃k,y=.str k/\z=.ref a/\Q (.bl (KTD.datumAt k F).isSome) H) (λXn s Y H y z v u Q I ry rz ⟨k,e1,e2,q⟩=>?_) he (EK (v:=.ref a) hg hm Z' hd) hmk) λY H Q' zz=>x7 zz λU M Q hs hm ht k=>⟨U,M,_,hs,hm,ht,λv H1 d M1 hd Xp e1 q1=>?_⟩
 .subst e1 e2;obtain⟨t,rfl⟩:=ry;obtain rfl:u=Value.ref a:=rz;exact Rc (T s.heap I.mR) ⟨.bl (KTD.datumAt k F).isSome,H,I.tok _,Z',q⟩
 .cases d with
  | str k'=>exact⟨k',hd.str_inv,Z',k _ _ _ _ .bl Xp e1 q1⟩
  | _=>exact q1.elim
def Kp(T:L7 X.K X.mg x F)(hg:Gl X x)(he:E3 X e ta)(hd:zb x:=by decide)(hs:A8 e:=by exact λ_ _=>rfl):E3 X (.Subscript (.Name x p) e pos) (UQ F ta):=by
 obtain⟨a,hm,T⟩:=G2 T;refine PE.mono (K' (r:=λz y H Q=>∃k ss,y=.str k/\z=.ref a/\KTD.datumAt k F=ga ss/\∀t,vo X.K H t (ss.map V.str)->Q (.ref t) H) (λvalue Xz Xn s Y H z y o i Q I rz ry ⟨k,ss,e1,e2,e3,q⟩ hs=>?_) (EK (v:=.ref a) hg hm Z' hd) he hs) λY H Q' zz=>x7 zz λU M Q hs hm ht k=>⟨U,M,_,hs,hm,ht,λv H1 d M1 hd Xp e1 q1=>?_⟩
 .subst e1 e2;obtain⟨t,rfl⟩:=ry;obtain rfl:o=Value.ref a:=rz;have hT:=yC (s:=s) (T s.heap I.mR);have h2:Ch (pi X.prog X.w) X.A (Y' (.ref a) (.str k t)) (EP X Xn Y Q) X.xe s:=NG (T s.heap I.mR) e3 λv ⟨t',e4,q4⟩=>⟨.ref t',H,I.tok _,e4,q t' (Jm q4)⟩;unfold subscriptTail;refine cX ?_;rw[jZ hT.not_modules];refine cX (jO hT jq.lookup ?_);have Xs:Ch (pi X.prog X.w) X.A (subscripted Xz pc (.ref a) (.str k t)) (λr s₃=>Ch (pi X.prog X.w) X.A (letTemporaryGo value (.ref a) r>>=λ_=>pure r) (EP X Xn Y Q) X.xe s₃) X.xe s:=by rw[hs];exact wpAny_operating (eC h2 (λr s₃ h₃=>cX (kc (dw h₃))) λ_ _ x=>x)
  first
   | exact dw (cX Xs)
   | exact cX (dw (cX Xs))
   | exact cX Xs
 .cases d with
  | str k'=>obtain⟨ss,e4,q2⟩:=qx q1;exact⟨k',ss,hd.str_inv,Z',e4,λt qt=>k _ _ _ _ (.tup qt zZ) Xp e1 q2⟩
  | _=>exact q1.elim
noncomputable def xp(M:Mp)(a:lf):Option (T0 (qL×D)):=match M a with
 | some (.dk kvs)=>ga kvs
 | _=>Fa
noncomputable def sV(kvs:T0 (qL×D))(k:qL):Option D:=(kvs.find? λp=>decide (p.1=k)).map (·.2)
def ww{K:qk}{kvs:T0 (qL×D)}(hm:HM K H M)(h:xp M a=ga kvs):∃vs,H a=ga (.dK vs)/\vs.map (·.1)=kvs.map (·.1)/\qd K H (kvs.map (·.2)) (vs.map (·.2)):=by
 unfold xp at h;cases e:M a with
 | none=>rw[e]at h;cases h
 | some c=>
  rw[e]at h;have ok:=hm a c e;cases c with
  | dk es=>cases h;exact ok
  | ins _ _=>cases h
  | lst _=>cases h
  | exc _=>cases h
theorem Bm{K:qk}{k:qL}:∀{kvs:T0 (qL×D)} {vs:T0 (qL×V)},vs.map (·.1)=kvs.map (·.1)->qd K H (kvs.map (·.2)) (vs.map (·.2))->(∀d,sV kvs k=ga d->∃v,wN vs k=ga v/\rH K H d v)/\(sV kvs k=Fa->wN vs k=Fa)
 | [],[],_,_=>⟨λd z=>(by cases z),λ_=>rfl⟩
 | [],_::_,e,_=>by cases e
 | _::_,[],e,_=>by cases e
 | (j,d)::kvs,(j',v)::vs,e,h=>by
  have e1:j'=j:=by simpa using(gK e).1
  subst e1;obtain⟨x,r,e2,h1,h2⟩:=h.inv;obtain⟨e3,e4⟩:=gK e2;subst e3 e4;have ih:=Bm (k:=k) (kvs:=kvs) (vs:=vs) (gK e).2 h2;by_cases hk:j'=k
  .have g:sV ((j',d)::kvs) k=ga d:=by simp[sV,hk]
   have g':wN ((j',v)::vs) k=ga v:=by simp[wN,hk]
   rw[g,g'];exact⟨λd' z=>by cases z;exact⟨v,Z',h1⟩,λz=>by cases z⟩
  .have g:sV ((j',d)::kvs) k=sV kvs k:=by simp[sV,hk]
   have g':wN ((j',v)::vs) k=wN vs k:=by simp[wN,hk]
   rw[g,g'];exact ih
def La(x y:D)(M:Mp)(Q:DK):Prop:=match x,y with
 | .ref a,.str k=>(xp M a).elim False λkvs=>(sV kvs (.inr k)).elim False λd=>Q d M
 | _,_=>False
def Vf(td tk:T3):T3:=λU M Q=>td U M λx M1=>tk U M1 λy M2=>La x y M2 Q
def zC(hu:X.A.units+9<wP)(ho:E3 X o td)(hi:E3 X i tk)(hs:A8 i:=by exact λ_ _=>rfl):E3 X (.Subscript o i pos) (Vf td tk):=by
 refine PE.mono (K' (r:=R3 X.K La) (λvalue Xz Xn s Y H vx vy v u Q' I rx ry h hs=>?_) ho hi hs) Gs;obtain⟨x,y,M,Q,hx,hy,hm,q,k⟩:=h;unfold La at q;split at q
 .rename_i a0 k0;obtain⟨kvs,e1,q⟩:=qx q;obtain⟨d,e2,q⟩:=qx q;cases hx.mw;cases hy.str_inv;obtain⟨vs,h1,h2,h3⟩:=ww hm e1;obtain⟨w,e3,hw⟩:=(Bm h2 h3).1 d e2;refine ON (by lia) value Xz Xn s Y H _ _ v u Q' I rx ry ⟨_,w,Z',?_,k _ _ _ _ hw hm .refl q⟩ hs;have g:=AN.k (k:=Sum.inr k0) h1;rw[e3]at g;exact g
 .exact q.elim
def Rz(Y2:Bool)(x y:D)(M:Mp)(Q:DK):Prop:=match x,y with
 | .str k,.ref a=>(xp M a).elim False λkvs=>Q (.bl (if Y2 then !(sV kvs (.inr k)).isSome else(sV kvs (.inr k)).isSome)) M
 | _,_=>False
def Md{K:qk}{k:qL}{kvs:T0 (qL×D)}{vs:T0 (qL×V)}(h2:vs.map (·.1)=kvs.map (·.1))(h3:qd K H (kvs.map (·.2)) (vs.map (·.2))):(wN vs k).isSome=(sV kvs k).isSome:=by
 obtain⟨a,b⟩:=Bm (k:=k) h2 h3;cases e:sV kvs k with
 | none=>rw[b e];rfl
 | some d=>obtain⟨v,e3,_⟩:=a d e;rw[e3];rfl
def Wm(Y2:Bool)(tk td:T3):T3:=λU M Q=>tk U M λx M1=>td U M1 λy M2=>Rz Y2 x y M2 Q
def Ux(hu:X.A.units+9<wP):xo X (wp .In) (R3 X.K (Rz pc)):=λXn s Y H vx vy v u Q' I rx ry h=>by
 obtain⟨x,y,M,Q,hx,hy,hm,q,k⟩:=h;unfold Rz at q;split at q
 .obtain⟨kvs,e1,q⟩:=qx q;cases hy.mw;cases hx.str_inv;obtain⟨vs,h1,h2,h3⟩:=ww hm e1;refine Tc (by lia) Xn s Y H _ _ v u Q' I rx ry ⟨_,_,Z',AN.k (k:=Sum.inr _) h1,?_⟩;rw[Md h2 h3];exact k _ _ _ _ .bl hm .refl q
 .exact q.elim
def MH(hu:X.A.units+9<wP)(hi:E3 X i tk)(ho:E3 X o td)(hm:wT .In o=pc:=by first|exact Ht _|with_unfolding_all rfl):B3 X (.Compare i [.In] [o] pos) (b3 (Wm pc tk td)):=PT.mono (JB (Ux hu) hi ho hm) λY H Q' zz=>x7 zz λU M Q hs hm ht k=>
 Gs Y H _ ⟨U,M,_,hs,hm,ht,λv H1 d M1 hd Xp e1 q1=>by
  cases d with
  | bl c=>exact⟨c,hd.my,k c H1 M1 Xp e1 q1⟩
  | _=>exact q1.elim⟩
noncomputable def wV:T0 D->Option (T0 (qL×D))
 | []=>ga []
 | .tup [.str k,d]::r=>(wV r).map ((.inr k,d)::·)
 | _::_=>Fa
theorem D5{K:qk}:∀{es:T0 D} {kvs:T0 (qL×D)} {xs:T0 V},wV es=ga kvs->qd K H es xs->∃(ts:QXQ) (vs:T0 (qL×V)),xs=ts.map V.ref/\ts.length=vs.length/\vs.map (·.1)=kvs.map (·.1)/\qd K H (kvs.map (·.2)) (vs.map (·.2))/\
  ∀(j:Nat) (t:lf) (p:qL×V),ts[j]?=ga t->vs[j]?=ga p->vo K H t [kV p.1,p.2]
 | [],_,_,e,h=>by cases e;exact⟨[],[],h.nil_inv,Z',Z',.nil,λj t p z=>by simp at z⟩
 | d::es,kvs,xs,e,h=>by
  obtain⟨x,r,rfl,h1,h2⟩:=h.inv;unfold wV at e;split at e
  .rename_i z;cases z
  .rename_i k d' r' z;cases z;cases q:wV es with
   | none=>rw[q]at e;cases e
   | some kvs'=>
    rw[q]at e;cases e;obtain⟨ts,vs,e1,e2,e3,e4,e5⟩:=D5 q h2;obtain⟨a,ys,rfl,g1,g2⟩:=h1.mF;obtain⟨y,r1,rfl,g3,g4⟩:=g2.inv;obtain⟨w,r2,rfl,g5,g6⟩:=g4.inv;cases g6.nil_inv;cases g3.str_inv;refine⟨a::ts,(.inr k,w)::vs,by rw[e1];rfl,by simpa using e2,by rw[d6,d6,e3],.cons g5 e4,λj t p z1 z2=>?_⟩;cases j with
    | zero=>
     have z1':a=t:=by simpa using z1
     have z2':(Sum.inr k,w)=p:=by simpa using z2
     subst z1' z2';exact g1
    | succ j=>exact e5 j t p (by simpa using z1) (by simpa using z2)
  .cases e
def QX(ds:T0 D)(M:Mp)(Q:DK):Prop:=match ds with
 | [.ref a]=>(oa M a).elim False λes=>(wV es).elim False λkvs=>(kvs.map (·.1)).Nodup/\∀p,M p=Fa->Q (.ref p) (pq M p (.dk kvs))
 | _=>False
def FJ(hc:X.calm=Db):C3 X (.type "dict") QX:=by
 intro Xn s Y H vs us Q' I rv h;obtain⟨ds,M,Q,hd,hm,q,k⟩:=h;unfold QX at q;split at q
 .obtain⟨es,e1,q⟩:=qx q;obtain⟨kvs,e2,hnd,q⟩:=qx q;obtain⟨v,rfl,hv⟩:=rL hd;cases hv.mw;obtain⟨xs,h1,h2,_⟩:=pU hm e1;obtain⟨ts,ws,rfl,f2,f3,f4,f5⟩:=D5 e2 h2;refine Hn hc Xn s Y H _ us Q' I rv ⟨_,ts,ws,Z',h1,f2,f5,by rw[f3];exact hnd,λd hd=>?_⟩;have e:qJ X.K H (upd H d (.dK ws)):=.new hd;exact k _ _ _ _ .ref (hm.new (c:=.dk kvs) hd ⟨_,pT,f3,f4.mono e⟩) e (q d (hm.fresh hd))
 .exact q.elim
def Rh:Tl "set"=ga (.type "set"):=by decide+kernel
noncomputable def BK:T0 D->Option (QQQ)
 | []=>ga []
 | .str x::r=>(BK r).map (x::·)
 | _::_=>Fa
theorem BR:∀ss:QQQ,BK (ss.map D.str)=ga ss
 | []=>rfl
 | x::r=>by show(BK (r.map D.str)).map (x::·)=_;rw[BR r];rfl
theorem F5{K:qk}:∀{ds:T0 D} {ss:QQQ} {xs:T0 V},BK ds=ga ss->qd K H ds xs->xs=ss.map V.str
 | [],_,_,e,h=>by cases e;exact h.nil_inv
 | d::ds,_,_,e,h=>by
  obtain⟨x,r,rfl,h1,h2⟩:=h.inv;cases d with
  | str z=>
   unfold BK at e;cases q:BK ds with
   | none=>rw[q]at e;cases e
   | some ss=>rw[q]at e;cases e;rw[h1.str_inv,F5 q h2];rfl
  | _=>cases e
def TQ(ta:T3):T3:=λU M Q=>ta U M λx M1=>(Nu M1 x).elim False λes=>(BK es).elim False λss=>ss.length<4000/\Q (.int (tz ss).length) M1
def Ky(hc:X.calm=Db)(he:E3 X e ta)(hg1:Gl X "len")(Xp:X.mg "len"=Fa)(hg2:Gl X "set")(XA:X.mg "set"=Fa)(b1:Tl "len"=ga (.builtin "len"))(b2:Tl "set"=ga (.type "set")) (hs:Tk [e] X.env=[(pc,No e X.env)]:=by rfl):E3 X (.Call (.Name "len" p) [.Call (.Name "set" p2) [e] [] Zb] [] pos) (TQ ta):=
 PE.mono (J' hc he hg1 Xp hg2 XA b1 b2 hs) λY H Q' zz=>x7 zz λU M Q hs hm ht k=>⟨U,M,_,hs,hm,ht,λv H1 d M1 hd Xp e1 q1=>by
  obtain⟨es,e2,q1⟩:=qx q1;obtain⟨ss,e3,hz,q1⟩:=qx q1;obtain⟨a,xs,rfl,h1,h2⟩:=Eh Xp hd e2;rw[F5 e3 h2]at h1;have z:XXh=4096:=rfl;exact⟨a,ss,Z',h1,by lia,k _ _ _ _ .int Xp e1 q1⟩⟩
def S5(x:D)(ds:T0 D)(M:Mp)(Q:DK):Prop:=match x,ds with
 | .ref a,[y]=>(oa M a).elim False λes=>es.length<Uf/\Q .mC (pq M a (.lst (es++[y])))
 | _,_=>False
def pN{es:T0 D}(h:oa M a=ga es):M a=ga (.lst es):=by
 unfold oa at h;split at h
 .rename_i e;rw[e];cases h;rfl
 .cases h
def yb{K:qk}{es:T0 D}(hm:HM K H M)(h:oa M a=ga es):∃xs,H a=ga (.lst xs)/\qd K H es xs:=hm a _ (pN h)
def JH:M3 X "list.append" S5:=by
 intro Xn s Y H vx vs v us Q' I rx rv h;obtain⟨x,ds,M,Q,hx,hd,hm,q,k⟩:=h;unfold S5 at q;split at q
 .obtain⟨es,e1,hz,q⟩:=qx q;obtain⟨w,rfl,hw⟩:=rL hd;cases hx.mw;obtain⟨xs,h1,h2⟩:=yb hm e1;refine KF Xn s Y H _ _ v us Q' I rx rv ⟨_,xs,w,Z',Z',h1,by rw[<-h2.length];exact hz,?_⟩;obtain⟨XA,ex⟩:=hm.put (c:=.lst (es++[_])) (pN e1) λex=>⟨_,pT,(h2.mono ex).snoc (hw.mono ex)⟩;exact k _ _ _ _ .mC XA ex q
 .exact q.elim
def qH(ho:E3 X o ta)(ha:A3 X (e::es) t)(XI:wE o "append" X.env (No o X.env)=No o X.env:=by rfl)
  (YH:((wv pos (Tk (e::es) X.env)).all (λx=>!x.1)&&(xL pos (Op [] X.env)).all (λx=>x.1.isSome)&&decide ((e::es).length+([]:T0 XXb).length+(if ([]:T0 XXb).isEmpty then 0 else 1)<30))=Db:=by rfl)
  (XZ:(Xq.endLine==pos.line)=Db:=by rfl) (hs:A9 X e es:=by rfl) (XE:CP X pos es:=by rfl):
  E3 X (.Call (.Attribute o "append" Xq) (e::es) [] pos) (VN S5 ta t):=QY PySem.F.slot_list_append PySem.F.type_list_append JH ho ha XI YH XZ hs XE
def qz.none{M M2:Mp}{q:lf}(s:qz M M2)(h:M2 q=Fa):M q=Fa:=by
 cases e:M q with
 | none=>rfl
 | some c=>rw[s q c e]at h;cases h
def qz.upd{M M2:Mp}{c:uI}(s:qz M M2):qz (pq M q c) (pq M2 q c):=λx d h=>by
 by_cases e:x=q
 .subst e;rw[pK]at h ⊢;exact h
 .rw[tQ e]at h ⊢;exact s x d h
def qz.dk{ds:T0 (qL×D)}(s:qz M M')(h:xp M a=ga ds):xp M' a=ga ds:=by
 unfold xp at h ⊢;cases e:M a with
 | none=>rw[e]at h;cases h
 | some c=>rw[s a c e];rw[e]at h;exact h
def CC{p:lf}{ds:T0 (qL×D)}:xp (pq M p (.dk ds)) p=ga ds:=by unfold xp;rw[pK]
def qV(p:lf)(M M':Mp):Prop:=∀b c,b≠p->M b=ga c->M' b=ga c
def qz.keep{p:lf}(s:qz M M'):qV p M M':=λb c _ h=>s b c h
def qV.trans{M M1 M2:Mp}{p:lf}(a:qV p M M1)(b:qV p M1 M2):qV p M M2:=λx c n h=>b x c n (a x c n h)
def qV.put{p:lf}{c:uI}:qV p M (pq M p c):=λb d n h=>by rw[tQ n];exact h
def qV.new{M:Mp}{p:lf}(h:M p=Fa){M':Mp}(k:qV p M M'):qz M M':=λb c e=>k b c (λz=>by rw[z,h]at e;cases e) e
def qV.lst{p a:lf}{ds:T0 D}(k:qV p M M')(n:a≠p)(h:oa M a=ga ds):oa M' a=ga ds:=by have:=k a _ n (pN h);unfold oa;rw[this]
def qV.dk{p a:lf}{ds:T0 (qL×D)}(k:qV p M M')(n:a≠p)(h:xp M a=ga ds):xp M' a=ga ds:=by
 unfold xp at h ⊢;cases e:M a with
 | none=>rw[e]at h;cases h
 | some c=>rw[k a c n e];rw[e]at h;exact h
def pO{a p C:lf}{ds:T0 D}{fs:T0 (Str×D)}(h:oa M a=ga ds)(hp:M p=ga (.ins C fs)):a≠p:=λz=>by subst z;rw[pN h]at hp;cases hp
def CM{a p C:lf}{ds:T0 (qL×D)}{fs:T0 (Str×D)}(h:xp M a=ga ds)(hp:M p=ga (.ins C fs)):a≠p:=λz=>by subst z;unfold xp at h;rw[hp]at h;cases h
def sj{M:Mp}{p:lf}{ds:T0 D}(h:M p=ga (.lst ds)):oa M p=ga ds:=by unfold oa;rw[h]
def Bu{M:Mp}{p:lf}{ds:T0 (qL×D)}(h:M p=ga (.dk ds)):xp M p=ga ds:=by unfold xp;rw[h]
def sQ{N:Mp}{p q C:lf}{fs fs':T0 (Str×D)}{c:uI}(hp:N p=ga (.ins C fs))(hq:N q=Fa):
  q≠p/\pq N q c p=ga (.ins C fs)/\qV p N (pq (pq N q c) p (.ins C fs'))/\pq (pq N q c) p (.ins C fs') q=ga c/\pq (pq N q c) p (.ins C fs') p=ga (.ins C fs'):=by
 have n:p≠q:=FL hp hq;refine⟨dX n,by rw[tQ n];exact hp,(qz.new hq).keep.trans .put,by rw[tQ (dX n),pK],pK⟩
theorem zO{g:DE}{te:T3}{ok:Mp->Prop}{Q:DK}(all:T0 D)(J:T0 D->T0 D->vj->Mp->Prop)(mH:∀p acc U M,J p acc U M->ok M):∀(ds pre acc:T0 D) (U:vj) (M:Mp),pre++ds=all->acc.length+ds.length<=Uf->J pre acc U M->
  (∀pre d post,pre++d::post=all->∀acc U M,J pre acc U M->∀k:vj->DK,(∀δ2 y M4,J (pre++[d]) (acc++[y]) δ2 M4->k δ2 y M4)->g d U M λδ2 M2=>te δ2 M2 (k δ2))->
  (∀acc U M,J all acc U M->∀p,M p=Fa->Q (.ref p) (pq M p (.lst acc)))->uV g Cj te ok Q ds acc U M
 | [],pre,acc,U,M,e,hl,j,_,hq=>⟨by simpa using hl,hq acc U M (by rw[<-e,eN];exact j)⟩
 | d::r,pre,acc,U,M,e,hl,j,ht,hq=>by rw[eA]at hl;refine⟨by lia,?_⟩;refine ht pre d r e acc U M j (λδ2 y M4=>ok M4/\uV g Cj te ok Q r (acc++[y]) δ2 M4) λδ2 y M4 j'=>⟨mH _ _ _ _ j',zO all J mH r (pre++[d]) (acc++[y]) δ2 M4 (by rw[<-e,eY];rfl) ?_ j' ht hq⟩;rw[c9,dM];lia
noncomputable def Nv:Nat->D->Bool
 | _,.mC=>Db
 | _,.bl _=>Db
 | _,.int _=>Db
 | _,.str _=>Db
 | n+1,.tup ds=>ds.all (Nv n)
 | _,_=>pc
theorem yB{f:D->D->Option Bool}:∀ds:T0 D,(∀d∈ds,f d d=ga Db)->sy f ds ds=ga Db
 | [],_=>rfl
 | d::r,h=>by show(f d d).bind (λp=>(sy f r r).map λq=>p&&q)=ga Db;rw[h d dH,yB r λe he=>h e (dF _ he)];rfl
theorem B4:∀(n:Nat) (d:D),Nv n d=Db->za M (n+1) d d=ga Db
 | _,.mC,_=>rfl
 | _,.bl _,_=>by simp[za]
 | _,.int _,_=>by simp[za]
 | _,.str _,_=>by simp[za]
 | n+1,.tup ds,h=>by have h:ds.all (Nv n)=Db:=h;show(sy (za M (n+1)) ds ds).map (λp=>p&&ds.length==ds.length)=ga Db;rw[yB ds λd hd=>B4 n d (eX.mp h d hd)];simp
 | 0,.tup _,h=>by cases h
 | 0,.ref _,h=>by cases h
 | _+1,.ref _,h=>by cases h
 | 0,.ty _,h=>by cases h
 | _+1,.ty _,h=>by cases h
 | 0,.rl _,h=>by cases h
 | _+1,.rl _,h=>by cases h
def J8{ds:T0 D}(ha:oa M a=ga ds)(hb:oa M b=ga ds)(h:∀d∈ds,za M n d d=ga Db):za M (n+1) (.ref a) (.ref b)=ga Db:=by show(oa M a).bind (λi=>(oa M b).bind λj=>if i.length=j.length then sy (za M n) i j else ga pc)=ga Db;rw[ha,hb];show(if ds.length=ds.length then sy (za M n) ds ds else ga pc)=ga Db;rw[df Z'];exact yB ds h
def RH(tc:Ap)(tb:xj):xj:=λE U M=>∃W:Nat->vj->Mp->Prop,(∃m,W m U M)/\∀m U M,W m U M->
 tc U M λb M1=>if b=Db then tb {E with nx:=λδ' M'=>∃m',m'<m/\W m' δ' M',ct:=λδ' M'=>∃m',m'<m/\W m' δ' M',bk:=E.nx} U M1 else E.nx U M1
def Mn{tc:Ap}{tb:xj}(hp:PassesOwn (pi X.prog X.w) X.A X.env X.xe)(hc:B3 X c tc)(hb:G8 X body tb):S3 X (.While c body [] pos) (RH tc tb):=
 PS.mono (Np hp hc hb) λD' Y H ⟨U,M,E,hs,hm,⟨W,⟨m0,w0⟩,turn⟩,k1,k2,k3,k4⟩=>by
 refine⟨λm σ' H'=>∃δ' M',zQ X.K H' σ' δ'/\HM X.K H' M'/\qJ X.K H H'/\σ'.length=Y.length/\W m δ' M',⟨m0,U,M,hs,hm,.refl,Z',w0⟩,?_⟩
 rintro m σ1 H1 ⟨δ1,M1,hs1,Xp,e1,l1,w1⟩
 refine⟨δ1,M1,_,hs1,Xp,turn m δ1 M1 w1,λb H2 M2 XA e2 q2=>?_⟩;cases b with
 | false=>rw[de dC]at q2 ⊢;exact k1 σ1 H2 δ1 M2 (hs1.mono e2) XA (e1.trans e2) l1 q2
 | true=>
  rw[df Z']at q2 ⊢;refine⟨λσ' H'=>∃δ' M',zQ X.K H' σ' δ'/\HM X.K H' M'/\qJ X.K H H'/\σ'.length=Y.length/\∃m',m'<m/\W m' δ' M',?_,δ1,M2,_,hs1.mono e2,XA,q2,?_,?_,?_,?_⟩
  .rintro σ' H' ⟨δ',M',a1,a2,a3,a4,m',lt,w⟩
   exact⟨m',lt,δ',M',a1,a2,a3,a4,w⟩
  .exact λσ' H' δ' M' y1 y2 y3 y4 y5=>⟨δ',M',y1,y2,e1.trans (e2.trans y3),by rw[y4,l1],y5⟩
  .exact λv H' d M' y1 y2 y3 y4=>k2 v H' d M' y1 y2 (e1.trans (e2.trans y3)) y4
  .exact λσ' H' δ' M' y1 y2 y3 y4 y5=>k1 σ' H' δ' M' y1 y2 (e1.trans (e2.trans y3)) (by rw[y4,l1]) y5
  .exact λσ' H' δ' M' y1 y2 y3 y4 y5=>⟨δ',M',y1,y2,e1.trans (e2.trans y3),by rw[y4,l1],y5⟩
noncomputable def PC(op:XXe)(x y:D):Option D:=match op,x,y with
 | .Add,.int i,.int j=>ga (.int (i+j))
 | .Sub,.int i,.int j=>ga (.int (i - j))
 | _,_,_=>Fa
def SG(op:XXe):V->V->Hp->VK->Prop:=λvx vy H Q=>match op,vx,vy with
 | .Add,.int i,.int j=>Q (.int (i+j)) H
 | .Sub,.int i,.int j=>Q (.int (i - j)) H
 | _,_,_=>False
def LZ:OG X op (SG op):=by
 intro Xn s Y H x y u v Q I rx ry h;unfold SG at h;split at h
 .exact Rn Xn s Y H _ _ u v Q I rx ry ⟨_,_,Z',Z',h⟩
 .exact Ra Xn s Y H _ _ u v Q I rx ry ⟨_,_,Z',Z',h⟩
 .exact h.elim
def II{K:qk}{x y z:D}{Q:VK}(hx:rH K H x vx)(hy:rH K H y vy)(e:PC op x y=ga z)(k:∀vz,rH K H z vz->Q vz H):SG op vx vy H Q:=by
 unfold PC at e;split at e
 .cases e;cases hx.int_inv;cases hy.int_inv;exact k _ .int
 .cases e;cases hx.int_inv;cases hy.int_inv;exact k _ .int
 .cases e
def UJ(K:qk)(f:Str)(op:XXe)(ta tv:T3):xj:=λE U M=>ta U M λx M1=>match x with
 | .ref a=>Aa (M1 a) λC fs=>tU K C f/\(fs.lookup f).elim False λd=>tv U M1 λy M2=>(PC op d y).elim False λz=>Aa (M2 a) λC' fs'=>C'=C/\fs'.length<1000/\E.nx U (pq M2 a (.ins C (vP f z fs')))
 | _=>False
def Ed{f:Str}(ha:E3 X o ta)(hv:E3 X value tv):S3 X (.AugAssign (.Attribute o f Yq) op value pos) (UJ X.K f op ta tv):=
 PS.mono (Kf ha hv LZ) λD' Y H zz=>JG zz λU M E hs hm ht k1 k2 k3 k4=>
 ⟨U,M,_,hs,hm,ht,λv H1 d M1 hd Xp e1 q1=>by
  cases d with
  | ref a=>
   cases hd.mw;obtain⟨C,fs,e,q1⟩:=xK q1;obtain⟨na,q1⟩:=q1;obtain⟨d,ed,q1⟩:=qx q1;obtain⟨dx,vs,h1,cl,nn,fo⟩:=Xp a _ e;obtain⟨w,ew,hw⟩:=(wK fo).1 d ed;refine⟨a,C,dx,vs,w,Z',h1,cl,na,ew,U,M1,_,hs.mono e1,Xp,q1,λu H2 y M2 hy XA e2 q2=>?_⟩;obtain⟨z,ez,q2⟩:=qx q2;obtain⟨C',fs',e',q2⟩:=xK q2;obtain⟨rfl,hl,q2⟩:=q2;refine II (hw.mono e2) hy ez λvz hz=>?_;obtain⟨Z6,vs',Ya,cl',nn',fo'⟩:=XA a _ e';have Xt:vs'.length=fs'.length:=by have:=eI List.length fo'.1;simpa using this
   refine⟨Z6,vs',Ya,by lia,?_⟩;obtain⟨XW,e3⟩:=XA.put (p:=a) (o:=.ins C' Z6 (vq f vz vs')) (c:=.ins C' (vP f z fs')) e' λx=>⟨Z6,_,pT,cl',λg hg=>by
    rcases Cz hg with q|q
    .rw[q];exact na
    .exact nn' g q,E9 (hz.mono x) (fo'.mono x)⟩
   exact k1 Y _ U _ (hs.mono (e1.trans (e2.trans e3))) XW (e1.trans (e2.trans e3)) Z' q2
  | _=>exact q1.elim⟩
theorem tF{i:Nat}{tt:Ap}{te:T3}{ok:Mp->Prop}{Q:DK}{f:D->D}{t:D->Bool}{M:Mp}(mH:ok M):∀(ds acc:T0 D) (U:vj),acc.length+ds.length<=Uf->
  (∀d∈ds,∀k:Bool->Mp->Prop,k (t d) M->tt (U.set i (ga d)) M k)->(∀d∈ds,t d=Db->∀k:DK,k (f d) M->te (U.set i (ga d)) M k)->
  (∀p,M p=Fa->Q (.ref p) (pq M p (.lst (acc++(ds.filter t).map f))))->uV (rG i) tt te ok Q ds acc U M
 | [],acc,U,hl,_,_,hq=>⟨by simpa using hl,by simpa using hq⟩
 | d::r,acc,U,hl,ht,he,hq=>by
  rw[eA]at hl;refine⟨by lia,?_⟩;show tt (U.set i (ga d)) M _;refine ht d dH _ ?_;have z:∀e:D,(U.set i (ga d)).set i (ga e)=U.set i (ga e):=λe=>by rw[jC]
  cases q:t d with
  | true=>
   rw[df Z'];refine he d dH q _ ⟨mH,tF (f:=f) (t:=t) mH r (acc++[f d]) _ ?_ (λe m k h=>?_) (λe m h0 k h=>?_) ?_⟩
   .rw[c9,dM];lia
   .rw[z];exact ht e (dF _ m) k h
   .rw[z];exact he e (dF _ m) h0 k h
   .intro p hp;have:=hq p hp;rw[iD q]at this
    simpa using this
  | false=>
   rw[de dC];refine⟨mH,tF (f:=f) (t:=t) mH r acc _ (by lia) (λe m k h=>?_) (λe m h0 k h=>?_) ?_⟩
   .rw[z];exact ht e (dF _ m) k h
   .rw[z];exact he e (dF _ m) h0 k h
   .intro p hp;have:=hq p hp;rw[iE (by rw[q];exact dC)]at this;exact this
section
variable {a:zn}
def Ww(ta:T3):T3:=λU M Q=>ta U M λx M1=>match x with|.int i=>Q (.int (-i)) M1|_=>False
def Fg(ha:E3 X a ta):E3 X (.UnaryOp .USub a pos) (Ww ta):=PE.mono (UZ RM ha) λY H Q' zz=>x7 zz λU M Q hs hm ht k=>
 ⟨U,M,_,hs,hm,ht,λv H1 d M1 hd Xp e1 q1=>by
  cases d with
  | int i=>cases hd.int_inv;exact⟨i,Z',k _ H1 _ M1 .int Xp e1 q1⟩
  | _=>exact q1.elim⟩
end
end L3
namespace L2
open PySem.W
variable {prog:Pg}{w:Wo}{A:Ar}{E:QQX}{s:Sd}
end L2
namespace L3
open L2
variable {X:Cx}{pos:Pos}{a b o i:zn}{ta tb ti to:T3}
def UU(to ti:T3):DE:=λd U M Q=>to U M λx M1=>ti U M1 λy M2=>match x,y with
 | .ref p,.int k=>(oa M2 p).elim False λes=>(D3 es.length k).elim False λj=>Q U (pq M2 p (.lst (es.set j d)))
 | _,_=>False
theorem qd.set{K:qk}(hv:rH K H d v):∀{ds:T0 D} {xs:T0 V} (j:Nat),qd K H ds xs->qd K H (ds.set j d) (xs.set j v)
 | [],_,j,h=>by rw[h.nil_inv];simp only[List.set_nil];exact .nil
 | e::ds,_,0,h=>by obtain⟨x,r,rfl,h1,h2⟩:=h.inv;exact .cons hv h2
 | e::ds,_,j+1,h=>by obtain⟨x,r,rfl,h1,h2⟩:=h.inv;exact .cons h1 (qd.set hv j h2)
def Rg(ho:E3 X o to)(hi:E3 X i ti) (ha:∀v,assign (.Subscript o i pos) X.env v=(do
   let ov<-At [v] (No o X.env);let iv<-At [v,ov] (No i X.env)
   X' pos
   At [v,ov,iv] (setItem ov iv v)
   release [v,ov,iv] []):=by intro _;rfl):G3 X (.Subscript o i pos) (UU to ti):=
 PG.mono (SZ ho hi Gn ha) λv Y H Q' ⟨d,U,M,Q,hd,hs,hm,ht,k⟩=>
 ⟨U,M,_,hs,hm,ht,λvx H1 x M1 hx Xp e1 q1=>⟨U,M1,_,hs.mono e1,Xp,q1,λvy H2 y M2 hy XA e2 q2=>by
  cases x with
  | ref p=>
   cases y with
   | int j0=>obtain⟨es,f1,q2⟩:=qx q2;obtain⟨j,f2,q2⟩:=qx q2;cases(hx.mono e2).mw;cases hy.int_inv;obtain⟨xs,h1,h2⟩:=yb XA f1;refine⟨p,xs,j0,j,Z',Z',h1,by rw[<-h2.length];exact f2,?_⟩;have hd2:=hd.mono (e1.trans e2);obtain⟨XW,e3⟩:=XA.put (o:=.lst (xs.set j v)) (c:=.lst (es.set j d)) (pN f1) λex=>⟨_,pT,(h2.mono ex).set (hd2.mono ex) j⟩;exact k Y _ U _ (hs.mono (e1.trans (e2.trans e3))) XW (e1.trans (e2.trans e3)) Z' q2
   | _=>exact q2.elim
  | _=>exact q2.elim⟩⟩
def Uy(ds:T0 D)(M:Mp)(Q:DK):Prop:=match ds with
 | [.int i]=>Q (.int i) M
 | [.bl k]=>Q (.int (if k then 1 else 0)) M
 | _=>False
def Tn:C3 X (.type "int") Uy:=by
 intro Xn s Y H vs us Q' I rv h;obtain⟨ds,M,Q,hd,hm,q,k⟩:=h;unfold Uy at q;split at q
 .obtain⟨v,rfl,hv⟩:=rL hd;cases hv.int_inv;exact DM Xn s Y H _ us Q' I rv (.inl ⟨_,Z',k _ _ _ _ .int hm .refl q⟩)
 .obtain⟨v,rfl,hv⟩:=rL hd;cases hv.my;exact DM Xn s Y H _ us Q' I rv (.inr ⟨_,Z',k _ _ _ _ .int hm .refl q⟩)
 .exact q.elim
end L3
namespace L2
variable {prog:Pg}{w:Wo}{A:Ar}{E:QQX}{s:Sd}{X:Cx}
end L2
namespace L3
open L2
variable {X:Cx}{pos Xq p:Pos}{a b o e i value:zn}{es:T0 zn}{ta tb ti to tv td tk:T3}{t:xf}
def Tb(x y:D)(M:Mp)(Q:DK):Prop:=match x,y with
 | .ref a,.int k=>(oa M a).elim False λes=>(0<=k/\k<=1000/\es.length<=1000)/\∀p,M p=Fa->Q (.ref p) (pq M p (.lst (List.replicate k.toNat es).flatten))
 | _,_=>False
theorem EM{K:qk}(h:qd K H ds xs):∀n:Nat,qd K H (List.replicate n ds).flatten (List.replicate n xs).flatten
 | 0=>.nil
 | n+1=>by rw[eF,eF,fL,fL];exact h.append (EM h n)
def RX:xo X (dL .Mult) (R3 X.K Tb):=λXn s Y H vx vy v u Q' I rx ry h=>by
 obtain⟨x,y,M,Q,hx,hy,hm,q,k⟩:=h;unfold Tb at q;split at q
 .obtain⟨es,e1,⟨q1,q2,q3⟩,q⟩:=qx q;cases hx.mw;cases hy.int_inv;obtain⟨xs,h1,h2⟩:=yb hm e1;have hz:=dP;have hl:=h2.length;refine NN Xn s Y H _ _ v u Q' I rx ry ⟨_,_,xs,Z',Z',h1,by lia,by lia,?_,λpp hp=>?_⟩
  .exact dZ (i9 (show xs.length<=1000 by lia) (show Int.toNat _<=1000 by lia)) (by rw[hz];decide)
  .exact k _ _ _ _ .ref (hm.new (c:=.lst _) hp ⟨_,pT,(EM h2 _).mono (.new hp)⟩) (.new hp) (q pp (hm.fresh hp))
 .exact q.elim
def Vn(ta tb:T3):T3:=λU M Q=>ta U M λx M1=>tb U M1 λy M2=>Tb x y M2 Q
def CF(ha:E3 X a ta)(hb:E3 X b tb):E3 X (.BinOp a .Mult b pos) (Vn ta tb):=PE.mono (Nj RX ha hb) Gs
def Uh:T3:=λ_ M Q=>∀p,M p=Fa->Q (.ref p) (pq M p (.dk []))
def PY:E3 X (.Dict [] [] pos) Uh:=PE.mono L9 λY H Q' zz=>x7 zz λU M Q hs hm ht k=>λp hp=>by have ex:qJ X.K H (upd H p (.dK [])):=.new hp;exact k _ _ _ _ .ref (hm.new (c:=.dk []) hp ⟨[],pT,Z',.nil⟩) ex (ht p (hm.fresh hp))
noncomputable def wz(kvs:T0 (qL×D))(k:qL)(v:D):T0 (qL×D):=if (kvs.any λkv=>decide (kv.1=k))=Db then kvs.map (λkv=>if kv.1=k then(kv.1,v)else kv)else kvs++[(k,v)]
theorem GD{κ α β:Type}{k:κ}[DecidableEq κ]:∀{xs:T0 (κ×α)} {ys:T0 (κ×β)},xs.map (·.1)=ys.map (·.1)->(xs.any λkv=>decide (kv.1=k))=ys.any λkv=>decide (kv.1=k)
 | [],[],_=>rfl
 | [],_::_,e=>by cases e
 | _::_,[],e=>by cases e
 | x::xs,y::ys,e=>by obtain⟨e1,e2⟩:=gK e;rw[gb,gb,GD e2];have e1:x.1=y.1:=e1;rw[e1]
def DT{K:qk}{k:qL}(hv:rH K H d v){kvs:T0 (qL×D)}{vs:T0 (qL×V)}(h1:vs.map (·.1)=kvs.map (·.1))(h2:qd K H (kvs.map (·.2)) (vs.map (·.2))):
  (yo vs k v).map (·.1)=(wz kvs k d).map (·.1)/\qd K H ((wz kvs k d).map (·.2)) ((yo vs k v).map (·.2)):=by
 have go:∀{kvs:T0 (qL×D)} {vs:T0 (qL×V)},vs.map (·.1)=kvs.map (·.1)->qd K H (kvs.map (·.2)) (vs.map (·.2))->
   (vs.map (λkv=>if kv.1=k then(kv.1,v)else kv)).map (·.1)=(kvs.map (λkv=>if kv.1=k then(kv.1,d)else kv)).map (·.1)/\qd K H ((kvs.map (λkv=>if kv.1=k then(kv.1,d)else kv)).map (·.2)) ((vs.map (λkv=>if kv.1=k then(kv.1,v)else kv)).map (·.2)):=λ{kvs}=>by
  induction kvs with
  | nil=>intro vs e h;cases vs with
   | nil=>exact⟨Z',.nil⟩
   | cons _ _=>cases e
  | cons c r ih=>intro vs e h;cases vs with
   | nil=>cases e
   | cons w ws=>
    obtain⟨e1,e2⟩:=gK e;obtain⟨x,xr,e3,g1,g2⟩:=h.inv;obtain⟨e4,e5⟩:=gK e3;subst e4 e5;obtain⟨i1,i2⟩:=ih e2 g2;have e1:w.1=c.1:=e1;by_cases hk:c.1=k
    .have w1:(if w.1=k then(w.1,v)else w)=(w.1,v):=df (e1.trans hk);have w2:(if c.1=k then(c.1,d)else c)=(c.1,d):=df hk;simp only[d6,w1,w2];exact⟨by rw[i1,e1],.cons hv i2⟩
    .have w1:(if w.1=k then(w.1,v)else w)=w:=de λz=>hk (e1.symm.trans z);have w2:(if c.1=k then(c.1,d)else c)=c:=de hk;simp only[d6,w1,w2];exact⟨by rw[i1,e1],.cons g1 i2⟩
 unfold yo wz;rw[GD (k:=k) h1];by_cases hk:(kvs.any λkv=>decide (kv.1=k))=Db
 .rw[df hk,df hk];exact go h1 h2
 .rw[de hk,de hk];exact⟨by rw[dI,dI,h1];rfl,by rw[dI,dI];exact h2.append (.cons hv .nil)⟩
def UA(td tk tv:T3):xj:=λD U M=>tv U M λv M1=>td U M1 λx M2=>tk U M2 λy M3=>match x,y with
 | .ref a,.str k=>(xp M3 a).elim False λkvs=>kvs.length<Uf/\D.nx U (pq M3 a (.dk (wz kvs (.inr k) v)))
 | _,_=>False
def vD{a:lf}{kvs:T0 (qL×D)}(h:xp M a=ga kvs):M a=ga (.dk kvs):=by
 unfold xp at h;split at h
 .rename_i e;rw[e];cases h;rfl
 .cases h
def Po(hu:X.A.units+9<wP)(ho:E3 X o td)(hi:E3 X i tk)(hv:E3 X value tv)(hs:Ix value (ga (.Subscript o i Xw)) pos.line X.env=pure pc:=by rfl):S3 X (.Assign [.Subscript o i Xw] value pos) (UA td tk tv):=
 PS.mono (Iu (by lia) ho hi hv hs) λD' Y H zz=>JG zz λU M D hs hm ht k1 k2 k3 k4=>
 ⟨U,M,_,hs,hm,ht,λv H1 d M1 hd Xp e1 q1=>⟨U,M1,_,hs.mono e1,Xp,q1,λvx H2 x M2 hx XA e2 q2=>⟨U,M2,_,hs.mono (e1.trans e2),XA,q2,λvy H3 y M3 hy XW e3 q3=>by
  split at q3
  .rename_i a0 k0;obtain⟨kvs,f1,f2,q3⟩:=qx q3;cases(hx.mono e3).mw;cases hy.str_inv;obtain⟨vs,h1,h2,h3⟩:=ww XW f1;have hl:vs.length=kvs.length:=by have:=eI List.length h2;simpa using this
   refine⟨_,_,Z',Kk.k (k:=Sum.inr k0) h1 (by lia),?_⟩;have hd3:=hd.mono (e2.trans e3);obtain⟨Zn,e4⟩:=XW.put (o:=.dK (yo vs (Sum.inr k0) v)) (c:=.dk (wz kvs (.inr k0) d)) (vD f1) λex=>by obtain⟨g1,g2⟩:=DT (k:=Sum.inr k0) (hd3.mono ex) h2 (h3.mono ex);exact⟨_,pT,g1,g2⟩
   exact k1 Y _ U _ (hs.mono (e1.trans (e2.trans (e3.trans e4)))) Zn (e1.trans (e2.trans (e3.trans e4))) Z' q3
  .exact q3.elim⟩⟩⟩
noncomputable def Ws:D->Option qL
 | .int i=>ga (.inl i)
 | .str x=>ga (.inr x)
 | _=>Fa
noncomputable def VJ(M:Mp)(a:lf):Bool:=(xp M a).isSome
def RD(td tk tx:T3):T3:=λU M Q=>td U M λx M1=>match x with
 | .ref a=>VJ M1 a=Db/\tk U M1 λy M2=>tx U M2 λz M3=>(Ws y).elim False λk=>(xp M3 a).elim False λkvs=>Q ((sV kvs k).getD z) M3
 | _=>False
def MM{f:zn}(hu:X.A.units+9<wP)(ho:E3 X o td)(he:E3 X e tk)(hf:E3 X f tx)(m:M2 X o "get" Xq e f pos):E3 X (.Call (.Attribute o "get" Xq) [e,f] [] pos) (RD td tk tx):=
 PE.mono (NJ (by lia) ho he hf m) λY H Q' zz=>x7 zz λU M Q hs hm ht k=>⟨U,M,_,hs,hm,ht,λv H1 x M1 hx Xp e1 q1=>by
  cases x with
  | ref a=>
   cases hx.mw;obtain⟨hk,q1⟩:=q1;obtain⟨kv0,hk⟩:=ir.mp hk;obtain⟨vs0,g1,_⟩:=ww Xp hk;refine⟨a,Z',.inl ⟨vs0,.inl g1⟩,U,M1,_,hs.mono e1,Xp,q1,λvy H2 y M2 hy XA e2 q2=>⟨U,M2,_,hs.mono (e1.trans e2),XA,q2,λvz H3 z M3 hz XW e3 q3=>?_⟩⟩;obtain⟨kk,f1,q3⟩:=qx q3;obtain⟨kvs,f2,q3⟩:=qx q3;obtain⟨vs,h1,h2,h3⟩:=ww XW f2;have ey:vy=kV kk:=by
    cases y with
    | int j=>cases f1;exact hy.int_inv
    | str j=>cases f1;exact hy.str_inv
    | _=>cases f1
   subst ey;refine⟨_,AN.k (k:=kk) h1,?_⟩;obtain⟨p1,p2⟩:=Bm (k:=kk) h2 h3;cases ez:sV kvs kk with
   | none=>rw[p2 ez];rw[ez]at q3;exact k _ _ _ _ hz XW (e1.trans (e2.trans e3)) q3
   | some d=>obtain⟨w,e5,hw⟩:=p1 d ez;rw[e5];rw[ez]at q3;exact k _ _ _ _ hw XW (e1.trans (e2.trans e3)) q3
  | _=>exact q1.elim⟩
variable {Xn:T0 (lf × Obj)}{Y:St}{H:Hp}{s:Sd}
def RT{a b:lf}(I:Inv X Xn Y H s)(f:zE X Xn H b)(q:xq X.K H a xs):a≠b:=by
 rintro rfl
 rcases q with q|⟨o,its,n,hk,_⟩
 .have z:=f.1;rcases q with q|⟨u,q⟩<;>(rw[q]at z;cases z)
 .have e:=I.mod.nW a o hk;rcases f.2.2.2.1 with z|z
  .exact I.ok.nF a o e z
  .exact absurd (dQ (dE e) (dZ I.ok.nO z)) (eS _)
def Xi:ZK xq Heap.IsListIter Heap.IsList where
 gt:=λI h=>(I.list h).imp λ_ z=>⟨z.1,z.2.1.isList⟩
 ij:=λI h g=>I.nA h g
 ne:=RT
 dr:=Draws.list
 ob:=λ⟨o,h,_,d⟩=>⟨o,h,λv z=>by rw[d]at z;cases z⟩
 kp:=λ⟨o,h,c⟩ k=>⟨o,k o h,c⟩
variable {tp:Pos}{XO:T0 zn}{n:Nat}
def Oi{a b:zn}{ta:TA}(hg:Gl X "zip")(hm:X.mg "zip"=Fa)(ha:PA X [a,b] ta)(hs:Tk [a,b] X.env=[(pc,No a X.env),(pc,No b X.env)]:=by rfl)(X7:Tk [b] X.env=[(pc,No b X.env)]:=by rfl):
  PI X (.Tuple XO n tp) (.Call (.Name "zip" p) [a,b] [] pos) (λY H R=>ta Y H λvs H1=>∃l m,vs=[.ref l,.ref m]/\(∃xs,xq X.K H1 l xs)/\(∃xs,xq X.K H1 m xs)/\R (Tz xq X.K l m) H1):=by
 intro Xn s Y H R I h;refine Call_ (vW I hg hm Nd (fz (rR (ha pos Xn s Y H _ I h) λus s1 zz=>x5 zz λvs H1 I1 r1 q1=>?_) (by rw[hs,X7]) (by rw[X7];rfl)));obtain⟨l,m,e,⟨xs,hx⟩,⟨ys,hy⟩,q⟩:=q1;subst e;obtain⟨u,v,rfl,ru,rv⟩:=IW r1;cases ru;cases rv;obtain⟨its,_,px,_⟩:=I1.list hx;obtain⟨Zc,_,py,_⟩:=I1.list hy;exact call_zip_2 px.isList py.isList λg h1 h2 h3 h4 h5 _ hk=>GV Xi I1 h1 h2 h3 h4 h5 hk q
def LF{K:qk}{a b:lf}{ds es:T0 D}:ES K H1 (Tz xq K a b) (vY ds es) (λM=>oa M a=ga ds/\oa M b=ga es) where
 go:=λi H M hi hm ok _=>by rw[vH]at hi;obtain⟨xs,h1,h2,_⟩:=pU hm ok.1;obtain⟨ys,g1,g2,_⟩:=pU hm ok.2;obtain⟨x,e1,_⟩:=h2.get (cY (show i<ds.length by lia));obtain⟨y,e2,_⟩:=g2.get (cY (show i<es.length by lia));exact⟨xs,ys,x,y,h1,g1,e1,e2⟩
 oN:=λi d H M x H' hd hm ok _ y=>by
  obtain⟨xs,h1,h2,_⟩:=pU hm ok.1;obtain⟨ys,g1,g2,_⟩:=pU hm ok.2;obtain⟨p,u,v,rfl,hp,rfl,y1,y2⟩:=y;rw[L3.EJ]at hd;cases e:ds[i]? with
  | none=>rw[e]at hd;cases hd
  | some d'=>
   cases e':es[i]? with
   | none=>rw[e,e']at hd;cases hd
   | some c'=>rw[e,e']at hd;cases hd;obtain⟨x',q1,hx⟩:=h2.get e;obtain⟨z',q2,hz⟩:=g2.get e';have w1:=y1 xs h1;have w2:=y2 ys g1;rw[q1]at w1;rw[q2]at w2;have v1:x'=u:=dv w1;have v2:z'=v:=dv w2;subst v1 v2;have ex:qJ K H (upd H p (.tup [x',z'])):=.new hp;exact⟨.tup (.of pT) (.cons (hx.mono ex) (.cons (hz.mono ex) .nil)),hm.add hp,ex⟩
 stop:=λH M hm ok _=>by obtain⟨xs,h1,h2,_⟩:=pU hm ok.1;obtain⟨ys,g1,g2,_⟩:=pU hm ok.2;exact⟨xs,ys,h1,g1,by rw[vH,h2.length,g2.length]⟩
def Ti(t:xf):Nh:=λU M R=>t U M λds M1=>match ds with
 | [.ref a,.ref b]=>(oa M1 a).elim False λxs=>(oa M1 b).elim False λys=>R (vY xs ys) (λM=>oa M a=ga xs/\oa M b=ga ys) M1
 | _=>False
def Eg{a b:zn}{ta:xf}(hg:Gl X "zip")(hm:X.mg "zip"=Fa)(ha:A3 X [a,b] ta)(hs:Tk [a,b] X.env=[(pc,No a X.env),(pc,No b X.env)]:=by rfl)(X7:Tk [b] X.env=[(pc,No b X.env)]:=by rfl):
  I3 X (.Tuple XO n tp) (.Call (.Name "zip" p) [a,b] [] pos) (Ti ta):=
 PI.mono (Oi hg hm ha hs X7) λY H R' zz=>x7 zz λU M R hs hm ht k=>⟨U,M,_,hs,hm,ht,λvs H1 ds M1 hd Xp e1 q1=>by
  split at q1
  .obtain⟨xs,f1,q1⟩:=qx q1;obtain⟨ys,f2,q1⟩:=qx q1;obtain⟨v,u,rfl,hv,hw⟩:=ze hd;cases hv.mw;cases hw.mw;obtain⟨us,h1,_⟩:=pU Xp f1;obtain⟨ws,g1,_⟩:=pU Xp f2;exact⟨_,_,Z',⟨us,h1⟩,⟨ws,g1⟩,k _ H1 _ _ M1 LF Xp e1 ⟨f1,f2⟩ q1⟩
  .exact q1.elim⟩
end L3
namespace L2
open Builtin Builtin.Str
variable {prog:Pg}{w:Wo}{A:Ar}{E:QQX}{s:Sd}{X:Cx}
end L2
namespace L3
open L2 Builtin Builtin.Str
variable {X:Cx}{pos Xq:Pos}{o e:zn}{es:T0 zn}{ta:T3}{t:xf}
@[irreducible] def SsI (X:Cx) (st:T0 xz) (t:xj):Prop:=G8 X st t
@[irreducible] def SI (X:Cx) (st:xz) (t:xj):Prop:=S3 X st t
@[irreducible] def EI (X:Cx) (e:zn) (t:T3):Prop:=E3 X e t
@[irreducible] def AI (X:Cx) (es:T0 zn) (t:xf):Prop:=A3 X es t
variable {prog:Pg}{w:Wo}{A:Ar}{E:QQX}{s:Sd}{Xn:T0 (lf × Obj)}{Y:St}{H:Hp}{p tp:Pos}{XO:T0 zn}{n:Nat}
theorem yc{g:DE}{tt:Ap}{te:T3}{ok:Mp->Prop}{Q:DK}(all:T0 D)(J:T0 D->T0 D->vj->Mp->Prop)(mH:∀p acc U M,J p acc U M->ok M):∀(ds pre acc:T0 D) (U:vj) (M:Mp),pre++ds=all->acc.length+ds.length<=Uf->J pre acc U M->
  (∀pre d post,pre++d::post=all->∀acc U M,J pre acc U M->∀(k:vj->DK) (k2:vj->Mp->Prop),(∀δ2 y M4,J (pre++[d]) (acc++[y]) δ2 M4->k δ2 y M4)->(∀δ2 M3,J (pre++[d]) acc δ2 M3->k2 δ2 M3)->g d U M λδ2 M2=>tt δ2 M2 λb M3=>if b=Db then te δ2 M3 (k δ2)else k2 δ2 M3)->
  (∀acc U M,J all acc U M->∀p,M p=Fa->Q (.ref p) (pq M p (.lst acc)))->uV g tt te ok Q ds acc U M
 | [],pre,acc,U,M,e,hl,j,_,hq=>⟨by simpa using hl,hq acc U M (by rw[<-e,eN];exact j)⟩
 | d::r,pre,acc,U,M,e,hl,j,ht,hq=>by rw[eA]at hl;refine⟨by lia,?_⟩;refine ht pre d r e acc U M j (λδ2 y M4=>ok M4/\uV g tt te ok Q r (acc++[y]) δ2 M4) (λδ2 M3=>ok M3/\uV g tt te ok Q r acc δ2 M3) (λδ2 y M4 j'=>⟨mH _ _ _ _ j',yc all J mH r (pre++[d]) (acc++[y]) δ2 M4 (by rw[<-e,eY];rfl) ?_ j' ht hq⟩) λδ2 M3 j'=>⟨mH _ _ _ _ j',yc all J mH r (pre++[d]) acc δ2 M3 (by rw[<-e,eY];rfl) (by lia) j' ht hq⟩;rw[c9,dM];lia
end L3
namespace L2
noncomputable def Cx.nK(X:Cx)(E:QQX):Cx:={X with xe:=E}
def Inv.nK{E:QQX}{Xn:QQY}(I:Inv X Xn Y H s):Inv (X.nK E) Xn Y H s:=
 ⟨⟨I.ok.mod,I.ok.kind,I.ok.glob,I.ok.blt,I.ok.above,I.ok.inj,I.ok.has,I.ok.og,I.ok.hd,I.ok.frames,I.ok.oA,I.ok.oR,I.ok.bs,I.ok.nO,I.ok.nF,I.ok.nM,I.ok.nj,I.ok.nX⟩,I.os,I.bare,I.base,I.loc,I.cell,I.free,I.mM,I.pin,I.mH,I.len⟩
def Inv.xeOf{X:Cx}{E:QQX}{Xn:QQY}(I:Inv (X.nK E) Xn Y H s):Inv X Xn Y H s:=
 ⟨⟨I.ok.mod,I.ok.kind,I.ok.glob,I.ok.blt,I.ok.above,I.ok.inj,I.ok.has,I.ok.og,I.ok.hd,I.ok.frames,I.ok.oA,I.ok.oR,I.ok.bs,I.ok.nO,I.ok.nF,I.ok.nM,I.ok.nj,I.ok.nX⟩,I.os,I.bare,I.base,I.loc,I.cell,I.free,I.mM,I.pin,I.mH,I.len⟩
end L2
namespace L3
open L2
end L3
namespace L2
end L2
namespace L3
open L2
variable {X:Cx}{pos p tp kpos:Pos}{XO:T0 zn}{n:Nat}
end L3
namespace L2
variable {prog:Pg}{w:Wo}{A:Ar}{E:QQX}{s:Sd}{a:lf}{U:Type}{k:Str}{tk:Tok}
section
variable {R:U→Vl→Prop}{D:T0 (Str × U)}
end
end L2
namespace L3
open L2
variable {X:Cx}{pos p:Pos}{x:Str}{d:D}{e o i:zn}{ta tb td tk:T3}{F:T0 (Str × QQQ)}
end L3
namespace L2
def LL(h:Go)(e:lf)(cls:Vl)(dx tb:Option lf)(F:Vl):Prop:=
 ∃oe vs,h.get? e=ga oe/\oe.cls=cls/\oe.dict=dx/\oe.data=.fields vs/\1<vs.size/\vs[1]?=ga (tb.elim Value.none Value.ref)/\∀T,tb=ga T->T≠e/\∃oT ts,h.get? T=ga oT/\oT.data=.fields ts/\3<ts.size/\ts[3]?=ga F
def QI(h:Go)(e:lf)(cls:Vl)(dx tb:Option lf):Prop:=LL h e cls dx tb Value.none
theorem BO{h base:Go}:∀{l:T0 Env} {b:lf},h.FunFrames base l->b∈vZ l->∃o,h.get? b=ga o/\∀vs,o.data≠.fields vs
 | [],b,_,hb=>by cases hb
 | env::r,b,hF,hb=>by
  obtain⟨_,⟨L,o,hL,_,ho,hd⟩,hr⟩:=hF;have e:vZ (env::r)=L::vZ r:=by unfold vZ;rw[fX,hL]
  rw[e]at hb;rcases dz.mp hb with z|z
  .rw[z];exact⟨o,ho,hd⟩
  .exact BO hr z
def Ee{h base:Go}{l:T0 Env}{b:lf}{o:Obj}{vs:Array Vl}(hF:h.FunFrames base l)(ho:h.get? b=ga o)(hd:o.data=.fields vs):b∉vZ l:=λhb=>by obtain⟨o',X6,hn⟩:=BO hF hb;rw[ho]at X6;cases X6;exact hn vs hd
variable {M:Model}{A:Ar}{s:Sd}{base:Go}{env:Env}{outer:T0 Env}{L e:lf}{cls:Vl}{dx:Option lf}{Q:Unit→Sd→Prop}
section
variable {E:QQX}
def Oh{YJ:Vl}{ZL:Bool}{oe:Obj}{vs:Array Vl}{X9:Env}(hcf:X9.frame=ga L)(Zr:A.frames=ga (env::outer))(hF:s.heap.FunFrames base (env::outer))(hL:env.frame=ga L)(ho:s.heap.get? e=ga oe)(hd:oe.data=.fields vs)(h1:1<vs.size) (k:∀(h':Go) (T:lf),s.heap.get? T=Fa->(∀b o,s.heap.get? b=ga o->b∉vZ (env::outer)->b≠e->h'.get? b=ga o)->(∀b o,s.heap.get? b=ga o->b∈vZ (env::outer)->∃sl,h'.get? b=ga {o with slots:=sl})->
   (∃oe',h'.get? e=ga oe'/\oe'.cls=oe.cls/\oe'.dict=oe.dict/\oe'.data=.fields (vs.setIfInBounds 1 (.ref T)))->(∃oT ts,h'.get? T=ga oT/\oT.data=.fields ts/\3<ts.size/\ts[3]?=ga (o0 ↑L))->Q () {s with heap:=h'}):
  Ch M A (do
   let a<-PySem.frameOf X9;let pl<-entryPlaceOf L ZL;let b<-EntryCells.newEntry YJ a Value.none (o0 ↑L) Value.none pl
   setField (Value.ref e) 1 b) Q E s:=by
 have ne:=Ee hF ho hd;unfold PySem.frameOf;refine cX (cX (wpAny_frameEnvs Zr (cX ?_)));have ed:List.dropWhile (λx=>x.frame != X9.frame) (env::outer)=env::outer:=by rw[List.dropWhile_cons,de (by rw[hL,hcf];simp)]
 rw[ed];unfold frameObject;refine cX (wpAny_readyFrames_fun hF λYa hs=>?_);obtain⟨z1,z2,z3⟩:=hs;rw[hL];refine dw (dw ?_);refine cX (wpAny_entryPlaceOf λpl hp=>?_);refine cX ?_;unfold EntryCells.newEntry newFields;have Xt:([YJ,Value.ref L,Value.none,o0 ↑L,Value.none]++if pl.isEmpty=Db then List.replicate 6 Value.none else pl).length=11:=by rw[c9];rcases hp with rfl|⟨_,_,_,_,_,_,_,rfl⟩<;>rfl
 have hfl:([YJ,Value.ref L,Value.none,o0 ↑L,Value.none]++if pl.isEmpty=Db then List.replicate 6 Value.none else pl)[3]?=ga (o0 ↑L):=rfl;generalize ([YJ,Value.ref L,Value.none,o0 ↑L,Value.none]++if pl.isEmpty=Db then List.replicate 6 Value.none else pl)=fs at Xt hfl ⊢;refine fS ?_ (by
  show fs.toArray.size<=_;rw[dB,Xt];decide)
 have e1:Ya.get? e=ga oe:=by rw[z2 e ne];exact ho
 have e2:(Ya.push {cls:=.type "traceback",data:=.fields fs.toArray}).get? e=ga oe:=dg _ e1;refine ie e2 hd h1 ?_;have tn:s.heap.get? Ya.objs.size=Fa:=gO (by rw[z1];exact dq _);have te:Ya.objs.size≠e:=λz=>by rw[z,ho]at tn;cases tn
 obtain⟨oc,od,odt,Ym⟩:=oe;obtain rfl:odt=.fields vs:=hd;have up:∀b,e≠b->((Ya.push {cls:=.type "traceback",data:=.fields fs.toArray}).update e (Obj.mapFields λx=>x.setIfInBounds 1 (.ref Ya.objs.size))).get? b=(Ya.push {cls:=.type "traceback",data:=.fields fs.toArray}).get? b:=λb z=>fZ _ _ z;refine k _ Ya.objs.size tn (λb o hb nf ne'=>?_) (λb o hb hf=>?_) ⟨_,fD _ e2 Z',Z',Z',Z'⟩ ⟨_,fs.toArray,(up _ (dX te)).trans (dJ _ Z'),Z',by rw[dB,Xt];decide,by rw[iJ];exact hfl⟩
 .rw[up b (dX ne')];exact dg _ (by rw[z2 b nf];exact hb)
 .obtain⟨sl,q⟩:=z3 b o hb;refine⟨sl,?_⟩;rw[up b (λz=>ne (z ▸ hf))];exact dg _ q
def Ry{E₁:QQX}{tb:Option lf}{F:Vl}{X9:Env}(hcf:X9.frame=ga L)(Zr:A.frames=ga (env::outer))(hF:s.heap.FunFrames base (env::outer))(hL:env.frame=ga L)(hx:LL s.heap e cls dx tb F)(hFL:(F==o0 ↑L)=pc) (k:∀(h':Go) (T:lf),s.heap.get? T=Fa->(∀b o,s.heap.get? b=ga o->b∉vZ (env::outer)->b≠e->tb≠ga b->h'.get? b=ga o)->(∀b o,s.heap.get? b=ga o->b∈vZ (env::outer)->∃sl,h'.get? b=ga {o with slots:=sl})->
   (∀b,h'.get? b=Fa->s.heap.get? b=Fa)->LL h' e cls dx (ga T) (o0 ↑L)->Q () {s with heap:=h'}):Ch M A (noteFrame (.ref e) X9) Q E₁ s:=by
 obtain⟨oe,vs,ho,hc,ZX,hd,h1,hv,hT⟩:=hx;have ne:=Ee hF ho hd;unfold noteFrame;rw[hcf];refine cX (eZ ho hd hv ?_);have Xs:∀(s1:Sd) (oe1:Obj),s1.gens=s.gens->s1.drawn=s.drawn->s1.toks=s.toks->s1.os=s.os->s1.heap.FunFrames base (env::outer)->s1.heap.get? e=ga oe1->oe1.cls=cls->oe1.dict=dx->oe1.data=.fields vs->(∀b o,s.heap.get? b=ga o->b∉vZ (env::outer)->b≠e->tb≠ga b->s1.heap.get? b=ga o)->
   (∀b o,s.heap.get? b=ga o->b∈vZ (env::outer)->s1.heap.get? b=ga o)->(∀b,s1.heap.get? b=Fa↔s.heap.get? b=Fa)->∀(YJ:Vl) (ZL:Bool),Ch M A (do
   let a<-PySem.frameOf X9;let pl<-entryPlaceOf L ZL;let b<-EntryCells.newEntry YJ a Value.none (o0 ↑L) Value.none pl
   setField (Value.ref e) 1 b) Q E₁ s1:=by
  intro s1 oe1 g1 g2 g3 g4 hF1 ho1 hc1 hdx1 hd1 kb kf kn YJ ZL;refine Oh hcf Zr hF1 hL ho1 hd1 h1 λh' T tn k1 k2 ⟨oe',he',hce,hdxe,hde⟩ ⟨oT,ts,YB,Y4,h3,h3v⟩=>?_;have te:T≠e:=λz=>by rw[z,ho1]at tn;cases tn
  have:=k h' T ((kn T).mp tn) (λb o hb nf nb nt=>k1 b o (kb b o hb nf nb nt) nf nb) (λb o hb hf=>k2 b o (kf b o hb hf) hf) (λb hb=>?_) ⟨oe',vs.setIfInBounds 1 (.ref T),he',hce.trans hc1,hdxe.trans hdx1,hde,by rw[jD];exact h1,by rw[io h1];rfl,λT' eT=>?_⟩
  .show Q () {heap:=_,gens:=s1.gens,drawn:=s1.drawn,toks:=s1.toks,os:=s1.os};rw[g1,g2,g3,g4];exact this
  .refine(kn b).mp ?_;cases q:s1.heap.get? b with
   | none=>rfl
   | some o=>
    by_cases z:b=e
    .rw[z,he']at hb;cases hb
    .by_cases zf:b∈vZ (env::outer)
     .obtain⟨sl,q2⟩:=k2 b o q zf;rw[q2]at hb;cases hb
     .rw[k1 b o q zf z]at hb;cases hb
  .cases eT;exact⟨te,oT,ts,YB,Y4,h3,h3v⟩
 cases tb with
 | none=>rw[de (show ¬((Fa:Option lf).elim Value.none Value.ref != Value.none)=Db by decide+kernel)];exact Xs s oe Z' Z' Z' Z' hF ho hc ZX hd (λb o hb _ _ _=>hb) (λb o hb _=>hb) (λb=>.rfl) _ _
 | some T=>
  obtain⟨nTe,oT,ts,YB,Y4,h3,hn⟩:=hT T Z';rw[df (show((ga T:Option lf).elim Value.none Value.ref != Value.none)=Db by rfl)];refine cX (eZ YB Y4 hn ?_);rw[de (by rw[hFL];exact dC)];refine cX (ie YB Y4 h3 ?_);have up:∀b,T≠b->(s.heap.update T (Obj.mapFields λx=>x.setIfInBounds 3 .none)).get? b=s.heap.get? b:=λb z=>fZ _ _ z;have nf:∀b o,s.heap.get? b=ga o->(∀vs,o.data≠.fields vs)->T≠b:=λb o hb hn z=>by rw[<-z,YB]at hb;cases hb;exact hn ts Y4
  have sz:∀b,(s.heap.update T (Obj.mapFields λx=>x.setIfInBounds 3 .none)).get? b=Fa↔s.heap.get? b=Fa:=λb=>by
   by_cases z:T=b
   .rw[<-z];obtain⟨oc,od,odt,Ym⟩:=oT;obtain rfl:odt=.fields ts:=Y4;rw[fD _ YB Z',YB];exact⟨(λq=>by cases q),(λq=>by cases q)⟩
   .rw[up b z]
  exact Xs {s with heap:=s.heap.update T (Obj.mapFields λx=>x.setIfInBounds 3 .none)} oe Z' Z' Z' Z' (mi (λb o hb hn=>⟨o,(up b (nf b o hb hn)).trans hb,Z'⟩) hF) ((up e nTe).trans ho) hc ZX hd
   (λb o hb _ _ nt=>(up b λz=>nt (by rw[z])).trans hb) (λb o hb hf=>by
    obtain⟨o',X6,hn⟩:=BO hF hf;rw[hb]at X6;cases X6;exact(up b (nf b o hb hn)).trans hb) sz _ _
def K8{T:lf}{F:Vl}(x:Option lf)(hx:LL s.heap e cls dx (ga T) F)(k:∀h':Go,(∀b,T≠b->h'.get? b=s.heap.get? b)->(∀b,h'.get? b=Fa↔s.heap.get? b=Fa)->LL h' e cls dx (ga T) (x.elim .none λf=>o0 f)->Q () {s with heap:=h'}):Ch M A (setFlight (.ref e) x) Q E s:=by
 obtain⟨oe,vs,ho,hc,ZX,hd,h1,hv,hT⟩:=hx;obtain⟨nTe,oT,ts,YB,Y4,h3,hn⟩:=hT T Z';unfold setFlight;refine cX (eZ ho hd hv ?_);rw[df (by rfl)];refine ie YB Y4 h3 ?_;obtain⟨oc,od,odt,Ym⟩:=oT;obtain rfl:odt=.fields ts:=Y4;have up:∀b,T≠b->(s.heap.update T (Obj.mapFields λy=>y.setIfInBounds 3 (x.elim .none λf=>o0 f))).get? b=s.heap.get? b:=λb z=>fZ _ _ z;refine k _ up (λb=>?_) ⟨oe,vs,(up e nTe).trans ho,hc,ZX,hd,h1,hv,λT' eT=>?_⟩
 .by_cases z:T=b
  .rw[<-z,fD _ YB Z',YB];exact⟨(λq=>by cases q),(λq=>by cases q)⟩
  .rw[up b z]
 .cases eT;exact⟨nTe,_,ts.setIfInBounds 3 (x.elim .none λf=>o0 f),fD _ YB Z',Z',by rw[jD];exact h3,by rw[io h3]⟩
def Io{E₁ E₂:QQX}{tb:Option lf}(Zr:A.frames=ga (env::outer))(hF:s.heap.FunFrames base (env::outer))(hL:env.frame=ga L)(hx:QI s.heap e cls dx tb) (k:∀(h':Go) (T:lf),s.heap.get? T=Fa->(∀b o,s.heap.get? b=ga o->b∉vZ (env::outer)->b≠e->tb≠ga b->h'.get? b=ga o)->(∀b o,s.heap.get? b=ga o->b∈vZ (env::outer)->∃sl,h'.get? b=ga {o with slots:=sl})->
   QI h' e cls dx (ga T)->Q () {s with heap:=h'}):Ch M A (noteFrame (.ref e) env) (λ_ s₂=>Ch M A (setFlight (.ref e) Fa) Q E₂ s₂) E₁ s:=by
 refine Ry hL Zr hF hL hx (dG.mpr λz=>by have:=fj.mp z;cases this) λh' T tn k1 k2 _ x'=>?_;refine K8 Fa x' λh2 up _ x2=>k h2 T tn (λb o hb nf nb nt=>?_) (λb o hb hf=>?_) x2
 .have tb:T≠b:=λz=>by rw[z,hb]at tn;cases tn
  exact(up b tb).trans (k1 b o hb nf nb nt)
 .have tb:T≠b:=λz=>by rw[z,hb]at tn;cases tn
  obtain⟨sl,q⟩:=k2 b o hb hf;exact⟨sl,(up b tb).trans q⟩
def Pq{tb:Option lf}(Zr:A.frames=ga (env::outer))(hF:s.heap.FunFrames base (env::outer))(hL:env.frame=ga L)(hx:QI s.heap e cls dx tb) (k:∀(h':Go) (T:lf),s.heap.get? T=Fa->(∀b o,s.heap.get? b=ga o->b∉vZ (env::outer)->b≠e->tb≠ga b->h'.get? b=ga o)->(∀b o,s.heap.get? b=ga o->b∈vZ (env::outer)->∃sl,h'.get? b=ga {o with slots:=sl})->
   QI h' e cls dx (ga T)->Q () {s with heap:=h'}):Ch M A (leaving env (.ref e)) Q E s:=cX (Io Zr hF hL hx k)
end
def BN(P:Pg)(w:Wo):KN:=λouter H s E ev s'=>GH λe C dx H' tb=>ev=.ref e/\E (.ref C) dx H'/\s'.os=s.os/\XXj s'.gens/\Un (vZ outer) [] H H' s.heap s'.heap/\yp P w H' s'.heap/\
 QI s'.heap e (.ref C) dx (ga tb)/\s.heap.get? e=Fa/\s.heap.get? tb=Fa/\H' e=Fa/\H' tb=Fa
def yj{o:HO}(x:rZ P w H h a o):∃ob,h.get? a=ga ob:=by
 cases o with
 | lst xs=>obtain⟨_,_,_,_,e⟩:=x;exact⟨_,e⟩
 | tup xs=>obtain⟨_,_,_,o,e,_⟩:=x;exact⟨_,e⟩
 | dK kvs=>obtain⟨_,_,_,_,o,_,_,e,_⟩:=x;exact⟨_,e⟩
 | dT kvs=>obtain⟨_,_,_,_,o,_,_,e,_⟩:=x;exact⟨_,e⟩
 | set S n=>obtain⟨o,_,_,_,e,_⟩:=x;exact⟨_,e⟩
 | ins C dx fs=>obtain⟨_,_,_,e,_⟩:=x;exact⟨_,e⟩
 | own y=>exact x
 | xd fs=>obtain⟨_,⟨_,_,_,e,_⟩,_⟩:=x;exact⟨_,e⟩
 | rng lo hi=>obtain⟨_,_,_,e⟩:=x;exact⟨_,e⟩
 | frz ob u=>obtain⟨e,_⟩:=x;exact⟨_,e⟩
 | tbl ps=>exact⟨_,x⟩
 | met f y=>exact⟨_,x⟩
 | ext φ=>obtain⟨_,e,_⟩:=x;exact e
def zi{T:lf}(mH:yp P w H h)(tn:h.get? T=Fa):H T=Fa:=by
 cases z:H T with
 | none=>rfl
 | some o=>obtain⟨ob,hob⟩:=yj (mH T o z);rw[hob]at tn;cases tn
variable {P:Pg}{w:Wo}{K:qk}{mg:QQZ}{N:QQQ}{qual:Str}{scope:XXa}{f:lf}{cd:Vl}{s0:Sd}{H0:Hp}
section
variable {E:XK}
def GK(u:Un fs ex H H' h h')(hex:ex=[]){b:lf}(hb:h'.get? b=Fa):h.get? b=Fa:=by
 cases q:h.get? b with
 | none=>rfl
 | some o=>obtain⟨o',e⟩:=u.there b o q (by rw[hex];simp);rw[e]at hb;cases hb
def MZ{Xn:QQY}{e C T:lf}{tb dx:Option lf}{h':Go}(I:Inv (u9 (BN P w) P w K mg base N qual scope f cd A outer s0 H0 E) Xn Y H s)(he:s0.heap.get? e=Fa)(XY:∀T,tb=ga T->s0.heap.get? T=Fa/\H T=Fa)(hn:H e=Fa)(q:E (.ref C) dx H)(hT:s0.heap.get? T=Fa/\H T=Fa) (k1:∀b o,s.heap.get? b=ga o->b∉vZ (sK qual scope s0.heap.objs.size f cd::outer)->b≠e->tb≠ga b->h'.get? b=ga o) (k2:∀b o,s.heap.get? b=ga o->b∈vZ (sK qual scope s0.heap.objs.size f cd::outer)->∃sl,h'.get? b=ga {o with slots:=sl}) (x':QI h' e (.ref C) dx (ga T)):
  BN P w outer H0 s0 E (.ref e) {s with heap:=h'}:=by
 have Ye:=I.nv;have XB:∀b o,H b=ga o->∀u,s.heap.get? b=ga u->h'.get? b=ga u:=λb o hb u hu=>k1 b u hu (λz=>by rw[Ye b z]at hb;cases hb) (λz=>by rw[z,hn]at hb;cases hb) (λz=>by rw[(XY b z).2]at hb;cases hb);have oldf:∀b o,s0.heap.get? b=ga o->b∉vZ [sK qual scope s0.heap.objs.size f cd]:=λb o hb z=>by
  have:b=s0.heap.objs.size:=by have hz:b∈[s0.heap.objs.size]:=z;exact dh.mp hz
  rw[this]at hb;exact absurd (dE hb) (eS _)
 have fr:∀b,b∈vZ (sK qual scope s0.heap.objs.size f cd::outer)->b∈vZ [sK qual scope s0.heap.objs.size f cd]\/b∈vZ outer:=λb hb=>by
  have hb:b∈s0.heap.objs.size::vZ outer:=hb;rcases dz.mp hb with z|z
  .exact .inl (by rw[z];exact dH)
  .exact .inr z
 have XQ:Un (vZ outer) [] H0 H s0.heap s.heap:=I.base;refine⟨e,C,dx,H,T,Z',q,I.os,I.bare,⟨λb o hb h0 nf ne=>?_,λb o hb h0 hf ne=>?_,XQ.free,λb o hb ne=>?_,XQ.nk,XQ.mZ,XQ.nB⟩,λb o hb=>?_,x',he,hT.1,hn,hT.2⟩
 .have hs:=XQ.keep b o hb h0 nf ne;refine k1 b o hs (λz=>?_) (λz=>by rw[z,he]at hb;cases hb) λz=>by rw[(XY b z).1]at hb;cases hb
  rcases fr b z with z|z
  .exact oldf b o hb z
  .exact nf z
 .obtain⟨sl,hs⟩:=XQ.slot b o hb h0 hf ne;have:b∈vZ (sK qual scope s0.heap.objs.size f cd::outer):=dF _ hf;obtain⟨YR,h2⟩:=k2 b _ hs this;exact⟨YR,h2⟩
 .obtain⟨o',hs⟩:=XQ.there b o hb ne;by_cases z:b∈vZ (sK qual scope s0.heap.objs.size f cd::outer)
  .obtain⟨sl,h2⟩:=k2 b o' hs z;exact⟨_,h2⟩
  .exact⟨o',k1 b o' hs z (λz=>by rw[z,he]at hb;cases hb) λz=>by rw[(XY b z).1]at hb;cases hb⟩
 .refine(I.mH b o hb).nq (λb' u Yl hu=>?_) (λ_ q=>q) λ_ _ q=>q;rcases Yl with z|z
  .subst z;exact XB b' o hb u hu
  .exact XB b' _ z u hu
def Vv{Xn:QQY}{e C:lf}{tb dx:Option lf}(I:Inv (u9 (BN P w) P w K mg base N qual scope f cd A outer s0 H0 E) Xn Y H s)(hx:QI s.heap e (.ref C) dx tb)(he:s0.heap.get? e=Fa)(hT:∀T,tb=ga T->s0.heap.get? T=Fa/\H T=Fa)(hn:H e=Fa)(q:E (.ref C) dx H):
  (u9 (BN P w) P w K mg base N qual scope f cd A outer s0 H0 E).xe (.ref e) s:=
 Pq (base:=base) (outer:=outer) I.ok.frames I.stack Z' hx λh' T tn k1 k2 x'=>MZ I he hT hn q ⟨GK (show Un (vZ outer) [] H0 H s0.heap s.heap from I.base) Z' tn,zi I.mH tn⟩ k1 k2 x'
end
section
variable {E:XK}
end
def O8(d:lf)(f:Str)(v:V)(h:Go):Prop:=∃u,h.Ns1 d (λy=>if y=f then ga u else Fa)/\qy v u
end L2
namespace L3
open L2
abbrev XR:=lf->Option (Str×D)->Mp->Prop
abbrev Ge:=T0 D->Mp->DK->XR->Prop
def Ua(K:qk)(H:Hp)(dx:Option lf)(y:Option (Str×D)):Prop:=(dx=Fa/\y=Fa)\/Co λd f z v=>dx=ga d/\y=ga (f,z)/\H d=ga (.ext (O8 d f v))/\rH K H z v
def TN(K:qk)(R:XR)(E:XK):Prop:=∀C dx H M y,HM K H M->Ua K H dx y->R C y M->E (.ref C) dx H
def VU(K:qk)(sp:Ge):Sp:=λvs H Q' E=>Co λds M Q R=>qd K H ds vs/\HM K H M/\sp ds M Q R/\Up K H Q' Q/\TN K R E
abbrev SU(P:Pg)(w:Wo)(K:qk)(mg:QQZ)(base:Go)(k:Nat)(f:lf)(fd:Rs)(ps:QQQ)(sp:Ge):Prop:=xl P w K mg base (BN P w) k f fd ps (VU K sp)
variable {X:Cx}{x:Str}{p pos np Xu:Pos}{e:zn}{es:T0 zn}{t:xf}{k:Nat}{f C:lf}{fd:Rs}{ps:QQQ}{sp:Ge}{R:XR}{E:XK}{P:Pg}{w:Wo}{K:qk}{mg:QQZ}{base:Go}{N:QQQ}{qual:Str}{scope:XXa}{cd:Vl}{A:Ar}{outer:T0 Env}{s0:Sd}{H0:Hp}{ta:xf}
def UI{st:xz}{sp:Ge}(F:Pn K x qual st f fd)(S:sT N ps (pY st))(len:∀ds M Q R,sp ds M Q R->ds.length=ps.length) (XH:∀(Xy:Vl) (A:Ar) (outer:T0 Env) (s:Sd) (H:Hp) (E:XK) (R:XR),rS k (A.deeper (sK qual (pY st) s.heap.objs.size f Xy))->TN K R E->
   ∃t,G8 (u9 (BN P w) P w K mg base N qual (pY st) f Xy A outer s H E) (rJ st) t/\∀ds M Q,sp ds M Q R->t {nx:=λ_ M'=>∃Xr,qz Xr M'/\Q .mC Xr,rt:=λd M'=>∃Xr,qz Xr M'/\Q d Xr} (wQ N ds) M):SU P w K mg base (k+1) f fd ps sp:=by
 obtain⟨oc,od,kV,X3,pm,an,Xy,ct,Ym,rfl,lk,YE⟩:=F.ex;refine Mg lk YE S (λvs H Q E h=>?_) λA outer s H vs Q' E hr h=>?_
 .obtain⟨ds,M,Q,R,hd,_,hs,_⟩:=h;rw[<-hd.length];exact len ds M Q R hs
 .obtain⟨ds,M,Q,R,hd,hm,hs,k,hR⟩:=h;obtain⟨t,ht,hb⟩:=XH Xy A outer s H E R hr hR;exact⟨_,ht,wQ N ds,M,_,DB hd,hm,hb ds M Q hs,λσ' H' δ' M' _ x2 x3 _ ⟨Xr,y1,y2⟩=>k .mC H' .mC Xr .mC (x2.sub y1) x3 y2,λv H' d M' x1 x2 x3 ⟨Xr,y1,y2⟩=>k v H' d Xr x1 (x2.sub y1) x3 y2,λ_ _ _ _ _ _ _ _ z=>z,λ_ _ _ _ _ _ _ _ z=>z⟩
end L3
namespace L2
def TKept(H H':Hp):Prop:=(∀b xs,H b=ga (.tup xs)->H' b=ga (.tup xs))/\∀b o u,H b=ga (.frz o u)->H' b=ga (.frz o u)
def Wl(X:Cx)(Xn:QQY)(Y:St)(J:Hp->Prop)(E:XK)(ev:Vl)(s':Sd):Prop:=CQ λH s=>J H/\Inv X Xn Y H s/\BN X.prog X.w X.stack H s E ev s'
def TM(X:Cx)(Xn:QQY)(Y:St)(J:Hp->Prop)(E:XK)(ev:Vl)(s':Sd):Prop:=Tx λa C dx H' tb H1 s1=>ev=.ref a/\E (.ref C) dx H'/\Inv X Xn Y H' s'/\QI s'.heap a (.ref C) dx (ga tb)/\H' a=Fa/\H' tb=Fa/\J H1/\TKept H1 H'/\Inv X Xn Y H1 s1/\s1.heap.get? a=Fa
def Tp{M:Model}{E₁ E₂:QQX}{Xn:QQY}{E:XK}{outer:T0 Env}{L:lf}(h:Wl X Xn Y J E ev s')(XJ:X.stack=X.env::outer)(hL:X.env.frame=ga L):
  Ch M X.A (noteFrame ev X.env) (λ_ s₂=>Ch M X.A (setFlight ev Fa) (λ_ s₃=>TM X Xn Y J E ev s₃) E₂ s₂) E₁ s':=by
 obtain⟨H,s,jH,I,e,C,dx,H',tb,rfl,q,os,bare,un,mH,x,he,ht,ne,nt⟩:=h;obtain⟨hh,g,d,t,os'⟩:=s';obtain rfl:os'=s.os:=os;have I':=I.call (h':=hh) (g':=g) (d':=d) (t':=t) (ch:=[]) un mH bare (λb z=>absurd z (by simp));have hF:=I'.stack;have Ye:=I'.nv;have Zr:=I.ok.frames;rw[XJ]at hF Zr;refine Io (base:=X.base) (outer:=outer) Zr hF hL x λh' T tn k1 k2 x'=>?_;have XB:∀b o,H' b=ga o->∀u,hh.get? b=ga u->h'.get? b=ga u:=λb o hb u hu=>k1 b u hu (λz=>by rw[Ye b (by rw[XJ];exact z)]at hb;cases hb) (λz=>by rw[z,ne]at hb;cases hb) (λz=>by cases z;rw[nt]at hb;cases hb);have un':Un (vZ X.stack) [] H H' s.heap h':=by
  refine⟨λb o hb h0 nf nx=>?_,λb o hb h0 hf nx=>?_,un.free,λb o hb nx=>?_,un.nk,un.mZ,un.nB⟩
  .exact k1 b o (un.keep b o hb h0 nf nx) (λz=>nf (by rw[XJ];exact z)) (λz=>by rw[z,he]at hb;cases hb) λz=>by cases z;rw[ht]at hb;cases hb
  .obtain⟨sl,hs⟩:=un.slot b o hb h0 hf nx;obtain⟨YR,h2⟩:=k2 b _ hs (by rw[<-XJ];exact hf);exact⟨YR,h2⟩
  .obtain⟨o',hs⟩:=un.there b o hb nx;by_cases z:b∈vZ (X.env::outer)
   .obtain⟨sl,h2⟩:=k2 b o' hs z;exact⟨_,h2⟩
   .exact⟨o',k1 b o' hs z (λz=>by rw[z,he]at hb;cases hb) λz=>by cases z;rw[ht]at hb;cases hb⟩
 have hok':yp X.prog X.w H' h':=λb o hb=>(mH b o hb).nq (λb' u Yl hu=>by
  rcases Yl with z|z
  .subst z;exact XB b' o hb u hu
  .exact XB b' _ z u hu) (λ_ q=>q) λ_ _ q=>q
 have I3:Inv X Xn Y H' {heap:=h',gens:=g,drawn:=d,toks:=t,os:=s.os}:=Inv.call (s:=s) (ch:=[]) I un' hok' bare (λb z=>absurd z (by simp));refine⟨e,C,dx,H',T,H,s,Z',q,I3,x',ne,?_,jH,⟨un.nk,un.mZ⟩,I,he⟩;cases z:H' T with
 | none=>rfl
 | some o=>obtain⟨ob,hob⟩:=yj (mH T o z);have tn:hh.get? T=Fa:=tn;rw[hob]at tn;cases tn
variable {X:Cx}{Xn:T0 (lf × Obj)}{Y σ':St}{H H1:Hp}{s s1:Sd}{ev:Vl}{E':QQX}{a:lf}
def Inv.adopt{o:HO}(I:Inv X Xn Y H s)(I1:Inv X Xn σ' H1 s1)(n1:s1.heap.get? a=Fa)(hn:H a=Fa)(ok:rZ X.prog X.w (upd H a o) s.heap a o):Inv X Xn Y (upd H a o) s:=by
 have ne:∀b ob,s1.heap.get? b=ga ob->b≠a:=λb ob e z=>by rw[z,n1]at e;cases e
 have nh:∀b ob,H b=ga ob->b≠a:=λb ob e z=>by rw[z,hn]at e;cases e
 refine⟨I.ok,I.os,I.bare,⟨I.base.keep,I.base.slot,λb o' e h0 hb=>?_,I.base.there,λb xs e=>?_,λb o' u e=>?_,λb ps e=>?_⟩,I.loc,I.cell,?_,λx c e=>?_,λp hp=>?_,λb ob e=>?_,I.len⟩
 .obtain⟨o2,e2⟩:=I1.base.there b o' e hb;rw[pS (ne b o2 e2)];exact I.base.free b o' e h0 hb
 .have:=I.base.nk b xs e;rw[pS (nh b _ this)];exact this
 .have:=I.base.mZ b o' u e;rw[pS (nh b _ this)];exact this
 .obtain⟨more,this⟩:=I.base.nB b ps e;exact⟨more,by rw[pS (nh b _ this)];exact this⟩
 .obtain⟨m,⟨o2,_,_,e2,_⟩,_⟩:=I1.loc;rw[pS (ne _ o2 e2)];exact I.free
 .obtain⟨v,o2,e2,_⟩:=I1.cell x c e;rw[pS (ne _ o2 e2)];exact I.mM x c e
 .obtain⟨e1,e2,e3,e4,e5⟩:=I.pin p hp;exact⟨e1,by rw[pS (ne _ _ (I1.pin p hp).1)];exact e2,e3,e4,e5⟩
 .by_cases z:b=a
  .subst z;rw[pT]at e;cases e;exact ok
  .rw[pS z]at e;exact(I.mH b ob e).nq (λ_ _ _ q=>q) (λb' q=>by rw[pS (nh b' _ q)];exact q) λb' xs q=>by rw[pS (nh b' _ q)];exact q
noncomputable def Cx.marked(X:Cx)(ev:Vl)(E:QQX):Cx:={X with A:=X.A.mark (ga ev),calm:=false,xe:=E}
def Inv.mark(I:Inv X Xn Y H s):Inv (X.marked ev E') Xn Y H s:=
 ⟨⟨I.ok.mod,I.ok.kind,I.ok.glob,I.ok.blt,I.ok.above,I.ok.inj,I.ok.has,I.ok.og,(λz=>by cases z),I.ok.frames,I.ok.oA,I.ok.oR,I.ok.bs,I.ok.nO,I.ok.nF,I.ok.nM,I.ok.nj,I.ok.nX⟩,I.os,I.bare,I.base,I.loc,I.cell,I.free,I.mM,I.pin,I.mH,I.len⟩
def Inv.unmark(ok:X.Ok)(I:Inv (X.marked ev E') Xn Y H s):Inv X Xn Y H s:=⟨ok,I.os,I.bare,I.base,I.loc,I.cell,I.free,I.mM,I.pin,I.mH,I.len⟩
def SP.unmark(ok:X.Ok){D:EC}{f:Flow}(h:SP (X.marked ev E') Xn D f s):SP X Xn D f s:=by
 cases f with
 | next=>obtain⟨a,b,I,q⟩:=h;exact⟨a,b,I.unmark ok,q⟩
 | brk=>obtain⟨a,b,I,q⟩:=h;exact⟨a,b,I.unmark ok,q⟩
 | cont=>obtain⟨a,b,I,q⟩:=h;exact⟨a,b,I.unmark ok,q⟩
 | ret v=>obtain⟨a,b,c,I,q⟩:=h;exact⟨a,b,c,I.unmark ok,q⟩
def H9{M:Model}{h:Go}{a:lf}{o:Obj}(ho:h.get? a=ga o):W.Looks M h (typeOf (.ref a)) o.cls:=by intro A Q E s k q;unfold typeOf;exact cX (wpAny_load (k a o ho) (dw q))
def G6{M:Model}{A:Ar}{E:QQX}{a C T:lf}{Q:Unit->Sd->Prop}(x:QI s.heap a (.ref C) dx (ga T))(h:∀h':Go,(∀b,h'.get? b=s.heap.get? b)->Q () {s with heap:=h'}):Ch M A (setFlight (.ref a) Fa) Q E s:=by
 obtain⟨oe,vs,ho,hc,_,hd,h1,hv,hT⟩:=x;obtain⟨nTe,oT,ts,YB,Y4,h3,hn⟩:=hT T Z';unfold setFlight;refine cX (eZ ho hd hv ?_);rw[df (by rfl)];refine ie YB Y4 h3 (h _ λb=>?_);by_cases z:T=b
 .subst z;obtain⟨oc,od,odt,Ym⟩:=oT;obtain rfl:odt=.fields ts:=Y4;rw[fD _ YB Z',YB];show ga (Obj.mk oc od (.fields (ts.setIfInBounds 3 .none)) Ym)=_;have:ts.setIfInBounds 3 .none=ts:=by
   apply Array.ext
   .simp
   .intro i h1 h2;rw[Array.getElem_setIfInBounds];split
    .rename_i e;subst e;rw[Array.getElem?_eq_getElem h3]at hn;exact(dv hn).symm
    .rfl
  rw[this]
 .exact fZ _ _ z
def S'(X:Cx)(e:zn)(t:St->Hp->VK->(Hp->Prop)->XK->Prop):Prop:=∀(Xn:QQY) (s:Sd) (Y:St) (H:Hp) (Q:VK) (J:Hp->Prop) (E:XK),Inv X Xn Y H s->t Y H Q J E->Ch (pi X.prog X.w) X.A (No e X.env) (EP X Xn Y Q) (Wl X Xn Y J E) s
def W4(X:Cx)(st:xz)(t:EC->St->Hp->(Hp->Prop)->XK->Prop):Prop:=∀(Xn:QQY) (s:Sd) (Y:St) (H:Hp) (D:EC) (J:Hp->Prop) (E:XK),Inv X Xn Y H s->t D Y H J E->Ch (pi X.prog X.w) X.A (exec st X.env) (SP X Xn D) (Wl X Xn Y J E) s
def Oz{X:Cx}{i:Nat}{x:Str}{te:St->Hp->VK->(Hp->Prop)->XK->Prop}{pos Xw:Pos}(hN:X.N.Nodup)(hi:X.N[i]?=ga x)(hx:KM X.env.scope x)(he:S' X e te)(hs:Ix e (ga (.Name x Xw)) pos.line X.env=pure pc:=by rfl)(hf:KL X x:=by first|exact .inl Z'|exact .inr Z'|assumption):
  W4 X (.Assign [.Name x Xw] e pos) (λD Y H J E=>te Y H (λv H'=>D.nx (Y.set i (ga v)) H') J E):=by
 intro Xn s Y H D J E I h;refine kW (rR (he Xn s Y H _ J E I h) λv s1 zz=>x5 zz λy H1 I1 r1 q1=>?_) hs;exact Cw I1 hN hi hx r1 (λs2 I2=>⟨_,H1,I2,q1⟩) hf
variable {k:Nat}{f C:lf}{fd:Rs}{ps:QQQ}{sp:Sp}{Yf:T0 V}{ds:T0 Vl}{m:Str}{p pos Xq:Pos}{e o:zn}{es:T0 zn}{t:TA}
section
variable {x:Str}
def Nt(F:xl X.prog X.w X.K X.mg X.base (BN X.prog X.w) k f fd ps sp)(hr:rS k X.A)(hg:Gl X x)(hm:X.mg x=ga (.ref f))(hk:W.keepIn X.K (.ref f)=Db)(hb:uK X.K fd ps ds)(hd:qw Yf ds) (ha:PA (X.nK λ_ _=>False) (e::es) t) (XF:zb x:=by decide) (he:A9 X e es:=by rfl) (XC:CP X pos es:=by rfl):
  S' X (.Call (.Name x p) (e::es) [] pos) (λY H Q J E=>t Y H λvs H1=>J H1/\sp (vs++Yf) H1 Q E):=by
 intro Xn s Y H Q J E I h;refine gh (wG I hg hm ?_ XF);refine iO (h₀:=X.base) I.ok.mod.nW hk (eC (ha pos Xn s Y H _ I.nK h) (λus s1 ⟨vs,H1,I1,r,jH,q⟩=>⟨I1.mR,?_⟩) λ_ _ z=>z.elim) he XC;have I1:=I1.xeOf;have r2:qw (vs++Yf) (us++ds):=r.append hd;have hl:(us++ds).length=ps.length:=by rw[<-r2.length];exact F.len _ _ _ _ q
 refine iN (gT (F.run X.A X.stack s1 H1 ⟨us,[]⟩ (us++ds) (vs++Yf) Q E hr I1.nR (hb s1 us I1.mR hl) r2 q) λr s' hq=>?_);cases r with
 | error e=>exact⟨H1,s1,jH,I1,hq⟩
 | ok fl=>
  cases fl with
  | ret u=>exact I1.after hq
  | next=>exact False.elim hq
  | brk=>exact False.elim hq
  | cont=>exact False.elim hq
end
def Pk{st b₀:xz}{Yh:T0 xz}{cnp Zf pos:Pos}{Cc L:lf}{outer:T0 Env}{t:EC->St->Hp->(Hp->Prop)->XK->Prop}(hb:W4 X st t)(XJ:X.stack=X.env::outer)(hL:X.env.frame=ga L)(hg:Gl X cn)(hm:X.mg cn=ga (.ref Cc))(hs:∀ev E',B7 (X.marked ev E') (b₀::Yh) th) (XF:zb cn:=by decide):
  PS X (.Try [st] [.ExceptHandler (ga (.Name cn cnp)) Fa (b₀::Yh) Zf] [] [] pos) (λD Y H=>∃(J:Hp->Prop) (E:XK),t D Y H J E/\∀C dx H1 H',J H1->TKept H1 H'->E (.ref C) dx H'->W.exmOne X.K (.ref C) (.ref Cc)=ga Db/\th D Y H'):=by
 intro Xn s Y H D I ⟨J,E,h,hh⟩;refine wpAny_Try_except (eC (Q:=λf s'=>SP X Xn D f s') (jv (rR (hb Xn s Y H D J E I h) λf s1 q=>?_)) (λf s1 q=>?_) λev s1 x=>?_)
 .cases f with
  | next=>exact gZ q
  | brk=>exact q
  | cont=>exact q
  | ret v=>exact q
 .cases f with
  | next=>exact gZ q
  | brk=>exact q
  | cont=>exact q
  | ret v=>exact q
 .refine eC (Tp x XJ hL) (λ_ s2 y=>rR y λ_ s3 z=>?_) λ_ _ z=>z;obtain⟨a,C,dx,H',tb,H1,s1,rfl,q,I3,x3,na,nt,jH,tk,I1,n1⟩:=z;obtain⟨Xp,h1⟩:=hh C dx H1 H' jH tk q;refine wpAny_handleBy_cons (codeAny_handlers_test (wG (X:=X.marked (.ref a) λ_ _=>False) I3.mark hg hm ?_ XF)) (by intro z;cases z);obtain⟨oe,vs,ho,hc,_⟩:=id x3;refine W.exm_one I3.mR (H9 ho) (by rw[hc];exact Xp) _ _ _ _ (λ_ _ z=>z) ?_;refine codeAny_handlers_suite (G6 x3 λh' hh'=>?_);have I4:Inv X Xn Y H' {s3 with heap:=h'}:=I3.kept (t':=s3.toks) λb u z=>by rw[hh' b];exact z
  refine eC (hs (.ref a) _ Xn _ Y H' D I4.mark h1) (λf s5 q5=>SP.unmark I.ok q5) λ_ _ z=>z
variable {prog:Pg}{w:Wo}{A:Ar}{E:QQX}{K:qk}{ox:Obj}
section
variable {x:lf}
end
end L2
namespace L3
open L2
theorem _root_.L2.TKept.ext{K:qk}(h:TKept H H'):qJ K H H':=⟨λa xs q=>by
 rcases q with(q|⟨u,q⟩)|q
 .exact .inl (.inl (h.1 a xs q))
 .exact .inl (.inr ⟨u,h.2 a u _ q⟩)
 .exact .inr q,λa o xs q=>h.2 a o _ q⟩
abbrev Um:=vj->Mp->DK->XR->Prop
def W5(K:qk)(t:Um):St->Hp->VK->(Hp->Prop)->XK->Prop:=λY H Q' J E=>Co λU M Q R=>zQ K H Y U/\HM K H M/\t U M Q R/\(∀v H' d M',rH K H' d v->HM K H' M'->qJ K H H'->Q d M'->Q' v H')/\(∀H1,qJ K H H1->J H1)/\TN K R E
def WY(X:Cx)(e:zn)(t:Um):Prop:=S' X e (W5 X.K t)
def S'.mono{t t':St->Hp->VK->(Hp->Prop)->XK->Prop}(h:S' X e t)(m:∀Y H Q J E,t' Y H Q J E->t Y H Q J E):S' X e t':=λXn s Y H Q J E I q=>h Xn s Y H Q J E I (m Y H Q J E q)
variable {X:Cx}{x:Str}{p pos np Xu:Pos}{e:zn}{es:T0 zn}{t:xf}{k:Nat}{f C:lf}{fd:Rs}{ps:QQQ}{sp:Ge}
def LU(F:SU X.prog X.w X.K X.mg X.base k f fd ps sp)(hr:rS k X.A)(hg:Gl X x)(hm:X.mg x=ga (.ref f))(hk:W.keepIn X.K (.ref f)=Db)(hb:uK X.K fd ps [])(ha:A3 (X.nK λ_ _=>False) (e::es) t) (XF:zb x:=by decide) (he:A9 X e es:=by rfl) (XC:CP X pos es:=by rfl):
  WY X (.Call (.Name x p) (e::es) [] pos) (λU M Q R=>t U M λds M1=>sp ds M1 Q R):=S'.mono (Nt F hr hg hm hk hb .nil ha XF he XC) λY H Q' J E ⟨U,M,Q,R,hs,hm,ht,k,kJ,kR⟩=>
 ⟨U,M,_,hs,hm,ht,λvs H1 ds M1 hd Xp e1 q1=>⟨kJ H1 e1,ds,M1,Q,R,by rw[eN];exact hd,Xp,q1,vJ e1 k,kR⟩⟩
variable {b₀:xz}{Yh:T0 xz}{cn n:Str}{cnp Zf Xq xpos:Pos}{Cc L:lf}{outer:T0 Env}{i ix:Nat}{te:Um}{th:xj}
def Wr(K:qk)(ix:Nat)(Cc:lf)(te:Um)(th:xj):xj:=λD U M=>∃R,te U M (λd M1=>D.nx (U.set ix (ga d)) M1) R/\∀C y M',R C y M'->W.exmOne K (.ref C) (.ref Cc)=ga Db/\th D U M'
def OS(he:WY X e te)(XJ:X.stack=X.env::outer)(hL:X.env.frame=ga L)(hg:Gl X cn)(hm:X.mg cn=ga (.ref Cc))(hN:X.N.Nodup)(hix:X.N[ix]?=ga x)(hx:X.env.scope.names.lookup x=ga .local) (hs:∀ev E',G8 (X.marked ev E') (b₀::Yh) th) (XF:zb cn:=by decide) (YU:Ix e (ga (.Name x xpos)) Xq.line X.env=pure pc:=by rfl):
  S3 X (.Try [.Assign [.Name x xpos] e Xq] [.ExceptHandler (ga (.Name cn cnp)) Fa (b₀::Yh) Zf] [] [] pos) (Wr X.K ix Cc te th):=
 PS.nH (Pk (th:=VE X.K th) (Oz hN hix (.inl hx) he YU (.inr hx)) XJ hL hg hm hs XF) λD' Y H hl ⟨U,M,D,hs,hm,⟨R,ht,hh⟩,k1,k2,k3,k4⟩=>by
  refine⟨λH1=>qJ X.K H H1,λcv d H'=>∃C M' y,cv=.ref C/\HM X.K H' M'/\Ua X.K H' d y/\R C y M',⟨U,M,_,R,hs,hm,ht,λv H1 d M1 hd Xp e1 q1=>?_,λ_ z=>z,λC dx H' M' y h1 h0 h2=>⟨C,M',y,Z',h1,h0,h2⟩⟩,λC dx H1 H' jH tk ⟨C',M',y,ec,YW,ZX,r⟩=>?_⟩
  .exact k1 _ H1 _ M1 ((hs.mono e1).set hd (by rw[hl];exact(cZ.mp hix).1)) Xp e1 (by simp) q1
  .cases ec;obtain⟨r1,r2⟩:=hh C y M' r;have e1:qJ X.K H H':=jH.trans (L2.TKept.ext tk);refine⟨r1,U,M',D,hs.mono e1,YW,r2,λσ2 H2 δ2 M2 y1 y2 y3 y4 y5=>?_,λv H2 d M2 y1 y2 y3 y5=>?_,λσ2 H2 δ2 M2 y1 y2 y3 y4 y5=>?_,λσ2 H2 δ2 M2 y1 y2 y3 y4 y5=>?_⟩
   .exact k1 _ H2 _ M2 y1 y2 (e1.trans y3) y4 y5
   .exact k2 _ H2 _ M2 y1 y2 (e1.trans y3) y5
   .exact k3 _ H2 _ M2 y1 y2 (e1.trans y3) y4 y5
   .exact k4 _ H2 _ M2 y1 y2 (e1.trans y3) y4 y5
end L3
namespace L2
noncomputable def By(es:Array DictEntry):Bool:=es.toList.all λe=>match e.key with|.str _ _=>Db|_=>pc
def Cs{es:Array DictEntry}(h:By es=Db):StrKeys es:=λe he=>by
 have:=eX.mp h e (j5.mpr he);cases z:e.key with
 | str n t=>exact⟨n,t,Z'⟩
 | _=>rw[z]at this;cases this
abbrev K1:T0 Vl:=[.type "ValueError",.type "Exception",.type "BaseException",.type "object"]
def PQ{K:qk}{t:Vl}{C:lf}{cd:ClassData}{b:Bool}(q0:W.subIn K (.ref C) (.type "BaseException")=ga Db)(q1:W.clsIn K C=ga cd)(q2:W.typeIn K (.ref C)=ga (.type "type"))(s:W.subIn K t (.ref C)=ga b):W.exmOne K t (.ref C)=ga b:=by unfold W.exmOne;rw[q0,df (by rfl)];unfold W.kitCls;simp only;rw[q1,q2,df (by rfl)];exact s
end L2
namespace L3
open L2
end L3
namespace L2
theorem CA(self:Vl):∀own:QXQ,refuseLoop self "__setattr__" (own.map Value.ref++K1)=pure ()
 | []=>jE.passes self
 | c::r=>by show refuseLoop self "__setattr__" (.ref c::(r.map Value.ref++K1))=pure ();rw[refuseLoop_ref];exact CA self r
variable {prog:Pg}{w:Wo}{A:Ar}{s:Sd}{K:qk}{x C:lf}{ox:Obj}{own:QXQ}{name:Str}{v:Vl}
section
variable {E:QQX}{cd:ClassData}
def Oa{Q:Unit->Sd->Prop}(X:K.In s.heap)(I:W.InstAt s.heap x ox C Fa)(hs:W.findIn K (.ref C) "__setattr__"=ga (ga (.builtin "object.__setattr__")))(hc:W.clsIn K C=ga cd)(hm:cd.mro=own.map Value.ref++K1)(ht:W.takerIn K C name=ga Fa)(hd:cd.hasDict=Db) (h:∀h' d t,(∀b o,b≠x->s.heap.get? b=ga o->h'.get? b=ga o)->h'.get? x=ga {ox with dict:=some d}->s.heap.get? d=Fa->d≠x->h'.Ns1 d (λy=>if y=name then ga v else Fa)->Q () {s with heap:=h',toks:=t}):Ch (pi prog w) A (setAttr (.ref x) name v) Q E s:=by
 refine W.set_plain X I hs ?_;have SF:=jE;have ne:cd.mro.isEmpty=pc:=by rw[hm];cases own<;>rfl
 have has:cd.mro.contains (.type "object")=Db:=by
  rw[hm,List.contains_eq_any_beq,lR];have:K1.any (Value.type "object"==·)=Db:=by decide+kernel
  rw[this,kO]
 have sub:W.Looks (pi prog w) s.heap (isInstance (.ref x) (.type "object")) Db:=I.type.andThen (W.looks_mroIn X (by unfold W.mroIn;rw[hc,lK,de (by rw[ne];decide),has]));refine j9 SF.slot.plain SF.entry (@PySem.W.check_slot (pi prog w) _ _ {s with toks:=s.toks+1} "object.__setattr__" "object" "__setattr__" (.ref x) [.str name s.toks,v] [] _ SF.kind SF.split sub (SF.args (.ref x) (.str name s.toks) v) ?_);obtain⟨attr,ha,hr⟩:=Option.bind_eq_some_iff.mp ht;have hmro:W.Looks (pi prog w) s.heap (mroOf (.ref C)) cd.mro:=(km X hc).andThen .now;have L3':W.Looks (pi prog w) s.heap (Builtin.ObjectAttr.storeTaker? attr) Fa:=by
  cases attr with
  | none=>exact .now
  | some a=>
   obtain⟨b,hb,hr⟩:=jV.mp hr;refine(W.looks_takesIn X hb).andThen ?_;cases b
   .exact .now
   .cases hr
 rw[W.osa_eq,refuse_eq];refine cX (cX (I.type.here (s:={s with toks:=s.toks+1}) (cX (hmro.here (s:={s with toks:=s.toks+1}) ?_))));rw[hm,CA];refine dw (cX (I.type.here (s:={s with toks:=s.toks+1}) (cX ((lV X ha).here (s:={s with toks:=s.toks+1}) (cX (L3'.here (s:={s with toks:=s.toks+1}) ?_))))));obtain⟨hx,hcl,hn,ZX⟩:=I;obtain⟨oc,odi,oda,Ym⟩:=ox;dsimp only at hcl ZX;subst hcl;cases odi with
 | some _=>exact ZX.elim
 | none=>
  refine cX (dw (cX (cX (wpAny_loadPart hx (cX (lZ (s:={s with toks:=s.toks+1}) (km X hc) ?_))))));rw[hd];rw[de (by decide)];obtain⟨hh,g,dr,tk,os⟩:=s;dsimp only at hx h ⊢;rw[de (by simp[typeHasDict])];split
  .cases hn
  .have y1:(hh.push W.emptyDict).get? x=ga ⟨.ref C,Fa,oda,Ym⟩:=dg _ hx;have nx:x≠hh.objs.size:=λz=>eS _ (z ▸ dE hx);refine cX (wpAny_alloc' (cX (wpAny_update' y1 (dw ?_))));have e0:((hh.push W.emptyDict).update x λo=>{o with dict:=some hh.objs.size}).Ns hh.objs.size (λ_=>Fa):=⟨W.emptyDict,#[],_,(ku _ _ _ _ nx.symm).trans (dJ hh Z'),Z',λe he=>absurd he (by simp),λ_=>rfl⟩;refine cX (dw (cX (wpAny_nsSet1 (kY e0) λh' n1 sb=>?_)));obtain⟨oD,esD,epD,g1,g2,g3⟩:=n1.count (Within.cons name v Within.nil);refine cX (lA g1 (g2 ▸ lB (dZ g3 (by rw[dP,dM];decide))) (dw (h h' hh.objs.size _ (λb o hb z=>?_) ?_ (gO (dq _)) nx.symm n1)))
   .exact(sb.2 b λy=>eS _ (y ▸ dE z)).trans ((ku _ _ _ _ hb).trans (dg _ z))
   .refine(sb.2 x nx).trans (fD _ y1 ?_);have fr:=(Heap.get?_some_iff.mp hx).2;cases oda with
    | _=>first|rfl|exact fr
end
variable {nm q:Str}{bs bm YQ:T0 Vl}{hdct:Bool}{sn:QQQ}{sub:T0 Vl}{ab:Bool}{col:Option Bool}{dd:Option lf}{k0 k1 k2 k3 k5:Option Vl}{B Bn newId nid XT zP:String}{bmN:T0 Vl}{h:Go}{g:Array GenState}{d:Drawn}{t:Nat}{os:OsState}
section
variable {E:QQX}{N:lf}
abbrev Of(C t:lf):Obj:={cls:=.ref C,data:=.fields #[.ref t,.none,.none,.none,.bool pc,.none]}
def AX(Fn:TW Bn newId zP bmN)(hBn:YQ.contains (.type Bn)=Db)(F:TW B nid XT YQ)(T:OwnTail h YQ bm){mN:QQZ}{us:T0 Vl}{fI:lf}{oI:Obj}{Q:PySem.Fin->Sd->Prop} (hC:h.get? C=ga (u8 nm q C N bs bm hdct sn sub ab col dd k0 k1 k2 k3 k5 newId)) (hn:h.Ns N mN) (hi:mN "__init__"=ga (.ref fI)) (hf:h.get? fI=ga oI) (hfc:oI.cls=.type "function") (Xt:us.length<=Uf) (hq:∀h' e,Heap.MadeExcOf h h' e (.ref C) us->Ch (pi prog w) A (call (.ref fI) (.ref e::us)) (λr s'=>r=.none/\Q (.done (.ret (.ref e))) s') E ⟨h',g,d,t,os⟩):
  Ch (pi prog w) A (Builtin.«type.__call__» ⟨.ref C::us,[]⟩) Q E ⟨h,g,d,t,os⟩:=by
 repeat (first|with_reducible refine hZ hC ?_|with_reducible refine wpAny_madeBy_exc hC ?_|wp_step)
 refine codeAny_call_builtin_code (jc _ Fn.quiet) (wpAny_check_new_subU Fn hBn T hC (codeAny_exc_new_subU Fn hBn F T hC ?_ Xt));have kp:∀b o,h.get? b=ga o->((h.push {cls:=.type "tuple",data:=.seq us.toArray}).push (Of C h.objs.size)).get? b=ga o:=λb o z=>dg _ (dg _ z);have gE:((h.push {cls:=.type "tuple",data:=.seq us.toArray}).push (Of C h.objs.size)).get? (h.objs.size+1)=ga (Of C h.objs.size):=by heap_get
 have hC2:=kp _ _ hC;have Z5:((h.push {cls:=.type "tuple",data:=.seq us.toArray}).push (Of C h.objs.size)).Ns N mN:=let⟨o,es,ep,e,r⟩:=hn;⟨o,es,ep,kp _ _ e,r⟩;have cC:(Value.ref C::bm).contains (.ref C)=Db:=by rw[iA,ft,ib]
 have T2:=T.keeps kp;show Ch _ _ _ _ _ _;unfold isInstance
 repeat (first|with_reducible refine hZ gE ?_|(with_reducible refine kx hC2 ?_;rw[cC])|wp_step)
 show Ch _ _ (typeLookup (.ref C) _) _ _ _;refine wpAny_typeLookup_tail hC2 Z5 T2 F.mroIs F.init.lookup ?_;rw[hi];refine e9 (cX ?_);unfold bindSpecial;refine cX (jx (T:="function") ⟨_,kp _ _ hf,hfc⟩ ?_);rw[df (by decide)];refine dw (cX (eC (hq _ (h.objs.size+1) ⟨kp,gO (hU _),h.objs.size,gE,gO (dq _),dg _ (Heap.get?_push_at Z' Z')⟩) (λr s' hr=>?_) λ_ _ z=>z));obtain⟨rfl,hQ⟩:=hr
 wp_walk
 exact hQ
def Hr(Fn:TW Bn newId zP bmN)(hBn:YQ.contains (.type Bn)=Db)(F:TW B nid XT YQ)(T:OwnTail h YQ bm){mN:QQZ}{us:T0 Vl}{fI:lf}{oI:Obj}{Q:QQX} (hC:h.get? C=ga (u8 nm q C N bs bm hdct sn sub ab col dd k0 k1 k2 k3 k5 newId)) (hn:h.Ns N mN) (hi:mN "__init__"=ga (.ref fI)) (hf:h.get? fI=ga oI) (hfc:oI.cls=.type "function") (Xt:us.length<=Uf) (hq:∀h' e,Heap.MadeExcOf h h' e (.ref C) us->Ch (pi prog w) (A.under (.builtin "type.__call__" ⟨.ref C::us,[]⟩)) (call (.ref fI) (.ref e::us)) (λr s'=>r=.none/\Q (.ref e) s') E ⟨h',g,d,t,os⟩):
  Ch (pi prog w) A (call (.ref C) us) Q E ⟨h,g,d,t,os⟩:=by
 have f1:=tc_lookup;have f2:=tc_bind (.ref C);have hT:(⟨h,g,d,t,os⟩:Sd).TypeIs (.ref C) "type":=⟨_,hC,Z'⟩;refine iN (codeAny_of_tree ?_);show Ch _ _ (callAny (.ref C) _) _ _ _
 repeat (any_goals(first|assumption|with_reducible refine hZ hC ?_|wp_step))
 exact⟨Z',codeAny_call_builtin_at (jc _ (by decide+kernel)) entry_typeCall (wpAny_check_type_call_sub hC (AX Fn hBn F T hC hn hi hf hfc Xt hq))⟩
end
variable {M:Model}{env:Env}
section
variable {E:QQX}{N:lf}
def Jp(h:Go)(e C:lf)(dx:Option lf):Prop:=CQ λt sl=>h.get? e=ga ⟨.ref C,dx,.fields #[.ref t,.none,.none,.none,.bool pc,.none],sl⟩
def Gx{x:Sem Vl}{Q:Flow->Sd->Prop}(XI:bm.contains (.type "BaseException")=Db)(hh:A.handled=Fa) (h:Ch M A x (λv s₁=>∃e dx,v=.ref e/\s₁.heap.get? C=ga (u8 nm q C N bs bm hdct sn sub ab col dd k0 k1 k2 k3 k5 newId)/\Jp s₁.heap e C dx/\E (.ref e) s₁) E s):
  Ch M A (raiseStmt env (ga x) Fa) Q E s:=by
 have cB:(Value.ref C::bm).contains (.type "BaseException")=Db:=by rw[iA,XI,kO]
 unfold raiseStmt;refine cX (eC h (λv s₁ ⟨e,dx,ev,hC,⟨t,sl,he⟩,hE⟩=>?_) λ_ _ z=>z);subst ev;obtain⟨hp,g,d,tk,os⟩:=s₁
 repeat (first|with_reducible refine hZ he ?_|with_reducible refine hZ hC ?_|(with_reducible refine kx hC ?_;rw[cB])|wp_step)
 exact wpAny_raiseNew_none hh hE
def G4(Fn:TW Bn newId zP bmN)(hBn:YQ.contains (.type Bn)=Db)(F:TW B nid XT YQ){mN:QQZ}{fI:lf}{x:Str}{np Xu pos:Pos}{args:T0 zn}{Q:Flow->Sd->Prop} (XI:bm.contains (.type "BaseException")=Db) (hh:A.handled=Fa) (XE:(wv Xu (Tk args env)).any (·.1)=pc) (hi:mN "__init__"=ga (.ref fI)) (h:Ch (pi prog w) A (No (.Name x np) env) (λf s₁=>f=.ref C/\Ch (pi prog w) A (evalArgs (.ref C) Db (wv Xu (Tk args env)) []) (λa s₂=>a.kw=[]/\a.pos.length<=Uf/\s₂.heap.get? C=ga (u8 nm q C N bs bm hdct sn sub ab col dd k0 k1 k2 k3 k5 newId)/\s₂.heap.Ns N mN/\OwnTail s₂.heap YQ bm/\(∃oI,s₂.heap.get? fI=ga oI/\oI.cls=.type "function")/\
    ∀h' e,Heap.MadeExcOf s₂.heap h' e (.ref C) a.pos->Ch (pi prog w) (A.under (.builtin "type.__call__" ⟨.ref C::a.pos,[]⟩)) (call (.ref fI) (.ref e::a.pos))
     (λr s'=>r=.none/\∃dx,s'.heap.get? C=ga (u8 nm q C N bs bm hdct sn sub ab col dd k0 k1 k2 k3 k5 newId)/\Jp s'.heap e C dx/\E (.ref e) s') E {s₂ with heap:=h'}) E s₁) E s):
  Ch (pi prog w) A (exec (.Raise (ga (.Call (.Name x np) args [] Xu)) Fa pos) env) Q E s:=by
 rw[arm_exec_Raise];refine cX (im (Gx (C:=C) (nm:=nm) (q:=q) (N:=N) (bs:=bs) (bm:=bm) (hdct:=hdct) (sn:=sn) (sub:=sub) (ab:=ab) (col:=col) (dd:=dd) (k0:=k0) (k1:=k1) (k2:=k2) (k3:=k3) (k5:=k5) (newId:=newId) XI hh ?_));refine cX (eC (wpAny_Call_ofName (eC h (λf s₁ ⟨ef,h₁⟩=>?_) λ_ _ z=>z)) (λv s₃ h₃=>cX (im (dw h₃))) λ_ _ z=>z);subst ef;unfold XXd;refine cX (e9 (eC h₁ (λa s₂ h₂=>cX (im ?_)) λ_ _ z=>z));obtain⟨Xq,akw⟩:=a;obtain⟨hkw,Xt,hC,hn,T,⟨oI,hf,hfc⟩,h₂⟩:=h₂;obtain rfl:akw=[]:=hkw;obtain⟨hp,g,d,tk,os⟩:=s₂;simp only[XE];refine cX (wpAny_keeperOf_exc hC (cX (Hr Fn hBn F T hC hn hi hf hfc Xt λh' e hm=>eC (h₂ h' e hm) (λr s' ⟨z,dx,c1,c2,c3⟩=>⟨z,cX (e9 (wpAny_point (dw ⟨e,dx,Z',c1,c2,c3⟩)))⟩) λ_ _ z=>z)))
end
def x0(a C:lf)(h:Go):Prop:=Jp h a C Fa
def x1(a C d:lf)(h:Go):Prop:=Jp h a C (ga d)
structure yE(K:qk)(C:lf)(f:Str):Prop where
 sa:W.findIn K (.ref C) "__setattr__"=ga (ga (.builtin "object.__setattr__"))
 cd:∃cd own,W.clsIn K C=ga cd/\cd.mro=List.map Value.ref own++K1/\cd.hasDict=Db
 tk:W.takerIn K C f=ga Fa
variable {X:Cx}{Xn:T0 (lf × Obj)}{Y σ':St}{H H1:Hp}{s1:Sd}{a:lf}
section
variable {f:Str}
def GQ{A:Ar}{E:QQX}{Q:Unit->Sd->Prop}(I:Inv X Xn Y H s)(e:H a=ga (.ext (x0 a C)))(ry:qy y u)(st:yE X.K C f)(h:∀d s',H d=Fa->d≠a->Inv X Xn Y (upd (upd H a (.ext (x1 a C d))) d (.ext (O8 d f y))) s'->Q () s'):Ch (pi X.prog X.w) A (setAttr (.ref a) f u) Q E s:=by obtain⟨⟨t,sl,ho⟩,_,_⟩:=I.mH a _ e;obtain⟨cd,own,c1,c2,c3⟩:=st.cd;refine Oa I.mR ⟨ho,Z',Z',trivial⟩ st.sa c1 c2 st.tk c3 λh' d tk k1 k2 dn da n1=>h d _ (zi I.mH dn) da ?_;have I2:=I.write (t':=tk) (x:=a) (e:=a) (o:=.ext (x1 a C d)) (by rw[e];exact True.intro) (.inl Z') k1 ⟨_,k2⟩ ⟨⟨t,sl,k2⟩,⟨_,k2⟩,λh1 h2 ⟨t',YR,z⟩ kk=>⟨t',YR,kk _ z⟩⟩;refine I2.adopt I dn (by rw[pS da];exact zi I.mH dn) ⟨⟨u,n1,ry⟩,?_,λh1 h2 ⟨u,n,r⟩ kk=>⟨u,n.at kk,r⟩⟩;obtain⟨o,_,_,z,_⟩:=n1;exact⟨o,z⟩
def Inv.drop{φ:Go->Prop}(I:Inv X Xn Y H s)(ea:H a=ga (.ext φ)):Inv X Xn Y (λb=>if b=a then Fa else H b) s:=by
 have less:∀b,H b=Fa->(if b=a then Fa else H b)=Fa:=λb e=>by split<;>first|rfl|exact e
 have keep:∀b o,H b=ga o->(∀φ,o≠.ext φ)->(if b=a then Fa else H b)=ga o:=λb o e n=>by
  rw[de]
  .exact e
  .intro z;rw[z,ea]at e;exact n φ (dv e).symm
 refine⟨I.ok,I.os,I.bare,⟨I.base.keep,I.base.slot,λb o e h0 hb=>less b (I.base.free b o e h0 hb),I.base.there,λb xs e=>keep b _ (I.base.nk b xs e) (λ_ z=>nomatch z),λb o u e=>keep b _ (I.base.mZ b o u e) (λ_ z=>nomatch z),λb ps e=>?_⟩,I.loc,I.cell,less _ I.free,λx c e=>less _ (I.mM x c e),λp hp=>⟨(I.pin p hp).1,less _ (I.pin p hp).2.1,(I.pin p hp).2.2⟩,λb ob e=>?_,I.len⟩
 .obtain⟨more,z⟩:=I.base.nB b ps e;exact⟨more,keep b _ z (λ_ z=>nomatch z)⟩
 .have e':H b=ga ob:=by
   by_cases z:b=a
   .rw[df z]at e;cases e
   .rw[de z]at e;exact e
  exact(I.mH b ob e').nq (λ_ _ _ q=>q) (λb' q=>keep b' _ q (λ_ z=>nomatch z)) λb' xs q=>keep b' _ q (λ_ z=>nomatch z)
end
def Mc(K:qk)(ta tv:TE)(f:Str):TS:=λD Y H=>tv Y H λy H1=>ta Y H1 λx H2=>∃a C,x=.ref a/\H2 a=ga (.ext (x0 a C))/\yE K C f/\∀d,H2 d=Fa->d≠a->D.nx Y (upd (upd H2 a (.ext (x1 a C d))) d (.ext (O8 d f y)))
def PM{f:Str}{pos Xw:Pos}{ta tv:TE}(ha:PE X o ta)(hv:PE X value tv)(hs:Ix value (ga (.Attribute o f Xw)) pos.line X.env=pure pc:=by rfl):PS X (.Assign [.Attribute o f Xw] value pos) (Mc X.K ta tv f):=by intro Xn s Y H D I h;refine iM (rR (hv Xn s Y H _ I h) λu s1 zz=>x5 zz λy H1 I1 ry q=>rR (ha Xn s1 Y H1 _ I1 q) λov s2 zz=>?_) hs;obtain⟨x,H2,I2,rx,a,C,ex,ea,st,q2⟩:=zz;subst ex;obtain rfl:ov=Value.ref a:=rx;exact GQ I2 ea ry st λd s3 dn da I3=>⟨Y,_,I3,q2 d dn da⟩
def wn(K:qk)(f:Str):Sp:=λvs H Q _=>Dg λe C y=>vs=[.ref e,y]/\H e=ga (.ext (x0 e C))/\yE K C f/\∀d,H d=Fa->d≠e->Q .mC (upd (upd H e (.ext (x1 e C d))) d (.ext (O8 d f y)))
variable {qual:Str}{scope:XXa}{outer:T0 Env}{s0:Sd}{H0:Hp}{P:Pg}{mg:QQZ}{base:Go}
section
def MS{x qual y1 y2 fl:Str}{st:xz}(F:Pn K x qual st f fd)(S:sT [y1,y2] [y1,y2] (pY st)) (hb:∀(Xy:Vl) (A:Ar) (outer:T0 Env) (s:Sd) (H:Hp) (E:XK),B7 (u9 (BN P w) P w K mg base [y1,y2] qual (pY st) f Xy A outer s H E) (rJ st) (Mc K (HJ 0) (HJ 1) fl)):xl P w K mg base (BN P w) 1 f fd [y1,y2] (wn K fl):=by
 obtain⟨oc,od,kV,X3,pm,an,Xy,ct,Ym,rfl,lk,YE⟩:=F.ex;refine Mg lk YE S (λvs H Q E h=>?_) λA outer s H vs Q' E hr h=>⟨_,hb Xy A outer s H E,?_⟩
 .obtain⟨e,C,y,rfl,_⟩:=h;rfl
 .obtain⟨e,C,y,rfl,h1,h2,q⟩:=h;exact⟨y,Z',.ref e,Z',e,C,Z',h1,h2,q⟩
def Jf(K:qk)(C fI:lf):Prop:=
 ∃nm q N bs bm YQ hdct sn sub ab col dd k0 k1 k2 k3 k5,∃B Bn newId nid XT zP:String,∃bmN,∃mN:QQZ,TW Bn newId zP bmN/\YQ.contains (Value.type Bn)=Db/\TW B nid XT YQ/\bm.contains (Value.type "BaseException")=Db/\mN "__init__"=ga (.ref fI)/\
  ∀h:Go,K.In h->h.get? C=ga (u8 nm q C N bs bm hdct sn sub ab col dd k0 k1 k2 k3 k5 newId)/\h.Ns N mN/\OwnTail h YQ bm/\∃oI,h.get? fI=ga oI/\oI.cls=.type "function"
variable {N:QQQ}{f:lf}{cd:Vl}{E:XK}
def JU{X:Cx}(hX:X=u9 (BN P w) P w K mg base N qual scope f cd A outer s0 H0 E){C fI:lf}{fdI:Rs}{ps:QQQ}{fl:Str}{k:Nat}{x:Str}{np Xu pos:Pos}{e:zn}{ta:TA}(hC:Jf X.K C fI)(F:xl X.prog X.w X.K X.mg X.base (BN X.prog X.w) k fI fdI ps (wn X.K fl))(hr:rS (k+1) X.A)(hb:uK X.K fdI ps [])(st:yE X.K C fl) (hg:Gl X x) (hm:X.mg x=ga (.ref C)) (ha:PA X [e] ta) (hs:Tk [e] X.env=[(pc,No e X.env)]:=by rfl) (XF:zb x:=by decide):
  PS X (.Raise (ga (.Call (.Name x np) [e] [] Xu)) Fa pos) (λ_ Y H=>ta Y H λvs H1=>∃y,vs=[y]/\∀d,H1 d=Fa->E (.ref C) (ga d) (upd H1 d (.ext (O8 d fl y)))):=by
 intro Xn s Y H D I h;obtain⟨nm,q,N',bs,bm,YQ,hdct,sn,sub,ab,col,dd,k0,k1,k2,k3,k5,B,Bn,newId,nid,XT,zP,bmN,mN,f1,f2,f3,f4,f5,Zm⟩:=hC;have hcalm:X.A.handled=Fa:=I.ok.hd (by rw[hX];rfl);refine G4 (nm:=nm) (q:=q) (N:=N') (bs:=bs) (hdct:=hdct) (sn:=sn) (sub:=sub) (ab:=ab) (col:=col) (dd:=dd) (k0:=k0) (k1:=k1) (k2:=k2) (k3:=k3) (k5:=k5) f1 f2 f3 f4 hcalm (by rw[hs];rfl) f5 (wG I hg hm ⟨Z',?_⟩ XF);rw[hs];refine evalArgs_kwB Z' ?_;have Y3:=ha Xu Xn s Y H _ I h;rw[hs]at Y3;refine rR Y3 λus s1 zz=>?_;obtain⟨vs,H1,I1,r1,y,ey,q1⟩:=zz;subst ey;obtain⟨u,rfl,ru⟩:=xh r1;refine wpAny_evalAll_nil ?_;obtain⟨c1,c2,c3,c4⟩:=Zm s1.heap I1.mR;refine⟨Z',by show 1<=Uf;rw[dP];decide,c1,c2,c3,c4,λh' e' md=>?_⟩;obtain⟨mk,mn,t,mt,_⟩:=md;have hn:H1 e'=Fa:=zi I1.mH mn;have I2:Inv X Xn Y H1 {s1 with heap:=h'}:=I1.kept (t':=s1.toks) mk;have I3:Inv X Xn Y (upd H1 e' (.ext (x0 e' C))) {s1 with heap:=h'}:=I2.adopt I1 mn hn ⟨⟨t,_,mt⟩,⟨_,mt⟩,λh1 h2 ⟨t',YR,z⟩ kk=>⟨t',YR,kk _ z⟩⟩;have r2:qw [V.ref e',y] [Value.ref e',u]:=.cons Z' (.cons ru .nil);have YS:wn X.K fl [V.ref e',y] (upd H1 e' (.ext (x0 e' C))) (λv H2=>v=.mC/\∃d,d≠e'/\H1 d=Fa/\H2=upd (upd H1 e' (.ext (x1 e' C d))) d (.ext (O8 d fl y))) (λ_ _ _=>False):=⟨e',C,y,Z',pT,st,λd dn da=>⟨Z',d,da,by rw[pS da]at dn;exact dn,by rw[Ob]⟩⟩;have hl:([Value.ref e',u]:T0 Vl).length=ps.length:=by rw[<-r2.length];exact F.len _ _ _ _ YS
 refine iN (gT (F.run _ X.stack _ _ ⟨[Value.ref e',u],[]⟩ [Value.ref e',u] _ _ _ (hr.make C [u] []) (I3.nR.make C [u] []) (hb _ [Value.ref e',u] I3.mR hl) r2 YS) λr s' Y6=>?_);cases r with
 | error ev=>obtain⟨_,_,_,_,_,_,z,_⟩:=Y6;exact z.elim
 | ok fw=>
  cases fw with
  | ret uv=>
   obtain⟨v,H',I4,rv,ev,d,da,dn,eH⟩:=I3.after Y6;subst ev eH;obtain⟨⟨t',YR,md⟩,_,_⟩:=I4.mH e' _ (by rw[pS (dX da)];exact pT);have I5:Inv X Xn Y (upd H1 d (.ext (O8 d fl y))) _:=(funext λb=>by
    by_cases z:b=e'
    .subst z;rw[df Z',pS (dX da),hn]
    .rw[de z];by_cases z2:b=d
     .subst z2;rw[pT,pT]
     .rw[pS z2,pS z2,pS z]:(λb=>if b=e' then Fa else upd (upd H1 e' (.ext (x1 e' C d))) d (.ext (O8 d fl y)) b)=upd H1 d (.ext (O8 d fl y))) ▸ I4.drop (a:=e') (φ:=x1 e' C d) (by rw[pS (dX da)];exact pT)
   refine⟨rv,ga d,(Zm s'.heap I4.mR).1,⟨t',YR,md⟩,?_⟩;subst hX;have XQ:Un (vZ outer) [] H0 H1 s0.heap s1.heap:=I1.base;exact Vv I5 (tb:=none) ⟨_,_,md,Z',Z',Z',(by show 1<6;decide),Z',λT z=>by cases z⟩ (GK XQ Z' mn) (λT z=>by cases z) (by rw[pS (dX da)];exact hn) (q1 d dn)
  | next=>exact False.elim Y6
  | brk=>exact False.elim Y6
  | cont=>exact False.elim Y6
end
end L2
namespace L3
open L2
variable {P:Pg}{w:Wo}{K:qk}{mg:QQZ}{base:Go}{N:QQQ}{qual:Str}{scope:XXa}{f:lf}{cd:Vl}{A:Ar}{outer:T0 Env}{s0:Sd}{H0:Hp}{E:XK}{x:Str}{np Xu pos:Pos}{e:zn}{C fI:lf}{fdI:Rs}{ps:QQQ}{fl:Str}{k:Nat}{R:XR}{ta:xf}
def Pj(C:lf)(R:XR)(f:Str)(ta:xf):xj:=λ_ U M=>ta U M λds M1=>∃z,ds=[z]/\R C (ga (f,z)) M1
def KJ(hC:Jf K C fI)(F:xl P w K mg base (BN P w) k fI fdI ps (wn K fl))(hr:rS (k+1) (u9 (BN P w) P w K mg base N qual scope f cd A outer s0 H0 E).A)(hb:uK K fdI ps [])(st:yE K C fl)(_:W.findIn K (.ref C) "__init__"=ga (ga (.ref fI)))(hg:Gl (u9 (BN P w) P w K mg base N qual scope f cd A outer s0 H0 E) x)(hm:mg x=ga (.ref C))(hR:TN K R E)(ha:A3 (u9 (BN P w) P w K mg base N qual scope f cd A outer s0 H0 E) [e] ta) (hs:Tk [e] (u9 (BN P w) P w K mg base N qual scope f cd A outer s0 H0 E).env=[(pc,No e (u9 (BN P w) P w K mg base N qual scope f cd A outer s0 H0 E).env)]:=by rfl) (XF:zb x:=by decide):
  S3 (u9 (BN P w) P w K mg base N qual scope f cd A outer s0 H0 E) (.Raise (ga (.Call (.Name x np) [e] [] Xu)) Fa pos) (Pj C R fl ta):=
 PS.mono (JU Z' hC F hr hb st hg hm ha hs XF) λD' Y H ⟨U,M,D,hs,hm,ht,_⟩=>⟨U,M,_,hs,hm,ht,λvs H1 ds M1 hd Xp e1 q1=>by
  obtain⟨z,rfl,r⟩:=q1;obtain⟨v,rfl,hv⟩:=rL hd;exact⟨v,Z',λd dn=>hR C (ga d) _ M1 _ (Xp.add dn) (.inr ⟨d,fl,z,v,Z',Z',pT,hv.mono (.new dn)⟩) r⟩⟩
variable {X:Cx}{b₀:xz}{Yh:T0 xz}{cn:Str}{cnp Zf epos:Pos}{Cc L:lf}{te:Um}{th:xj}
end L3
namespace L2
def NK{K:qk}{C C2 N fI:lf}{nm q:Str}{bs sub:T0 Vl}{hdct ab:Bool}{sn:QQQ}{col:Option Bool}{dd od1 od2 dd2:Option lf}{k0 k1 k2 k3 k5:Option Vl}{oc1 oc2 c0:Vl}{es1 es2:Array DictEntry}{ep1 ep2:Nat}{sl1 sl2 WA:Array (Option Vl)}{cd2:ClassData}{oI:Obj} (l1:K.lookup C=ga (u8 nm q C N bs (.ref C2::K1) hdct sn sub ab col dd k0 k1 k2 k3 k5 "ValueError.__new__")) (n1:K.lookup N=ga ⟨oc1,od1,.dict es1 ep1,sl1⟩) (s1:By es1=Db) (i1:nsFind es1 "__init__"=ga (.ref fI)) (l2:K.lookup C2=ga ⟨c0,dd2,.cls cd2,WA⟩) (n2:K.lookup cd2.ns=ga ⟨oc2,od2,.dict es2 ep2,sl2⟩) (s2:By es2=Db) (i2:nsFind es2 "__init__"=Fa) (l3:K.lookup fI=ga oI) (hf:W.isFn K (.ref fI)=Db):Jf K C fI:=by
 have hc:oI.cls=.type "function":=by have hf:=fj.mp hf;unfold W.typeIn at hf;simp only at hf;rw[l3]at hf;exact dv hf
 refine⟨nm,q,N,bs,.ref C2::K1,K1,hdct,sn,sub,ab,col,dd,k0,k1,k2,k3,k5,"ValueError","ValueError","ValueError.__new__","ValueError.__new__","ValueError.__init__","ValueError.__init__",K1,λn=>nsFind es1 n,ke,by decide+kernel,ke,?_,i1,λh X=>⟨X C _ l1,⟨_,es1,ep1,X N _ n1,Z',Cs s1,λ_=>rfl⟩,.own (X C2 _ l2) ⟨_,es2,ep2,X _ _ n2,Z',Cs s2,λ_=>rfl⟩ i2 .base,oI,X fI _ l3,hc⟩⟩;rw[iA];have:K1.contains (.type "BaseException")=Db:=by decide+kernel
 rw[this,kO]
def JR{K:qk}{C C2 N:lf}{nm q f:Str}{bs sub:T0 Vl}{ab:Bool}{sn:QQQ}{col:Option Bool}{dd:Option lf}{k0 k1 k2 k3 k5:Option Vl}(l1:K.lookup C=ga (u8 nm q C N bs (.ref C2::K1) Db sn sub ab col dd k0 k1 k2 k3 k5 "ValueError.__new__"))(sa:W.findIn K (.ref C) "__setattr__"=ga (ga (.builtin "object.__setattr__")))(tk:W.findIn K (.ref C) f=ga Fa):yE K C f:=by refine⟨sa,⟨_,[C,C2],by unfold W.clsIn;rw[l1],Z',Z'⟩,?_⟩;unfold W.takerIn;rw[tk];rfl
end L2
namespace L3
open L2
variable {X:Cx}{pos Xq:Pos}{o e:zn}{es:T0 zn}{ta:T3}{t:xf}
structure FA where
 f:lf
 d:Rs
 p:QQQ
structure DG(K:qk)(st:xz)(py qual:Str)(ps:QQQ)(x:FA):Prop where
 pe:x.p=ps
 fn:Pn K py qual st x.f x.d
 b:uK K x.d x.p []
 ty:W.isFn K (.ref x.f)=Db
structure TG(K:qk)(mg:QQZ)(st:xz)(py:Str)(ps:QQQ)(x:FA):Prop extends DG K st py py ps x where
 mg:mg py=ga (.ref x.f)
structure MG(K:qk)(C:lf)(st:xz)(py qual:Str)(ps:QQQ)(x:FA):Prop extends DG K st py qual ps x where
 at_:W.findIn K (.ref C) py=ga (ga (.ref x.f))
structure CG(K:qk)(mg:QQZ)(nm:Str)(C:lf):Prop extends Cls K C where
 mg:mg nm=ga (.ref C)
def DG.kp{K:qk}{st:xz}{x:FA}(h:DG K st py qual ps x):W.keepIn K (.ref x.f)=Db:=h.fn.kp
def MG.mW{K:qk}{st:xz}{x:FA}(h:MG K C st py qual ps x):vp K C py x.f:=⟨h.at_,h.ty,h.toDG.kp⟩
def zq(K:qk)(C:lf)(fs:QQQ):Prop:=∀f,fs.contains f=Db->tU K C f
def s8{K:qk}:zq K C []:=λf h=>by simp at h
def pL{K:qk}{C:lf}{g:Str}(h:W.findIn K (.ref C) g=ga Fa)(r:zq K C fs):zq K C (g::fs):=λf q=>by
 rw[iA,hG]at q;rcases q with q|q
 .rw[ZB q];exact h
 .exact r f q
abbrev Fq(P:Pg)(w:Wo)(K:qk)(mg:QQZ)(base:Go)(k:Nat)(x:FA)(sp:rb):Prop:=Tu P w K mg base k x.f x.d x.p sp
abbrev V6(P:Pg)(w:Wo)(K:qk)(mg:QQZ)(base:Go)(k:Nat)(x:FA)(sp:Ge):Prop:=SU P w K mg base k x.f x.d x.p sp
noncomputable def Sa(N P:QQQ)(sc:XXa):Bool:=sc.kind==.function&&(!sc.isCoroutine&&(!sc.isGenerator&&(decide N.Nodup&&(decide (N.take P.length=P)&&((P.all λx=>sc.names.lookup x==ga .local||sc.names.lookup x==ga .cell)&&sc.names.all λy=>!(y.2==.free))))))
def Xc{N P:QQQ}(h:Sa N P sc=Db):sT N P sc:=by
 unfold Sa at h;simp only[dY,gM,fj,eE]at h;obtain⟨h1,h2,h3,h4,h5,h6,h7⟩:=h;refine⟨h1,h2,h3,h4,h5,λx hx=>?_,λy hy e=>?_⟩
 .have:=eX.mp h6 x hx
  simpa using this
 .have:=eX.mp h7 y hy;rw[e]at this;simp at this
variable {P:Pg}{w:Wo}{K:qk}{mg:QQZ}{base:Go}
def Wt{st:xz}{sp:rb}(F:DG K st x qual ps fa)(S:sT N ps (pY st))(len:∀ds M Q,sp ds M Q->ds.length=ps.length) (XH:∀(Xy:Vl) (A:Ar) (outer:T0 Env) (s:Sd) (H:Hp) (E:XK),rS k (A.deeper (sK qual (pY st) s.heap.objs.size fa.f Xy))->
   ∃t,G8 (u9 NU P w K mg base N qual (pY st) fa.f Xy A outer s H E).oq (rJ st) t/\∀ds M Q,sp ds M Q->t {nx:=λ_ M'=>∃Xr,qz Xr M'/\Q .mC Xr,rt:=λd M'=>∃Xr,qz Xr M'/\Q d Xr} (wQ N ds) M):Fq P w K mg base (k+1) fa sp:=by
 unfold Fq;rw[F.pe];exact UG F.fn S len XH
def Uv{st:xz}{sp:Ge}(F:DG K st x qual ps fa)(S:sT N ps (pY st))(len:∀ds M Q R,sp ds M Q R->ds.length=ps.length) (XH:∀(Xy:Vl) (A:Ar) (outer:T0 Env) (s:Sd) (H:Hp) (E:XK) (R:XR),rS k (A.deeper (sK qual (pY st) s.heap.objs.size fa.f Xy))->TN K R E->
   ∃t,G8 (u9 (BN P w) P w K mg base N qual (pY st) fa.f Xy A outer s H E) (rJ st) t/\∀ds M Q,sp ds M Q R->t {nx:=λ_ M'=>∃Xr,qz Xr M'/\Q .mC Xr,rt:=λd M'=>∃Xr,qz Xr M'/\Q d Xr} (wQ N ds) M):V6 P w K mg base (k+1) fa sp:=by
 unfold V6;rw[F.pe];exact UI F.fn S len XH
variable {k n:Nat}{f C:lf}{fa:FA}{st:xz}{qual:Str}{ps:QQQ}{sp:rb}{x m:Str}{p:Pos}
def pC(F:Fq X.prog X.w X.K X.mg X.base k fa sp)(hr:rS n X.A)(T:TG X.K X.mg st x ps fa)(ha:A3 X (e::es) t)(hn:k<=n:=by first|decide|lia)(hg:Gl X x:=by rfl)
  (XF:zb x:=by decide) (he:A9 X e es:=by rfl) (XC:CP X pos es:=by rfl):
  E3 X (.Call (.Name x p) (e::es) [] pos) (AD sp t):=Ov F (hr.mono hn) hg T.mg T.toDG.kp T.b ha XF he XC
def vg(F:Fq X.prog X.w X.K X.mg X.base k fa sp)(hr:rS n X.A)(c:CG X.K X.mg x C)(i:Mk X.K C fa.f)(T:DG X.K st m qual ps fa)(ha:A3 X (e::es) t)(hn:k+1<=n:=by first|decide|lia)(hg:Gl X x:=by rfl)
  (XF:zb x:=by decide) (he:A9 X e es:=by rfl) (XC:CP X pos es:=by rfl):
  E3 X (.Call (.Name x p) (e::es) [] pos) (QO C sp t):=OI c.toCls i F (hr.mono hn) hg c.mg T.b ha XF he XC
def pR{pl:Sem Bool}(he:E3 X o ta)(c:Cls X.K C)(T:MG X.K C st m qual ps fa)(F:Fq X.prog X.w X.K X.mg X.base k fa sp)(hr:rS n X.A)(ha:A3 X (e::es) t)(hn:k<=n:=by first|decide|lia)
  (XJ:A9 X e es:=by rfl) (XC:CP X pos es:=by rfl)
  (ht:No (.Call (.Attribute o m Xq) (e::es) [] pos) X.env=(do
   let ov<-No o X.env
   X' Xq.atName
   let(f,first)<-At [ov] (XV ov m pl)
   XXd pos f first (wv pos (Tk (e::es) X.env)) (xL pos (Op [] X.env))):=by rfl):
  E3 X (.Call (.Attribute o m Xq) (e::es) [] pos) (Ay m (λD s=>D=C/\s=sp) ta t):=
 E7 (R:=λD s=>D=C/\s=sp) he (λD s ⟨e1,e2⟩=>by subst e1 e2;exact⟨c,_,_,_,T.mW,F,T.b⟩) (hr.mono hn) ha XJ XC ht
def vK{pl:Sem Bool}(he:E3 X o ta)(c:Cls X.K C)(T:MG X.K C st m qual ps fa)(F:Fq X.prog X.w X.K X.mg X.base k fa sp)(hr:rS n X.A)(hn:k<=n:=by first|decide|lia)
  (ht:No (.Call (.Attribute o m Xq) [] [] pos) X.env=(do
   let ov<-No o X.env
   X' Xq.atName
   let(f,first)<-At [ov] (XV ov m pl)
   XXd pos f first (wv pos (Tk [] X.env)) (xL pos (Op [] X.env))):=by rfl):
  E3 X (.Call (.Attribute o m Xq) [] [] pos) (Ay m (λD s=>D=C/\s=sp) ta vt):=
 BJ (R:=λD s=>D=C/\s=sp) he (λD s ⟨e1,e2⟩=>by subst e1 e2;exact⟨c,_,_,_,T.mW,F,T.b⟩) (hr.mono hn) ht
def yW{pl:Sem Bool}(cm:LG X.K C m fa.f)(F:Fq X.prog X.w X.K X.mg X.base k fa sp)(hr:rS n X.A)(c:CG X.K X.mg x C)(T:DG X.K st m qual ps fa)(ha:A3 X (e::es) t)(hn:k<=n:=by first|decide|lia)(hg:Gl X x:=by rfl)
  (XF:zb x:=by decide) (XJ:A9 X e es:=by rfl) (XC:CP X pos es:=by rfl)
  (ht:No (.Call (.Attribute (.Name x p) m Xq) (e::es) [] pos) X.env=(do
   let ov<-No (.Name x p) X.env
   X' Xq.atName
   let(f,first)<-At [ov] (XV ov m pl)
   XXd pos f first (wv pos (Tk (e::es) X.env)) (xL pos (Op [] X.env))):=by rfl):
  E3 X (.Call (.Attribute (.Name x p) m Xq) (e::es) [] pos) (AD sp t):=Om cm F (hr.mono hn) hg c.mg T.kp T.b ha XF XJ XC ht
variable {h:Go}{py:Str}{od an:Option lf}{sl:Array (Option Vl)}{kv dc pm cd ct:Vl}
def Jl{fd:Rs}{oc:Vl}(l:K.lookup f=ga ⟨oc,od,.func fd,sl⟩):W.keepIn K (.ref f)=Db:=by unfold W.keepIn;simp only;rw[l]
def Qz{fd:Rs}(l:K.lookup f=ga ⟨.type "function",od,.func fd,sl⟩):W.isFn K (.ref f)=Db:=by unfold W.isFn W.typeIn;simp only;rw[l];rfl
abbrev mS(py qual:Str)(st:xz)(ps:QQQ):Prop:=∀(kV X3 pm:Vl) (an:Option lf) (Xy ct:Vl) (us:T0 Vl),us.length=ps.length->bindArgs (W.fnOf py qual (ul st) (rJ st) (pY st) .none kV X3 pm an Xy ct) ⟨us,[]⟩=pure (ps.zip us)
def QR(l:K.lookup f=ga ⟨.type "function",od,.func (W.fnOf py qual (ul st) (rJ st) (pY st) .none kv dc pm an cd ct),sl⟩)(k:W.codeIn K cd qual=Db)(hb:mS py qual st ps):
  DG K st py qual ps ⟨f,W.fnOf py qual (ul st) (rJ st) (pY st) .none kv dc pm an cd ct,ps⟩:=⟨Z',KZ l k (Jl l),(KZ l k (Jl l)).binds hb,Qz l⟩
def qg(X:K.In h)(G:h.Ns Ps mg)(a:W.nsIn K Ps py=ga (ga (.ref f)))(l:K.lookup f=ga ⟨.type "function",od,.func (W.fnOf py py (ul st) (rJ st) (pY st) .none kv dc pm an cd ct),sl⟩)(k:W.codeIn K cd py=Db)(hb:mS py py st ps):
  TG K mg st py ps ⟨f,W.fnOf py py (ul st) (rJ st) (pY st) .none kv dc pm an cd ct,ps⟩:=⟨QR l k hb,W.mg_of X G a⟩
def pW(a:W.findIn K (.ref C) py=ga (ga (.ref f)))(l:K.lookup f=ga ⟨.type "function",od,.func (W.fnOf py qual (ul st) (rJ st) (pY st) .none kv dc pm an cd ct),sl⟩)(k:W.codeIn K cd qual=Db)(hb:mS py qual st ps):
  MG K C st py qual ps ⟨f,W.fnOf py qual (ul st) (rJ st) (pY st) .none kv dc pm an cd ct,ps⟩:=⟨QR l k hb,a⟩
def wx(X:K.In h)(G:h.Ns Ps mg)(a:W.nsIn K Ps py=ga (ga (.ref C)))(h1:W.plainGet K C Str.empty=Db)(h2:W.hasDictIn K C=Db)(h3:W.plainOver K C=Db)(h4:W.findIn K (.ref C) "__setattr__"=ga (ga (.builtin "object.__setattr__"))):CG K mg py C:=⟨⟨h1,h2,h3,h4⟩,W.mg_of X G a⟩
def P4{x:Str}{a:lf}{es:T0 DictEntry}{ep:Nat}(h:mg x=ga (.ref a))(s:(a==TD)=pc)(l:K.lookup a=ga ⟨.type "dict",Fa,.dict es.toArray ep,#[]⟩) (r:KTD.Rows (λ(ss:QQQ) v=>∃t,v=Value.ref t/\vo K (λ_=>Fa) t (ss.map V.str)) es T):L7 K mg x T:=⟨a,_,_,_,h,s,l,⟨Z',Z',Z'⟩,Z',by simpa using r⟩
def Lb{x qual y1 y2 fl:Str}{st:xz}(F:DG K st x qual [y1,y2] fa)(S:sT [y1,y2] [y1,y2] (pY st)) (hb:∀(Xy:Vl) (A:Ar) (outer:T0 Env) (s:Sd) (H:Hp) (E:XK),B7 (u9 (BN P w) P w K mg base [y1,y2] qual (pY st) fa.f Xy A outer s H E) (rJ st) (Mc K (HJ 0) (HJ 1) fl)):xl P w K mg base (BN P w) 1 fa.f fa.d fa.p (wn K fl):=by
 rw[F.pe];exact MS F.fn S hb
def Vs(ds:T0 D)(M:Mp)(Q:DK):Prop:=match ds with
 | [.ref a]=>(oa M a).elim False λes=>(FW es).elim False λbs=>Q (.bl (bs.any id)) M
 | _=>False
def SM(hc:X.calm=Db):C3 X (.builtin "any") Vs:=by
 intro Xn s Y H vs us Q' I rv h;obtain⟨ds,M,Q,hd,hm,q,k⟩:=h;unfold Vs at q;split at q
 .rename_i a;obtain⟨v,rfl,hv⟩:=rL hd;obtain⟨es,e0,q⟩:=qx q;obtain⟨bs,e1,q⟩:=qx q;cases hv.mw;obtain⟨u,rfl,ru⟩:=xh rv;cases ru;obtain⟨xs,h1,h2,_⟩:=pU hm e0;obtain⟨its,r,pl,hz⟩:=I.list h1;have eits:=Fe e1 h2 r;subst eits;have XN:a≠s.heap.objs.size:=by obtain⟨o,_,e,_⟩:=pl;exact dU (dE e)
  refine call_any_walk (hW pl.isList ?_);refine⟨s.heap.objs.size,_,_,_,_,_,λi=>(bs[i]?).getD pc,Z',j8 (A:=X.A.in1) (I.ok.hd hc) _ a XN (bs.map Value.bool).toArray,⟨⟨_,dJ _ Z',Z',Z'⟩,?_⟩,λi v s' Q E hP hQ=>?_,λh' tk hk=>?_⟩
  .obtain⟨o,n,e,c,d,q⟩:=pl;exact⟨o,dg _ e,c,n,q⟩
  .simp only[iJ,dA]at hP;cases e2:bs[i]? with
   | none=>rw[e2]at hP;cases hP
   | some b=>rw[e2]at hP;cases hP;have hQ:Q ((bs[i]?).getD pc) s':=hQ;rw[e2]at hQ;exact fh hQ
  .have ea:(List.range (bs.map Value.bool).toArray.size).any (λi=>(bs[i]?).getD pc)=bs.any id:=by
    rw[dB,cW];rw[gm,fQ,fQ];constructor
    .rintro ⟨i,hi,z⟩
     have Zo:=gy.mp hi;rw[cY Zo]at z;exact⟨_,ii Zo,z⟩
    .rintro ⟨b,hb,z⟩
     obtain⟨i,hi,e⟩:=gY hb;refine⟨i,gy.mpr hi,?_⟩;rw[cY hi,e];exact z
   rw[ea];refine⟨.bl (bs.any id),H,?_,Z',k _ _ _ _ .bl hm .refl q⟩;exact I.kept (h':=h') (t':=tk) λb o e=>hk b o (by simpa using dU (dE e)) (dg _ e)
 .exact q.elim
def R1:Tl "any"=ga (.builtin "any"):=by decide+kernel
variable {i value:zn}{to ti te td tk tv:T3}
def R9(td tk tv:T3):xj:=λD U M=>tv U M λv M1=>td U M1 λx M2=>tk U M2 λy M3=>match x,y with
 | .ref a,.int k=>(xp M3 a).elim False λkvs=>kvs.length<Uf/\D.nx U (pq M3 a (.dk (wz kvs (.inl k) v)))
 | _,_=>False
def ND(hu:X.A.units+9<wP)(ho:E3 X o td)(hi:E3 X i tk)(hv:E3 X value tv)(hs:Ix value (ga (.Subscript o i Xw)) pos.line X.env=pure pc:=by rfl):S3 X (.Assign [.Subscript o i Xw] value pos) (R9 td tk tv):=
 PS.mono (Iu (by lia) ho hi hv hs) λD' Y H zz=>JG zz λU M D hs hm ht k1 k2 k3 k4=>
 ⟨U,M,_,hs,hm,ht,λv H1 d M1 hd Xp e1 q1=>⟨U,M1,_,hs.mono e1,Xp,q1,λvx H2 x M2 hx XA e2 q2=>⟨U,M2,_,hs.mono (e1.trans e2),XA,q2,λvy H3 y M3 hy XW e3 q3=>by
  split at q3
  .rename_i a0 k0;obtain⟨kvs,f1,f2,q3⟩:=qx q3;cases(hx.mono e3).mw;cases hy.int_inv;obtain⟨vs,h1,h2,h3⟩:=ww XW f1;have hl:vs.length=kvs.length:=by have:=eI List.length h2;simpa using this
   refine⟨_,_,Z',Kk.k (k:=Sum.inl k0) h1 (by lia),?_⟩;have hd3:=hd.mono (e2.trans e3);obtain⟨Zn,e4⟩:=XW.put (o:=.dK (yo vs (Sum.inl k0) v)) (c:=.dk (wz kvs (.inl k0) d)) (vD f1) λex=>by obtain⟨g1,g2⟩:=DT (k:=Sum.inl k0) (hd3.mono ex) h2 (h3.mono ex);exact⟨_,pT,g1,g2⟩
   exact k1 Y _ U _ (hs.mono (e1.trans (e2.trans (e3.trans e4)))) Zn (e1.trans (e2.trans (e3.trans e4))) Z' q3
  .exact q3.elim⟩⟩⟩
def UD:V->V->Hp->VK->Prop:=λo i H Q=>∃p xs k z,o=.ref p/\i=.int k/\H p=ga (.lst xs)/\0<=k/\xs[k.toNat]?=ga z/\Q z H
def Mv:T9 X UD:=by intro Xn s Y H o i ov iv Q I ro ri h;obtain⟨p,xs,k,z,rfl,rfl,hp,h0,hk,q⟩:=h;cases ro;obtain⟨t,rfl⟩:=ri;obtain⟨its,r,pl,hz⟩:=I.list (.inl (.inl hp));obtain⟨w,ew,YT⟩:=r.get hk;have lt:=(cZ.mp hk).1;have hl:=r.length;have hn:=xT;exact wpAny_getItem_list pl.isList h0 (by lia) (by simpa using ew) ⟨z,H,I,YT,q⟩
def Vb(op:XXe)(to ti te:T3):xj:=λE U M=>to U M λx M1=>ti U M1 λy M2=>match x,y with
 | .ref p,.int k=>0<=k/\(oa M2 p).elim False λes=>(es[k.toNat]?).elim False λd=>te U M2 λz M4=>(PC op d z).elim False λu=>(oa M4 p).elim False λes=>(D3 es.length k).elim False λj=>E.nx U (pq M4 p (.lst (es.set j u)))
 | _,_=>False
def Pi(ho:E3 X o to)(hi:E3 X i ti)(he:E3 X e te)(ha:∀ov iv new,augStore i ov iv new=(do At [new,ov,iv] (setItem ov iv new);release [new,ov,iv] [];pure .next):=by intros;rfl):S3 X (.AugAssign (.Subscript o i Yq) op e pos) (Vb op to ti te):=
 PS.mono (PD ho hi Mv he LZ Gn ha) λD' Y H zz=>JG zz λU M E hs hm ht k1 k2 k3 k4=>
 ⟨U,M,_,hs,hm,ht,λvx H1 x M1 hx Xp e1 q1=>⟨U,M1,_,hs.mono e1,Xp,q1,λvy H2 y M2 hy XA e2 q2=>by
  split at q2
  .rename_i p k;obtain⟨h0,q2⟩:=q2;obtain⟨es,f1,q2⟩:=qx q2;obtain⟨d,f2,q2⟩:=qx q2;cases(hx.mono e2).mw;cases hy.int_inv;obtain⟨xs,h1,h2⟩:=yb XA f1;obtain⟨w,f3,hw⟩:=h2.get f2;refine⟨p,xs,k,w,Z',Z',h1,h0,f3,U,M2,_,hs.mono (e1.trans e2),XA,q2,λvz H4 z M4 hz Zn e4 q4=>?_⟩;obtain⟨u,eu,q4⟩:=qx q4;refine II (hw.mono e4) hz eu λvu hu=>?_;obtain⟨es',g1,q4⟩:=qx q4;obtain⟨j,g2,q4⟩:=qx q4;obtain⟨xs',h3,h4⟩:=yb Zn g1;refine⟨p,xs',k,j,Z',Z',h3,by rw[<-h4.length];exact g2,?_⟩;obtain⟨hm5,e5⟩:=Zn.put (o:=.lst (xs'.set j vu)) (c:=.lst (es'.set j u)) (pN g1) λex=>⟨_,pT,(h4.mono ex).set (hu.mono ex) j⟩;exact k1 Y _ U _ (hs.mono (e1.trans (e2.trans (e4.trans e5)))) hm5 (e1.trans (e2.trans (e4.trans e5))) Z' q4
  .exact q2.elim⟩⟩
def Ss(x y:D)(M:Mp)(Q:DK):Prop:=match x,y with
 | .ref a,.int k=>(oa M a).elim False λes=>(0<=k/\k<=8000000/\es.length<=1)/\∀p,M p=Fa->Q (.ref p) (pq M p (.lst (List.replicate k.toNat es).flatten))
 | _,_=>False
def Si:xo X (dL .Mult) (R3 X.K Ss):=λXn s Y H vx vy v u Q' I rx ry h=>by
 obtain⟨x,y,M,Q,hx,hy,hm,q,k⟩:=h;unfold Ss at q;split at q
 .obtain⟨es,e1,⟨q1,q2,q3⟩,q⟩:=qx q;cases hx.mw;cases hy.int_inv;obtain⟨xs,h1,h2⟩:=yb hm e1;have hz:=dP;have hl:=h2.length;refine NN Xn s Y H _ _ v u Q' I rx ry ⟨_,_,xs,Z',Z',h1,by lia,by lia,?_,λpp hp=>?_⟩
  .exact dZ (i9 (show xs.length<=1 by lia) (show Int.toNat _<=8000000 by lia)) (by rw[hz];decide)
  .exact k _ _ _ _ .ref (hm.new (c:=.lst _) hp ⟨_,pT,(EM h2 _).mono (.new hp)⟩) (.new hp) (q pp (hm.fresh hp))
 .exact q.elim
def QQ(ta tb:T3):T3:=λU M Q=>ta U M λx M1=>tb U M1 λy M2=>Ss x y M2 Q
def Pu(ha:E3 X a ta)(hb:E3 X b tb):E3 X (.BinOp a .Mult b pos) (QQ ta tb):=PE.mono (Nj Si ha hb) Gs
end L3
namespace L3
open L2
def NW(i:Nat){X:Cx}{pos:Pos}{x:Str}(h1:X.N[i]?=ga x:=by rfl)(h2:Ut X.env.scope x:=by first|exact Or.inl Z'|exact Or.inr (Or.inl Z')|exact Or.inr (Or.inr Z'))(h3:zb x:=by decide)(h4:(x==("__classdict__":Str))=pc:=by decide):E3 X (.Name x pos) (v3 i):=RZ i (pv i h1 h2 h3 h4)
variable {X:Cx}{pos:Pos}
def W7{N:QQQ}(h:decide N.Nodup=Db):N.Nodup:=fM h
def pF(i:Nat){x:Str}{e:zn}{te:T3}{Xw:Pos}{ps:QQQ}{sc:XXa}(S:sT X.N ps sc)(he:E3 X e te)(hi:X.N[i]?=ga x:=by rfl)(hx:KM X.env.scope x:=by first|exact Or.inl Z'|exact Or.inr Z')(YU:Ix e (ga (.Name x Xw)) pos.line X.env=pure pc:=by rfl)(hf:KL X x:=by first|exact .inl Z'|exact .inr Z'|assumption):S3 X (.Assign [.Name x Xw] e pos) (Dl te (rG i)):=RJ S.nd hi hx he YU hf
def rE(i:Nat){x:Str}{ps:QQQ}{sc:XXa}(S:sT X.N ps sc)(hi:X.N[i]?=ga x:=by rfl)(hx:KM X.env.scope x:=by first|exact Or.inl Z'|exact Or.inr Z')(hf:KL X x:=by first|exact .inl Z'|exact .inr Z'|assumption):G3 X (.Name x pos) (rG i):=Je S.nd hi hx hf
def qv(i:Nat){x:Str}(hN:decide X.N.Nodup=Db:=by kernel_rfl)(hi:X.N[i]?=ga x:=by rfl)(hx:KM X.env.scope x:=by first|exact Or.inl Z'|exact Or.inr Z')(hf:KL X x:=by first|exact .inl Z'|exact .inr Z'|assumption):G3 X (.Name x pos) (rG i):=Je (W7 hN) hi hx hf
abbrev Sc(n:Nat)(N:QQQ)(s:xz):=sT N (N.take n) (pY s)
def sk{n:Nat}{s:xz}(h:Sa N (N.take n) (pY s)=Db:=by decide+kernel):Sc n N s:=Xc h
def pZ(h0:E3 X e0 t0)(g0:Tk [e0] X.env=(pc,No e0 X.env)::Tk [] X.env:=by rfl):A3 X [e0] (ua t0 vt):=(pV h0 rO g0)
def rN(h0:E3 X e0 t0)(h1:E3 X e1 t1)(g0:Tk [e0,e1] X.env=(pc,No e0 X.env)::Tk [e1] X.env:=by rfl)(g1:Tk [e1] X.env=(pc,No e1 X.env)::Tk [] X.env:=by rfl):A3 X [e0,e1] (ua t0 (ua t1 vt)):=(pV h0 (pV h1 rO g1) g0)
def rh(h0:E3 X e0 t0)(h1:E3 X e1 t1)(h2:E3 X e2 t2)(g0:Tk [e0,e1,e2] X.env=(pc,No e0 X.env)::Tk [e1,e2] X.env:=by rfl)(g1:Tk [e1,e2] X.env=(pc,No e1 X.env)::Tk [e2] X.env:=by rfl)(g2:Tk [e2] X.env=(pc,No e2 X.env)::Tk [] X.env:=by rfl):A3 X [e0,e1,e2] (ua t0 (ua t1 (ua t2 vt))):=(pV h0 (pV h1 (pV h2 rO g2) g1) g0)
abbrev v0:=@NW 0
abbrev U1:=@NW 1
abbrev U2:=@NW 2
abbrev U3:=@NW 3
abbrev v5:=@NW 5
abbrev v4:=@NW 4
abbrev v6:=@NW 6
abbrev v7:=@NW 7
abbrev v8:=@NW 8
abbrev v9:=@NW 9
variable {P:Pg}{w:Wo}{K:qk}{mg:QQZ}{base:Go}
def fq{st:xz}{sp:rb}(F:DG K st x qual ps fa)(S:sT N ps (pY st)) (hb:∀{Xy:Vl} {A:Ar} {outer:T0 Env} {s:Sd} {H:Hp} {E:XK},rS k (A.deeper (sK qual (pY st) s.heap.objs.size fa.f Xy))->(A.deeper (sK qual (pY st) s.heap.objs.size fa.f Xy)).units+9<wP->
   ∃t,G8 (u9 NU P w K mg base N qual (pY st) fa.f Xy A outer s H E).oq (rJ st) t/\∀ds M Q,sp ds M Q->t {nx:=λ_ M'=>∃Xr,qz Xr M'/\Q .mC Xr,rt:=λd M'=>∃Xr,qz Xr M'/\Q d Xr} (wQ N ds) M) (len:∀ds M Q,sp ds M Q->ds.length=ps.length:=by walk_at "l"):Fq P w K mg base (k+1) fa sp:=Wt F S len λ_ _ _ _ _ _ h=>hb h (WV h)
def ya{X:Cx}(h:Ib X.env.scope X.N scope ix N'=Db:=by kernel_rfl):rV X scope ix N':=TY h
end L3
namespace Z
section
open L2 L3
def uW{M:L3.Mp}{x:PySem.Addr}{ds:T0 L3.D}(h:M x=Fa):∃M',M'=L3.pq M x (.lst ds)/\qz M M'/\L3.oa M' x=ga ds:=⟨_,Z',qz.new h,L3.pA⟩
def qU(i:Nat):xz:=PySem.Challenge.pw_callboard_k55_whole_bills_by_the_board.main.body.getD i (.Pass ⟨0,0,0,0⟩)
abbrev tm(i j:Nat):xz:=OF (qU i) j
def ud:Sc 1 ["log","legs","owners","units","counts","event","word"] (qU 1):=sk
def An:Sc 1 ["answers"] (qU 3):=sk
def GU:Sc 2 ["call","word"] (qU 5):=sk
def C9:Sc 2 ["call","phone"] (qU 6):=sk
def xH:Sc 2 ["call","event","word"] (qU 7):=sk
def Cq:Sc 3 ["board","caller","target","wishes"] (qU 14):=sk
def sZ:Sc 3 ["board","caller","target","free","members","place","in_turn"] (qU 15):=sk
def uR:Sc 3 ["board","caller","target","phones"] (qU 16):=sk
def Aj:Sc 2 ["wanted","target"] (qU 17):=sk
def wC:Sc 4 ["board","caller","target","way","come_to","steps","fits","wanted"] (qU 18):=sk
def yY:Sc 2 ["board","phone"] (qU 20):=sk
def wA:Sc 3 ["board","phone","target","word"] (qU 21):=sk
def NH:Sc 3 ["word","phone","calls"] (qU 22):=sk
def tH:Sc 4 ["board","word","phone","numbers","calls","due"] (qU 23):=sk
def y9:Sc 3 ["board","word","number"] (qU 24):=sk
def BZ:Sc 2 ["board","deed","word"] (qU 25):=sk
def tP:Sc 3 ["board","number","steps","last","target","fits"] (qU 26):=sk
def uz:Sc 4 ["board","number","target","phones","members","place"] (qU 27):=sk
def xO:Sc 3 ["board","number","target","talk","members"] (qU 28):=sk
def xy:Sc 3 ["board","number","end","word"] (qU 29):=sk
def wc:Sc 2 ["board","number","call","told","end","steps","last"] (qU 30):=sk
def zG:Sc 3 ["board","phone","target","number"] (qU 31):=sk
def B6:Sc 3 ["board","phone","number","call"] (qU 32):=sk
def yu:Sc 2 ["board","call","wishes"] (qU 33):=sk
def CD:Sc 3 ["board","number","fits","wish"] (qU 34):=sk
def tE:Sc 1 ["board","number","call","fits"] (qU 35):=sk
def tq:Sc 2 ["board","deed","word","phone","number","call","kept","others"] (qU 36):=sk
def Ld:Sc 2 ["board","deed","word"] (qU 37):=sk
def Ig:Sc 2 ["board","deed","word","begun"] (qU 38):=sk
def Ij:Sc 3 ["board","caller","target"] (qU 40):=sk
def Cb:Sc 1 ["told","word"] (qU 51):=sk
def PX:Sc 2 ["holds","words"] (qU 66):=sk
def HW:Sc 1 ["text"] (qU 67):=sk
def CT:Sc 1 ["things"] (qU 68):=sk
def Fh:Sc 3 ["chosen","known","most"] (qU 69):=sk
def tS:Sc 1 ["phones","name","lines","rank"] (qU 70):=sk
def tR:Sc 2 ["groups","phone_names","name","manner","members"] (qU 71):=sk
def C0:Sc 4 ["kind","part","phone_names","names"] (qU 72):=sk
def tM:Sc 3 ["wish","phone_names","names","form","parts","kind","part"] (qU 73):=sk
def uO:Sc 3 ["wishes","phone_names","names","on","wish"] (qU 74):=sk
def vQ:Sc 3 ["phones","groups","wishes","phone_names","names"] (qU 75):=sk
def Kg:Sc 2 ["_law_script","_law_k"] (qU 78):=sk
def Gc:Sc 3 ["_law_cell","_law_factor","_law_many"] (qU 79):=sk
def tW:Sc 2 ["_law_seed","_law_which","_law_letters","_law_size","_law_place","_law_rest","_law_sign"] (qU 80):=sk
def xD:Sc 3 ["_law_row","_law_cell","_law_most","_law_first","_law_size"] (qU 81):=sk
def uG:Sc 2 ["_law_seed","_law_most","_law_phones_here","_law_k","_law_lines"] (qU 82):=sk
def uD:Sc 2 ["_law_seed","_law_own","_law_groups_here","_law_g","_law_manner"] (qU 83):=sk
def sY:Sc 3 ["_law_cell","_law_own","_law_names","_law_a","_law_place","_law_b","_law_c","_law_pick","_law_first"] (qU 84):=sk
def se:Sc 2 ["_law_script","_law_most","_law_seed","_law_phones_here","_law_own","_law_groups_here","_law_names","_law_wishes","_law_k","_law_cell"] (qU 85):=sk
def C1:Sc 1 ["_law_call"] (qU 86):=sk
def AJ:Sc 2 ["_law_board","_law_states"] (qU 87):=sk
def rq:Sc 4 ["_law_board","_law_cell","_law_word_here","_law_states","_law_some_here","_law_k","_law_people_here","_law_a","_law_m"] (qU 88):=sk
def uB:Sc 4 ["_law_cell","_law_own","_law_names","_law_many","_law_a","_law_b","_law_k","_law_m","_law_some_here"] (qU 89):=sk
def rn:Sc 4 ["_law_board","_law_cell","_law_own","_law_names","_law_word_here","_law_states","_law_found","_law_a"] (qU 90):=sk
def F9:Sc 1 ["_law_parts"] (qU 91):=sk
def Gr:Sc 1 ["_law_script"] (qU 92):=sk
def vA:Sc 2 ["_law_board","_law_deed_here","_law_events"] (qU 93):=sk
def Gj:Sc 3 ["_law_board","_law_script","_law_k"] (qU 94):=sk
def Fm:Sc 1 ["_law_found"] (qU 96):=sk
def wk:Sc 2 ["_law_found","_law_due","_law_row"] (qU 97):=sk
def vi:Sc 1 ["_law_script","_law_board","_law_units","_law_k","_law_deed_here","_law_at_here","_law_leg","_law_due","_law_many"] (qU 98):=sk
def Ck:Sc 2 ["self","word"] (tm 12 0):=sk
def Dj:Sc 3 ["self","plan","hour"] (tm 8 0):=sk
def EO:Sc 4 ["self","phones","groups","wishes"] (tm 76 0):=sk
def yr:Sc 1 ["self"] (tm 76 2):=sk
def C4:Sc 1 ["self"] (tm 76 1):=sk
def GB:Sc 2 ["self","told"] (tm 42 0):=sk
def FD:Sc 2 ["self","told"] (tm 43 0):=sk
def AL:Sc 2 ["self","told"] (tm 44 0):=sk
def C6:Sc 2 ["self","told"] (tm 46 0):=sk
def Ce:Sc 2 ["self","told"] (tm 48 0):=sk
def EB:Sc 2 ["self","told"] (tm 49 0):=sk
def Ci:Sc 2 ["self","told"] (tm 50 0):=sk
def Ah:Sc 2 ["self","phone"] (tm 8 3):=sk
def xW:Sc 2 ["self","event","word"] (tm 8 12):=sk
def Fx:Sc 2 ["self","told"] (tm 41 0):=sk
def Ab:Sc 2 ["self","phone"] (tm 8 2):=sk
def Ff:Sc 2 ["self","caller"] (tm 4 0):=sk
def yF:Sc 2 ["self","phone"] (tm 4 2):=sk
def yT:Sc 2 ["self","phone"] (tm 4 5):=sk
def yq:Sc 2 ["self","phone"] (tm 4 4):=sk
def zY:Sc 2 ["self","leg"] (tm 8 10):=sk
def xP:Sc 4 ["self","merged","kept","members","call"] (tm 8 11):=sk
def vh:Sc 1 ["self","call"] (tm 8 9):=sk
def yK:Sc 2 ["self","phone"] (tm 4 8):=sk
def Bt:Sc 2 ["self","phone"] (tm 8 4):=sk
def zR:Sc 2 ["self","phone"] (tm 8 5):=sk
def CS:Sc 2 ["self","phone"] (tm 8 1):=sk
def Do:Sc 2 ["self","phone"] (tm 76 3):=sk
def wZ:Sc 2 ["self","phone"] (tm 4 7):=sk
def Di:Sc 2 ["self","phone"] (tm 4 6):=sk
def Cf:Sc 2 ["self","call"] (tm 41 4):=sk
def Ac:Sc 2 ["self","call"] (tm 48 2):=sk
def Et:Sc 1 ["self"] (tm 41 1):=sk
def CZ:Sc 2 ["self","phone"] (tm 4 3):=sk
def GE:Sc 2 ["self","phone"] (tm 4 1):=sk
def Fd:Sc 1 ["self"] (tm 42 1):=sk
def CY:Sc 1 ["self"] (tm 43 1):=sk
def zW:Sc 1 ["self"] (tm 44 1):=sk
def C5:Sc 1 ["self"] (tm 49 1):=sk
def AW:Sc 1 ["self"] (tm 50 1):=sk
def Gk:Sc 4 ["self","board","caller","target"] (tm 42 2):=sk
def Fj:Sc 4 ["self","board","caller","target"] (tm 43 2):=sk
def B9:Sc 4 ["self","board","caller","target"] (tm 45 0):=sk
def Dh:Sc 4 ["self","board","caller","target"] (tm 46 2):=sk
def ET:Sc 4 ["self","board","caller","target"] (tm 47 0):=sk
def BC:Sc 4 ["self","board","caller","target"] (tm 48 1):=sk
def FP:Sc 4 ["self","board","caller","target"] (tm 49 2):=sk
def vk:Sc 4 ["self","board","caller","target","talk","members"] (tm 50 3):=sk
def BQ:Sc 2 ["self","name"] (tm 76 6):=sk
def zh:Sc 2 ["self","name"] (tm 76 5):=sk
def zI:Sc 2 ["self","hour"] (tm 46 1):=sk
def zN:Sc 1 ["self"] (tm 8 8):=sk
def zA:Sc 2 ["self","phone"] (tm 8 6):=sk
def vb:Sc 3 ["self","plan","members","rank"] (tm 50 2):=sk
def zJ:Sc 3 ["self","caller","target"] (tm 8 7):=sk
def Ex:Sc 2 ["self","phone"] (tm 76 4):=sk
noncomputable def Km:T0 (Str×QQQ):=[("bar",["phone","names"]),("shut",["name","phones"]),("always",["name","name"]),("night",["name","name","hour","hour"]),("busy",["name","name"]),("silent",["name","name","turns"]),("wait",["phone"]),("breaks",["phone"])]
set_option genInjectivity false in
structure Ad where
 (aO M aa aP aQ aR aS aT aU aV ab aW aX aY aZ a0 a1 a2 a3 a4 ac a5 a6 a7 a8 a9 ba bb N O bc m ad ae P bd be bf bg bh bi J i af Q bj bk bl bm bn bo bp bq br bs bt bu bv bw bx ag H ah ai L aj ak al A am an ao ap R k E S aq T ar U bz bA bB au bC bD bE bF bG av q aw l bH bI ax ay z az aA aB aC aD aE aF aG aH aI aJ V bJ bK bL bM aK aL:FA)
 (e c B t u X x n y v w o h b5 I:lf)
structure Gl(K:qk)(mg:QQZ)(a:Ad):Prop where
 e:CG K mg "Call" a.e
 c:CG K mg "Board" a.c
 B:CG K mg "Wish" a.B
 t:CG K mg "Bar" a.t
 u:CG K mg "Shut" a.u
 X:CG K mg "Forward" a.X
 x:CG K mg "Always" a.x
 n:CG K mg "Night" a.n
 y:CG K mg "Busy" a.y
 v:CG K mg "Silent" a.v
 w:CG K mg "Wait" a.w
 o:CG K mg "Breaks" a.o
 h:CG K mg "Plan" a.h
 cV:mg "CallError"=ga (.ref a.b5)
 bX:mg "NoDeed"=ga (.ref a.I)
 aO:TG K mg (qU 1) "bills" ["log"] a.aO
 M:TG K mg (qU 3) "place_of_true" ["answers"] a.M
 aa:TG K mg (qU 5) "end_call" ["call","word"] a.aa
 aP:TG K mg (qU 6) "drop_phone" ["call","phone"] a.aP
 aQ:TG K mg (qU 7) "change_call" ["call","event"] a.aQ
 aR:TG K mg (qU 14) "fitting" ["board","caller","target"] a.aR
 aS:TG K mg (qU 15) "rung_phones" ["board","caller","target"] a.aS
 aT:TG K mg (qU 16) "end_without_wish" ["board","caller","target"] a.aT
 aU:TG K mg (qU 17) "end_as_wanted" ["wanted","target"] a.aU
 aV:TG K mg (qU 18) "route" ["board","caller","target","way"] a.aV
 ab:TG K mg (qU 20) "word_for_idling" ["board","phone"] a.ab
 aW:TG K mg (qU 21) "word_for_call" ["board","phone","target"] a.aW
 aX:TG K mg (qU 22) "suits" ["word","phone","calls"] a.aX
 aY:TG K mg (qU 23) "word_for_numbers" ["board","word","phone","numbers"] a.aY
 aZ:TG K mg (qU 24) "word_for_switch" ["board","word","number"] a.aZ
 a0:TG K mg (qU 25) "refusal" ["board","deed"] a.a0
 a1:TG K mg (qU 26) "take_steps" ["board","number","steps"] a.a1
 a2:TG K mg (qU 27) "start_ringing" ["board","number","target","phones"] a.a2
 a3:TG K mg (qU 28) "break_in" ["board","number","target"] a.a3
 a4:TG K mg (qU 29) "come_to_end" ["board","number","end"] a.a4
 ac:TG K mg (qU 30) "go_on" ["board","number"] a.ac
 a5:TG K mg (qU 31) "make_call" ["board","phone","target"] a.a5
 a6:TG K mg (qU 32) "hang_up" ["board","phone","number"] a.a6
 a7:TG K mg (qU 33) "due_wishes" ["board","call"] a.a7
 a8:TG K mg (qU 34) "send_on" ["board","number","fits"] a.a8
 a9:TG K mg (qU 35) "let_turn_pass" ["board"] a.a9
 ba:TG K mg (qU 36) "event_of" ["board","deed"] a.ba
 bb:TG K mg (qU 37) "act" ["board","deed"] a.bb
 N:TG K mg (qU 38) "do" ["board","deed"] a.N
 O:TG K mg (qU 40) "is_busy" ["board","caller","target"] a.O
 bc:TG K mg (qU 51) "wish_of" ["told"] a.bc
 m:TG K mg (qU 66) "need" ["holds","words"] a.m
 ad:TG K mg (qU 67) "is_name" ["text"] a.ad
 ae:TG K mg (qU 68) "all_unlike" ["things"] a.ae
 P:TG K mg (qU 69) "is_choice" ["chosen","known","most"] a.P
 bd:TG K mg (qU 70) "check_phones" ["phones"] a.bd
 be:TG K mg (qU 71) "check_groups" ["groups","phone_names"] a.be
 bf:TG K mg (qU 72) "part_holds" ["kind","part","phone_names","names"] a.bf
 bg:TG K mg (qU 73) "check_wish" ["wish","phone_names","names"] a.bg
 bh:TG K mg (qU 74) "check_wishes" ["wishes","phone_names","names"] a.bh
 bi:TG K mg (qU 75) "check_plan" ["phones","groups","wishes"] a.bi
 J:TG K mg (qU 78) "_law_at" ["_law_script","_law_k"] a.J
 i:TG K mg (qU 79) "_law_draw" ["_law_cell","_law_factor","_law_many"] a.i
 af:TG K mg (qU 80) "_law_word" ["_law_seed","_law_which"] a.af
 Q:TG K mg (qU 81) "_law_some" ["_law_row","_law_cell","_law_most"] a.Q
 bj:TG K mg (qU 82) "_law_phones" ["_law_seed","_law_most"] a.bj
 bk:TG K mg (qU 83) "_law_groups" ["_law_seed","_law_own"] a.bk
 bl:TG K mg (qU 84) "_law_wish" ["_law_cell","_law_own","_law_names"] a.bl
 bm:TG K mg (qU 85) "_law_plan" ["_law_script","_law_most"] a.bm
 bn:TG K mg (qU 86) "_law_people" ["_law_call"] a.bn
 bo:TG K mg (qU 87) "_law_of_state" ["_law_board","_law_states"] a.bo
 bp:TG K mg (qU 88) "_law_on_call" ["_law_board","_law_cell","_law_word_here","_law_states"] a.bp
 bq:TG K mg (qU 89) "_law_any" ["_law_cell","_law_own","_law_names","_law_many"] a.bq
 br:TG K mg (qU 90) "_law_deed" ["_law_board","_law_cell","_law_own","_law_names"] a.br
 bs:TG K mg (qU 91) "_law_made" ["_law_parts"] a.bs
 bt:TG K mg (qU 92) "_law_hour" ["_law_script"] a.bt
 bu:TG K mg (qU 93) "_law_done" ["_law_board","_law_deed_here"] a.bu
 bv:TG K mg (qU 94) "_law_next" ["_law_board","_law_script","_law_k"] a.bv
 bw:TG K mg (qU 96) "_law_whole" ["_law_found"] a.bw
 bx:TG K mg (qU 97) "_law_bills_are" ["_law_found","_law_due"] a.bx
 ag:TG K mg (qU 98) "law" ["_law_script"] a.ag
 H:MG K a.I (tm 12 0) "__init__" "NoDeed.__init__" ["self","word"] a.H
 ah:MG K a.c (tm 8 0) "__init__" "Board.__init__" ["self","plan","hour"] a.ah
 ai:MG K a.h (tm 76 0) "__init__" "Plan.__init__" ["self","phones","groups","wishes"] a.ai
 L:MG K a.h (tm 76 2) "phone_names" "Plan.phone_names" ["self"] a.L
 aj:MG K a.h (tm 76 1) "names" "Plan.names" ["self"] a.aj
 ak:MG K a.t (tm 42 0) "__init__" "Bar.__init__" ["self","told"] a.ak
 al:MG K a.u (tm 43 0) "__init__" "Shut.__init__" ["self","told"] a.al
 A:MG K a.X (tm 44 0) "__init__" "Forward.__init__" ["self","told"] a.A
 am:MG K a.n (tm 46 0) "__init__" "Night.__init__" ["self","told"] a.am
 an:MG K a.v (tm 48 0) "__init__" "Silent.__init__" ["self","told"] a.an
 ao:MG K a.w (tm 49 0) "__init__" "Wait.__init__" ["self","told"] a.ao
 ap:MG K a.o (tm 50 0) "__init__" "Breaks.__init__" ["self","told"] a.ap
 R:MG K a.c (tm 8 3) "talk_of" "Board.talk_of" ["self","phone"] a.R
 k:MG K a.c (tm 8 12) "apply" "Board.apply" ["self","event"] a.k
 E:MG K a.B (tm 41 0) "__init__" "Wish.__init__" ["self","told"] a.E
 S:MG K a.c (tm 8 2) "is_free" "Board.is_free" ["self","phone"] a.S
 aq:MG K a.e (tm 4 0) "__init__" "Call.__init__" ["self","caller"] a.aq
 T:MG K a.e (tm 4 2) "talks_with" "Call.talks_with" ["self","phone"] a.T
 ar:MG K a.e (tm 4 5) "waits_with" "Call.waits_with" ["self","phone"] a.ar
 U:MG K a.e (tm 4 4) "is_tried_by" "Call.is_tried_by" ["self","phone"] a.U
 bz:MG K a.c (tm 8 10) "add_leg" "Board.add_leg" ["self","leg"] a.bz
 bA:MG K a.c (tm 8 11) "merge" "Board.merge" ["self","merged","kept","members"] a.bA
 bB:MG K a.c (tm 8 9) "pass_turn" "Board.pass_turn" ["self"] a.bB
 au:MG K a.e (tm 4 8) "other_than" "Call.other_than" ["self","phone"] a.au
 bC:MG K a.c (tm 8 4) "bound" "Board.bound" ["self","phone"] a.bC
 bD:MG K a.c (tm 8 5) "calling" "Board.calling" ["self","phone"] a.bD
 bE:MG K a.c (tm 8 1) "used" "Board.used" ["self","phone"] a.bE
 bF:MG K a.h (tm 76 3) "lines" "Plan.lines" ["self","phone"] a.bF
 bG:MG K a.e (tm 4 7) "can_be_left_by" "Call.can_be_left_by" ["self","phone"] a.bG
 av:MG K a.e (tm 4 6) "pairs" "Call.pairs" ["self","phone"] a.av
 q:MG K a.B (tm 41 4) "is_due" "Wish.is_due" ["self","call"] a.q
 aw:MG K a.v (tm 48 2) "is_due" "Silent.is_due" ["self","call"] a.aw
 l:MG K a.B (tm 41 1) "told" "Wish.told" ["self"] a.l
 bH:MG K a.e (tm 4 3) "binds" "Call.binds" ["self","phone"] a.bH
 bI:MG K a.e (tm 4 1) "has" "Call.has" ["self","phone"] a.bI
 ax:MG K a.t (tm 42 1) "wants" "Bar.wants" ["self"] a.ax
 ay:MG K a.u (tm 43 1) "wants" "Shut.wants" ["self"] a.ay
 z:MG K a.X (tm 44 1) "wants" "Forward.wants" ["self"] a.z
 az:MG K a.w (tm 49 1) "wants" "Wait.wants" ["self"] a.az
 aA:MG K a.o (tm 50 1) "wants" "Breaks.wants" ["self"] a.aA
 aB:MG K a.t (tm 42 2) "fits" "Bar.fits" ["self","board","caller","target"] a.aB
 aC:MG K a.u (tm 43 2) "fits" "Shut.fits" ["self","board","caller","target"] a.aC
 aD:MG K a.x (tm 45 0) "fits" "Always.fits" ["self","board","caller","target"] a.aD
 aE:MG K a.n (tm 46 2) "fits" "Night.fits" ["self","board","caller","target"] a.aE
 aF:MG K a.y (tm 47 0) "fits" "Busy.fits" ["self","board","caller","target"] a.aF
 aG:MG K a.v (tm 48 1) "fits" "Silent.fits" ["self","board","caller","target"] a.aG
 aH:MG K a.w (tm 49 2) "fits" "Wait.fits" ["self","board","caller","target"] a.aH
 aI:MG K a.o (tm 50 3) "fits" "Breaks.fits" ["self","board","caller","target"] a.aI
 aJ:MG K a.h (tm 76 6) "manner" "Plan.manner" ["self","name"] a.aJ
 V:MG K a.h (tm 76 5) "phones_of" "Plan.phones_of" ["self","name"] a.V
 bJ:MG K a.n (tm 46 1) "has_hour" "Night.has_hour" ["self","hour"] a.bJ
 bK:MG K a.c (tm 8 8) "hour_now" "Board.hour_now" ["self"] a.bK
 bL:MG K a.c (tm 8 6) "waits_at" "Board.waits_at" ["self","phone"] a.bL
 bM:MG K a.o (tm 50 2) "outranks" "Breaks.outranks" ["self","plan","members"] a.bM
 aK:MG K a.c (tm 8 7) "ringable" "Board.ringable" ["self","caller","target"] a.aK
 aL:MG K a.h (tm 76 4) "rank" "Plan.rank" ["self","phone"] a.aL
 b6:Jf K a.I a.H.f
 b7:yE K a.I "word"
 b8:W.exmOne K (.ref a.I) (.ref a.I)=ga Db
 b9:Mk K a.c a.ah.f
 ca:Mk K a.h a.ai.f
 cb:Mk K a.t a.ak.f
 cc:Mk K a.u a.al.f
 cd:Mk K a.x a.A.f
 ce:Mk K a.n a.am.f
 cf:Mk K a.y a.A.f
 cg:Mk K a.v a.an.f
 ch:Mk K a.w a.ao.f
 ci:Mk K a.o a.ap.f
 cj:Mk K a.e a.aq.f
 ck:vp K a.t "is_due" a.q.f
 cl:vp K a.u "is_due" a.q.f
 cm:vp K a.x "is_due" a.q.f
 cn:vp K a.n "is_due" a.q.f
 co:vp K a.y "is_due" a.q.f
 cp:vp K a.w "is_due" a.q.f
 cq:vp K a.o "is_due" a.q.f
 cr:vp K a.t "told" a.l.f
 cs:vp K a.u "told" a.l.f
 ct:vp K a.x "told" a.l.f
 cu:vp K a.n "told" a.l.f
 cv:vp K a.y "told" a.l.f
 cw:vp K a.v "told" a.l.f
 cx:vp K a.w "told" a.l.f
 cy:vp K a.o "told" a.l.f
 cz:vp K a.x "wants" a.z.f
 cA:vp K a.n "wants" a.z.f
 cB:vp K a.y "wants" a.z.f
 cC:vp K a.v "wants" a.z.f
 aM:LG K a.B "__init__" a.E.f
 bY:LG K a.X "__init__" a.A.f
 C:zq K a.c ["plan","hour","turn","calls","legs","nexts","on","log"]
 Y:zq K a.h ["phones","groups","wishes","on","phone_rows","group_rows"]
 bS:zq K a.t ["form","phone","targets"]
 bT:zq K a.u ["form","target","callers"]
 bU:zq K a.x ["form","target","goal"]
 aN:zq K a.n ["form","target","goal","first","last"]
 bV:zq K a.y ["form","target","goal"]
 bN:zq K a.v ["form","target","goal","turns"]
 bZ:zq K a.w ["form","phone"]
 b0:zq K a.o ["form","phone"]
 j:zq K a.e ["state","caller","way","at","members","holder","since","word"]
 cD:W.kitOne K (.type "list") (.type "list")=ga Db
 cE:W.kitOne K (.type "tuple") (.type "tuple")=ga Db
 cF:W.kitOne K (.type "int") (.type "int")=ga Db
 cG:W.kitOne K (.type "int") (.type "bool")=ga pc
 Z:mg "range"=Fa
 b1:mg "min"=Fa
 g:mg "len"=Fa
 bO:mg "enumerate"=Fa
 b2:mg "int"=Fa
 bP:mg "zip"=Fa
 bW:mg "dict"=Fa
 r:mg "list"=Fa
 bQ:mg "isinstance"=Fa
 F:mg "tuple"=Fa
 cH:mg "bool"=Fa
 cI:mg "set"=Fa
 bR:mg "all"=Fa
 cJ:mg "any"=Fa
 cK:KD K mg "MOST_PHONES" (.int 8)
 cL:KD K mg "MOST_LINES" (.int 3)
 cM:KD K mg "MOST_RANK" (.int 9)
 cN:KD K mg "MOST_GROUPS" (.int 3)
 cO:KD K mg "MANNERS" (.tup ((["all","turns"]:QQQ).map D.str))
 cP:KD K mg "MOST_MEMBERS" (.int 4)
 cQ:KD K mg "MOST_WISHES" (.int 16)
 cR:KD K mg "MOST_SIGNS" (.int 6)
 cS:KD K mg "LETTERS" (.str "abcdefghijklmnopqrstuvwxyz")
 b3:L7 K mg "FORMS" Km
 b4:KD K mg "MOST_LISTED" (.int 6)
 cT:KD K mg "LAST_HOUR" (.int 23)
 cU:KD K mg "MOST_TURNS" (.int 9)
noncomputable def qo(c f m:Int):Int:=(c % 2147483647+5)*f % 2147483629 / 89 % m
def qP{c f m:Int}(h:0<m):0<=qo c f m:=eP _ (by lia)
def qG{c f m:Int}(h:0<m):qo c f m<m:=eO _ h
def JE:rb:=λds M Q=>Dg λc f m=>ds=[.int c,.int f,.int m]/\0<m/\Q (.int (qo c f m)) M
noncomputable def uh:Str:="abcdefghijklmnopqrstuvwxyz"
noncomputable def tV(i:Int):Str:=⟨#[97+i.toNat]⟩
noncomputable def size(s:Int):Int:=1+s % 6
def uc(s:Int):Int:=s / 6 % size s
def xZ(s v:Int):Str:=yO (tV (s / 36 % 26)) (uc s)++tV ((s / 936+v) % 26)++yO (tV (s / 36 % 26)) (size s - 1 - uc s)
def Od:rb:=λds M Q=>CQ λs v=>ds=[.int s,.int v]/\Q (.str (xZ s v)) M
noncomputable def cell(ns:T0 Int)(i:Int):Int:=if 0<=i/\i<ns.length then ns.getD i.toNat 0 else 0
def Vc:rb:=λds M Q=>CQ λns i=>ds=[.rl (ns.map D.int),.int i]/\Q (.int (cell ns i)) M
def G5(c:Int):0<size c:=by unfold size;have:=eP c (show(6:Int)≠0 by decide);lia
def Iw(c:Int):size c<=6:=by unfold size;have:=eO c (show(0:Int)<6 by decide);lia
def F0(i n:Int):(yO (tV i) n).length=n.toNat:=by show((List.replicate n.toNat (tV i).cps).foldl (·++·) #[]:Array Nat).size=n.toNat;rw[Jr];show n.toNat*1=n.toNat;lia
def AA:uh.length<=Uf:=by decide+kernel
variable {P:Pg}{w:Wo}{K:qk}{mg:QQZ}{base:Go}{a:Ad}(G:Gl K mg a)
def qD:Fq P w K mg base 1 a.i JE:=by
 refine fq G.i.toDG Gc (λr u=>⟨_,(oY (pk (pQ (pQ (pQ (pQ (pQ (pQ v0 o9) o9) U1) o9) o9) U2))),?_⟩)
 rintro ds M Q ⟨c,f,m,rfl,hm,q⟩
 refine⟨by decide,.inl ?_,by decide,⟨by decide,by decide⟩,hm,M,.refl,q⟩;have h1:0<=c % 2147483647:=eP _ (by decide);have h2:c % 2147483647<2147483647:=eO _ (by decide);exact⟨by lia,by lia⟩
def DH{i:Int}(h0:0<=i)(h1:i<26):wF uh.cps.toList i=ga (97+i.toNat):=by
 obtain⟨n,rfl⟩:=eB h0;have hn:n<26:=by lia
 have key:∀n:_root_.Fin 26,wF uh.cps.toList ((n.val:Nat):Int)=ga (97+n.val):=by decide+kernel
 exact key ⟨n,hn⟩
def Jc:Fq P w K mg base 1 a.af Od:=by
 refine fq G.af.toDG tW (λr u=>⟨_,(oX (pF 2 tW pb)
 (oX (pF 3 tW (pQ o9 (pQ v0 o9)))
 (oX (pF 4 tW (pQ (pQ v0 o9) U3))
 (oX (pF 5 tW (pD U2 (pQ (pQ v0 o9) o9)))
 (oX (pF 6 tW (pD U2 (pQ (pQ (pQ v0 o9) U1) o9)))
 (oY (pk (pQ (pQ (pQ v5 v4) v6) (pQ v5 (pQ (pQ U3 o9) v4)))))))))),?_⟩)
 rintro ds M Q ⟨c,v,rfl,q⟩
 have hs:=G5 c;have hs6:=Iw c;have hp0:0<=uc c:=eP _ (by lia);have YC:uc c<size c:=eO _ hs;have l1:=F0 (c / 36 % 26) (uc c);have l2:=F0 (c / 36 % 26) (size c - 1 - uc c);have hz:=dP;refine⟨by decide,⟨by decide,by decide⟩,hs,⟨by decide,by decide⟩,by decide,AA,i' (DH (eP _ (by decide)) (eO _ (by decide))) ?_⟩;refine⟨⟨by decide,by decide⟩,by decide,AA,i' (DH (eP _ (by decide)) (eO _ (by decide))) ?_⟩;refine⟨⟨?_,?_,?_⟩,?_,⟨?_,?_,?_⟩,?_,M,.refl,q⟩
 .show uc c<4096;lia
 .show -4096<uc c;lia
 .show(1:Nat)<4096;decide
 .show(yO (tV (c / 36 % 26)) (uc c)).length+1<=Uf;lia
 .show size c - 1 - uc c<4096;lia
 .show -4096<size c - 1 - uc c;lia
 .show(1:Nat)<4096;decide
 .show(yO (tV (c / 36 % 26)) (uc c)++tV ((c / 936+v) % 26)).length+(yO (tV (c / 36 % 26)) (size c - 1 - uc c)).length<=Uf;rw[PySem.size_cat];have:(tV ((c / 936+v) % 26)).length=1:=rfl;lia
def IT:Fq P w K mg base 1 a.J Vc:=by
 refine fq G.J.toDG Kg (λr u=>⟨_,(oX (pJ (FU u o9 U1 (pM qm Z' G.g ql (pZ v0)))
 (oY (pk (pD v0 U1)))
 pE)
 (oY (pk o9))),?_⟩)
 rintro ds M Q ⟨ns,i,rfl,q⟩
 refine qC (λh0=>?_) (λh0=>?_)
 .have h0:0<=i:=fM h0;refine qC (λh1=>?_) (λh1=>?_)
  .have h1:i<((ns.map D.int).length:Int):=fM h1;rw[cW]at h1;have hi:i.toNat<ns.length:=by lia
   have e:wF (ns.map D.int) i=ga (D.int (ns.getD i.toNat 0)):=by
    obtain⟨n,rfl⟩:=eB h0;have hn:n<ns.length:=by lia
    refine uZ ?_;rw[dA,cY hn];simp[hn]
   refine i' e ⟨M,.refl,?_⟩;have:cell ns i=ns.getD i.toNat 0:=by unfold cell;rw[df ⟨h0,h1⟩]
   rw[<-this];exact q
  .have h1:¬i<((ns.map D.int).length:Int):=λz=>h1 (dS z);rw[cW]at h1;refine⟨M,.refl,?_⟩;have:cell ns i=0:=by unfold cell;rw[de (λz=>h1 z.2)]
   rw[<-this];exact q
 .have h0:¬0<=i:=λz=>h0 (dS z);refine⟨M,.refl,?_⟩;have:cell ns i=0:=by unfold cell;rw[de (λz=>h0 z.1)]
  rw[<-this];exact q
inductive Wi where
 | bar (x:Str) (ns:QQQ)|shut (x:Str) (ns:QQQ)|always (x y:Str)|night (x y:Str) (f l:Int)|busy (x y:Str)|silent (x y:Str) (n:Int)|wait (x:Str)|breaks (x:Str)
abbrev names(ns:QQQ):D:=.tup (ns.map D.str)
noncomputable def Wi.told:Wi->T0 D
 | .bar x ns=>[.str "bar",.str x,names ns]
 | .shut x ns=>[.str "shut",.str x,names ns]
 | .always x y=>[.str "always",.str x,.str y]
 | .night x y f l=>[.str "night",.str x,.str y,.int f,.int l]
 | .busy x y=>[.str "busy",.str x,.str y]
 | .silent x y n=>[.str "silent",.str x,.str y,.int n]
 | .wait x=>[.str "wait",.str x]
 | .breaks x=>[.str "breaks",.str x]
noncomputable def Wi.cls(a:Ad):Wi->lf
 | .bar _ _=>a.t
 | .shut _ _=>a.u
 | .always _ _=>a.x
 | .night _ _ _ _=>a.n
 | .busy _ _=>a.y
 | .silent _ _ _=>a.v
 | .wait _=>a.w
 | .breaks _=>a.o
noncomputable def Wi.more:Wi->T0 (Str×D)
 | .bar x ns=>[("phone",.str x),("targets",names ns)]
 | .shut x ns=>[("target",.str x),("callers",names ns)]
 | .always x y=>[("target",.str x),("goal",.str y)]
 | .night x y f l=>[("target",.str x),("goal",.str y),("first",.int f),("last",.int l)]
 | .busy x y=>[("target",.str x),("goal",.str y)]
 | .silent x y n=>[("target",.str x),("goal",.str y),("turns",.int n)]
 | .wait x=>[("phone",.str x)]
 | .breaks x=>[("phone",.str x)]
noncomputable def Wi.ny(v:Wi):T0 (Str×D):=("form",.tup v.told)::v.more
abbrev Bv(ns:QQQ)(i:Int):Str:=ns.getD i.toNat Str.empty
def xi(row:QQQ)(c m:Int):Nat:=(1+qo c 40692 (if (row.length:Int)<m then(row.length:Int)else m)).toNat
def TX(row:QQQ)(c:Int)(j:Nat):Str:=Bv row ((qo c 69621 row.length+(0+(j:Nat))) % row.length)
def vB(row:QQQ)(c m:Int):QQQ:=(List.range (xi row c m)).map (TX row c)
def Og:rb:=λds M Q=>Co λr c m row=>ds=[.ref r,.int c,.int m]/\oa M r=ga (row.map D.str)/\row≠[]/\0<m/\row.length<=64/\Q (names (vB row c m)) M
def JC{row:QQQ}(h:row≠[])(x:Int):wF (row.map D.str) (x % row.length)=ga (D.str (Bv row (x % row.length))):=by
 have hl:0<row.length:=fu.mpr h;have h0:0<=x % row.length:=eP _ (by lia);have h1:x % row.length<row.length:=eO _ (by lia);obtain⟨n,hn⟩:=eB h0;rw[hn]at h1 ⊢;have Zl:n<row.length:=by lia
 refine uZ ?_;rw[dA,cY Zl];simp[Bv,Zl]
def yj:Fq P w K mg base 2 a.Q Og:=by
 refine fq G.Q.toDG xD (λr u=>⟨_,(oX (pF 3 xD (pC (qD G) r G.i (rh U1 o9 (pM qm Z' G.g ql (pZ v0)))))
 (oX (pF 4 xD (pQ o9 (pC (qD G) r G.i (rh U1 o9 (pM (MX Z') Z' G.b1 Mw (rN U2 (pM qm Z' G.g ql (pZ v0))))))))
 (oY (pk (qe uH Z' G.F ub (pZ (qE Z' (ya (ix:=[Fa,ga 0,ga 3]) (N':=["_law_j","_law_row","_law_first"])) (wb Z' G.Z (pZ v4)) (qv 0) rM (pD U1 (pQ (pQ U2 v0) (pM qm Z' G.g ql (pZ U1))))))))))),?_⟩)
 rintro ds M Q ⟨r,c,m,row,rfl,hl,XN,hm,h64,q⟩
 have Xt:0<row.length:=fu.mpr XN;have hz:=dP;have el:((row.map D.str).length:Int)=row.length:=by rw[cW]
 refine i' hl ⟨c,69621,_,Z',by rw[el];lia,?_⟩;refine i' hl ⟨c,40692,_,Z',by rw[el];split<;>lia,?_⟩;rw[el];have d0:=qP (c:=c) (f:=40692) (m:=if (row.length:Int)<m then(row.length:Int)else m) (by split<;>lia);have d1:=qG (c:=c) (f:=40692) (m:=if (row.length:Int)<m then(row.length:Int)else m) (by split<;>lia);have d2:qo c 40692 (if (row.length:Int)<m then(row.length:Int)else m)<row.length+1:=by refine Int.lt_of_lt_of_le d1 ?_;split<;>lia
 refine⟨Z',⟨?_,?_⟩,ra (f:=λd=>match d with|.int j=>D.str (Bv row ((qo c 69621 row.length+j) % row.length))|_=>.mC) trivial _ [] _ ?_ (λd hd k hk=>?_) λp hp=>?_⟩
 .show -(2 ^ 62)<=1+qo c 40692 (if (row.length:Int)<m then(row.length:Int)else m);lia
 .show 1+qo c 40692 (if (row.length:Int)<m then(row.length:Int)else m)<2 ^ 62;lia
 .rw[cW,eG];show 0+xi row c m<=Uf;unfold xi;lia
 .obtain⟨j,_,rfl⟩:=dD.mp hd;refine i' hl ⟨by rw[el];lia,i' hl ?_⟩;rw[el];exact i' (JC XN _) hk
 .refine i' (x:=(vB row c m).map D.str) ?_ ⟨M,.new hp,q⟩;unfold oa;rw[pK];show ga ([]++((List.range (xi row c m)).map λi=>D.int (0+(i:Nat))).map _)=_;rw[d9,d4];unfold vB;rw[d4];rfl
def wj(c:Int)(own all:QQQ):Wi:=
 let x:=Bv own (qo c 16807 own.length);let pl:=qo c 39373 all.length;let y:=Bv all pl;let z:=Bv all ((pl+1+qo c 742938285 ((all.length:Int) - 1)) % all.length);let k:=qo c 1226874159 12
 if k=0 then .bar x (vB all c 3)
 else if k=1 then .shut y (vB own c 3)
 else if k=2 then .always y z
 else if k<5 then .night y z (qo c 22695477 24) ((qo c 22695477 24+1+qo c 48271 23) % 24)
 else if k<7 then .busy y z
 else if k<9 then .silent y z ([1,1,2,3,9].getD (qo c 950706376 5).toNat 0)
 else if k=9 then .wait x
 else .breaks x
def Pw:rb:=λds M Q=>GH λc o n own all=>ds=[.int c,.ref o,.ref n]/\oa M o=ga (own.map D.str)/\oa M n=ga (all.map D.str)/\own≠[]/\2<=all.length/\own.length<=64/\all.length<=64/\Q (.tup (wj c own all).told) M
def Hb{row:QQQ}{x:Int}(h0:0<=x)(h1:x<row.length):wF (row.map D.str) x=ga (D.str (Bv row x)):=by
 obtain⟨n,rfl⟩:=eB h0;have Zl:n<row.length:=by lia
 refine uZ ?_;rw[dA,cY Zl];simp[Bv,Zl]
def Pr:Fq P w K mg base 3 a.bl Pw:=by
 refine fq G.bl.toDG sY (λr u=>⟨_,(oX (pF 3 sY (pD U1 (pC (qD G) r G.i (rh v0 o9 (pM qm Z' G.g ql (pZ U1))))))
 (oX (pF 4 sY (pC (qD G) r G.i (rh v0 o9 (pM qm Z' G.g ql (pZ U2)))))
 (oX (pF 5 sY (pD U2 v4))
 (oX (pF 6 sY (pD U2 (pQ (pQ (pQ v4 o9) (pC (qD G) r G.i (rh v0 o9 (pQ (pM qm Z' G.g ql (pZ U2)) o9)))) (pM qm Z' G.g ql (pZ U2)))))
 (oX (pF 7 sY (pC (qD G) r G.i (rh v0 o9 o9)))
 (oX (pJ (pB u v7 o9)
 (oY (pk (pI (rh pb U3 (pC (yj G) r G.Q (rh U2 v0 o9))))))
 pE)
 (oX (pJ (pB u v7 o9)
 (oY (pk (pI (rh pb v5 (pC (yj G) r G.Q (rh U1 v0 o9))))))
 pE)
 (oX (pJ (pB u v7 o9)
 (oY (pk (pI (rh pb v5 v6))))
 pE)
 (oX (pJ (pB u v7 o9)
 (oX (pF 8 sY (pC (qD G) r G.i (rh v0 o9 o9)))
 (oY (pk (pI (pV pb (pV v5 (rh v6 v8 (pQ (pQ (pQ v8 o9) (pC (qD G) r G.i (rh v0 o9 o9))) o9))))))))
 pE)
 (oX (pJ (pB u v7 o9)
 (oY (pk (pI (rh pb v5 v6))))
 pE)
 (oX (pJ (pB u v7 o9)
 (oY (pk (pI (pV pb (rh v5 v6 (pD (pI (pV o9 (pV o9 (rh o9 o9 o9)))) (pC (qD G) r G.i (rh v0 o9 o9))))))))
 pE)
 (oX (pJ (pB u v7 o9)
 (oY (pk (pI (rN pb U3))))
 pE)
 (oY (pk (pI (rN pb U3)))))))))))))))),?_⟩)
 rintro ds M Q ⟨c,o,n,own,all,rfl,ho,hn,XN,h2,l1,l2,q⟩
 have Xt:0<own.length:=fu.mpr XN;have hne2:all≠[]:=λz=>by rw[z]at h2;simp at h2
 have e1:((own.map D.str).length:Int)=own.length:=by rw[cW]
 have e2:((all.map D.str).length:Int)=all.length:=by rw[cW]
 have p1:(0:Int)<own.length:=by lia
 have p2:(0:Int)<all.length:=by lia
 have p3:(0:Int)<(all.length:Int) - 1:=by lia
 refine i' ho ⟨c,_,_,Z',by rw[e1];exact p1,?_⟩;rw[e1];refine i' ho (i' (Hb (qP p1) (qG p1)) ?_);refine i' hn ⟨c,_,_,Z',by rw[e2];exact p2,?_⟩;rw[e2];refine i' hn (i' (Hb (qP p2) (qG p2)) ?_);refine i' hn ⟨c,_,_,Z',by rw[e2];exact p3,?_⟩;rw[e2];refine i' hn ⟨by rw[e2];exact p2,?_⟩;rw[e2];refine i' hn (i' (JC hne2 _) ?_);refine⟨c,_,_,Z',by decide,?_⟩;have Xs:∀t:T0 D,(wj c own all).told=t->∃Xr,qz Xr M/\Q (.tup t) Xr:=λt e=>⟨M,.refl,e ▸ q⟩;have k0:0<=qo c 1226874159 12:=qP (by decide);refine qC (λh=>?_) (λh=>?_)
 .have h:qo c 1226874159 12=0:=by simpa using h
  refine⟨n,c,3,all,Z',hn,hne2,by decide,l2,oV Z',Xs _ ?_⟩;simp only[wj,df h,Wi.told]
 have h:¬qo c 1226874159 12=0:=by simpa using h
 refine qC (λg=>?_) (λg=>?_)
 .have g:qo c 1226874159 12=1:=by simpa using g
  refine⟨o,c,3,own,Z',ho,XN,by decide,l1,oV Z',Xs _ ?_⟩;simp only[wj,de h,df g,Wi.told]
 have g:¬qo c 1226874159 12=1:=by simpa using g
 refine qC (λi=>?_) (λi=>?_)
 .have i:qo c 1226874159 12=2:=by simpa using i
  refine⟨oV Z',Xs _ ?_⟩;simp only[wj,de h,de g,df i,Wi.told]
 have i:¬qo c 1226874159 12=2:=by simpa using i
 refine qC (λj=>?_) (λj=>?_)
 .have j:qo c 1226874159 12<5:=fM j;refine⟨c,_,_,Z',by decide,c,_,_,Z',by decide,by decide,oV Z',Xs _ ?_⟩;simp only[wj,de h,de g,de i,df j,Wi.told]
 have j:¬qo c 1226874159 12<5:=λz=>j (dS z);refine qC (λl=>?_) (λl=>?_)
 .have l:qo c 1226874159 12<7:=fM l;refine⟨oV Z',Xs _ ?_⟩;simp only[wj,de h,de g,de i,de j,df l,Wi.told]
 have l:¬qo c 1226874159 12<7:=λz=>l (dS z);refine qC (λm=>?_) (λm=>?_)
 .have m:qo c 1226874159 12<9:=fM m;have d0:0<=qo c 950706376 5:=qP (by decide);have d1:qo c 950706376 5<5:=qG (by decide);have e:wF [D.int 1,.int 1,.int 2,.int 3,.int 9] (qo c 950706376 5)=ga (D.int ([1,1,2,3,9].getD (qo c 950706376 5).toNat 0)):=by
   obtain⟨t,ht⟩:=eB d0;rw[ht]at d1 ⊢;have:t<5:=by lia
   match t,this with
   | 0,_=>rfl
   | 1,_=>rfl
   | 2,_=>rfl
   | 3,_=>rfl
   | 4,_=>rfl
  refine⟨oV Z',c,_,_,Z',by decide,i' e ⟨oV Z',Xs _ ?_⟩⟩;simp only[wj,de h,de g,de i,de j,de l,df m,Wi.told]
 have m:¬qo c 1226874159 12<9:=λz=>m (dS z);refine qC (λr=>?_) (λr=>?_)
 .have r:qo c 1226874159 12=9:=by simpa using r
  refine⟨oV Z',Xs _ ?_⟩;simp only[wj,de h,de g,de i,de j,de l,de m,df r,Wi.told]
 have r:¬qo c 1226874159 12=9:=by simpa using r
 refine⟨oV Z',Xs _ ?_⟩;simp only[wj,de h,de g,de i,de j,de l,de m,de r,Wi.told]
def LS(K:qk):rb:=λds M Q=>Dg λp d C=>ds=[.ref p,d]/\M p=ga (.ins C [])/\tU K C "form"/\Q .mC (pq M p (.ins C [("form",d)]))
def Nm(K:qk):rb:=λds M Q=>GH λp t x y C=>ds=[.ref p,.tup t]/\wF t 1=ga x/\wF t 2=ga y/\M p=ga (.ins C [])/\tU K C "form"/\tU K C "target"/\tU K C "goal"/\Q .mC (pq M p (.ins C [("form",.tup t),("target",x),("goal",y)]))
def yg(a:Ad)(k:Wi->Prop):rb:=λds M Q=>CQ λp v=>ds=[.ref p,.tup (Wi.told v)]/\k v/\M p=ga (.ins (v.cls a) [])/\Q .mC (pq M p (.ins (v.cls a) v.ny))
def xw:Fq P w K mg base 1 a.E (LS K):=by
 refine fq G.E.toDG Fx (λr u=>⟨_,(oY (pX v0 U1)),?_⟩)
 rintro ds M Q ⟨p,d,C,rfl,hp,na,q⟩
 exact oZ hp ⟨na,by decide,_,.refl,q⟩
def zo:Fq P w K mg base 2 a.A (Nm K):=by
 refine fq G.A.toDG AL (λr u=>⟨_,(oX (pH (yW G.aM (xw G) r G.B G.E.toDG (rN v0 U1)))
 (oX (pX v0 (pD U1 o9))
 (oY (pX v0 (pD U1 o9))))),?_⟩)
 rintro ds M Q ⟨p,t,x,y,C,rfl,e1,e2,hp,n1,n2,n3,q⟩
 refine⟨p,_,C,Z',hp,n1,i' e1 (oZ pK ⟨n2,by show 1<1000;decide,?_⟩)⟩;refine i' e2 (oZ pK ⟨n3,by show 2<1000;decide,_,?_,q⟩);rw[rD,rD];exact .refl
def Sm:Fq P w K mg base 2 a.ak (yg a λv=>∃x ns,v=.bar x ns):=by
 refine fq G.ak.toDG GB (λr u=>⟨_,(oX (pH (yW G.aM (xw G) r G.B G.E.toDG (rN v0 U1)))
 (oX (pX v0 (pD U1 o9))
 (oY (pX v0 (pD U1 o9))))),?_⟩)
 rintro ds M Q ⟨p,v,rfl,⟨x,ns,rfl⟩,hp,q⟩
 refine⟨p,_,_,Z',hp,(G.bS "form" Z'),oZ pK ⟨(G.bS "phone" Z'),by show 1<1000;decide,?_⟩⟩;refine oZ pK ⟨(G.bS "targets" Z'),by show 2<1000;decide,_,?_,q⟩;rw[rD,rD];exact .refl
def QD:Fq P w K mg base 2 a.al (yg a λv=>∃x ns,v=.shut x ns):=by
 refine fq G.al.toDG FD (λr u=>⟨_,(oX (pH (yW G.aM (xw G) r G.B G.E.toDG (rN v0 U1)))
 (oX (pX v0 (pD U1 o9))
 (oY (pX v0 (pD U1 o9))))),?_⟩)
 rintro ds M Q ⟨p,v,rfl,⟨x,ns,rfl⟩,hp,q⟩
 refine⟨p,_,_,Z',hp,(G.bT "form" Z'),oZ pK ⟨(G.bT "target" Z'),by show 1<1000;decide,?_⟩⟩;refine oZ pK ⟨(G.bT "callers" Z'),by show 2<1000;decide,_,?_,q⟩;rw[rD,rD];exact .refl
def NS:Fq P w K mg base 3 a.am (yg a λv=>∃x y f l,v=.night x y f l):=by
 refine fq G.am.toDG C6 (λr u=>⟨_,(oX (pH (yW G.bY (zo G) r G.X G.A.toDG (rN v0 U1)))
 (oX (pX v0 (pD U1 o9))
 (oY (pX v0 (pD U1 o9))))),?_⟩)
 rintro ds M Q ⟨p,v,rfl,⟨x,y,f,l,rfl⟩,hp,q⟩
 refine⟨p,_,_,_,_,Z',Z',Z',hp,(G.aN "form" Z'),(G.aN "target" Z'),(G.aN "goal" Z'),oZ pK ⟨(G.aN "first" Z'),by show 3<1000;decide,?_⟩⟩;refine oZ pK ⟨(G.aN "last" Z'),by show 4<1000;decide,_,?_,q⟩;rw[rD,rD];exact .refl
def J2:Fq P w K mg base 3 a.an (yg a λv=>∃x y n,v=.silent x y n):=by
 refine fq G.an.toDG Ce (λr u=>⟨_,(oX (pH (yW G.bY (zo G) r G.X G.A.toDG (rN v0 U1)))
 (oY (pX v0 (pD U1 o9)))),?_⟩)
 rintro ds M Q ⟨p,v,rfl,⟨x,y,n,rfl⟩,hp,q⟩
 refine⟨p,_,_,_,_,Z',Z',Z',hp,(G.bN "form" Z'),(G.bN "target" Z'),(G.bN "goal" Z'),oZ pK ⟨(G.bN "turns" Z'),by show 3<1000;decide,_,?_,q⟩⟩;rw[rD];exact .refl
def Oo:Fq P w K mg base 2 a.ao (yg a λv=>∃x,v=.wait x):=by
 refine fq G.ao.toDG EB (λr u=>⟨_,(oX (pH (yW G.aM (xw G) r G.B G.E.toDG (rN v0 U1)))
 (oY (pX v0 (pD U1 o9)))),?_⟩)
 rintro ds M Q ⟨p,v,rfl,⟨x,rfl⟩,hp,q⟩
 refine⟨p,_,_,Z',hp,(G.bZ "form" Z'),oZ pK ⟨(G.bZ "phone" Z'),by show 1<1000;decide,_,?_,q⟩⟩;rw[rD];exact .refl
def J4:Fq P w K mg base 2 a.ap (yg a λv=>∃x,v=.breaks x):=by
 refine fq G.ap.toDG Ci (λr u=>⟨_,(oX (pH (yW G.aM (xw G) r G.B G.E.toDG (rN v0 U1)))
 (oY (pX v0 (pD U1 o9)))),?_⟩)
 rintro ds M Q ⟨p,v,rfl,⟨x,rfl⟩,hp,q⟩
 refine⟨p,_,_,Z',hp,(G.b0 "form" Z'),oZ pK ⟨(G.b0 "phone" Z'),by show 1<1000;decide,_,?_,q⟩⟩;rw[rD];exact .refl
def Hx(a:Ad):rb:=λds M Q=>∃v:Wi,ds=[.tup v.told]/\∀p,M p=Fa->Q (.ref p) (pq M p (.ins (v.cls a) v.ny))
def Jk(a:Ad):rb:=λds M Q=>CQ λp (v:Wi)=>ds=[.ref p]/\M p=ga (.ins (v.cls a) v.ny)/\Q (.tup v.told) M
def Ho:rb:=λds M Q=>∃p,ds=[.ref p]/\Q (.tup [.str "end"]) M
def Lg:rb:=λds M Q=>∃p,ds=[.ref p]/\Q (.tup [.str "break"]) M
def Q5:rb:=λds M Q=>Co λp C fs y=>ds=[.ref p]/\M p=ga (.ins C fs)/\fs.lookup ("goal":Str)=ga y/\Q (.tup [.str "to",y]) M
def Q6:rb:=λds M Q=>Co λp C fs y=>ds=[.ref p]/\M p=ga (.ins C fs)/\fs.lookup ("phone":Str)=ga y/\Q (.tup [.str "wait",y]) M
def LA(a:Ad):lf->rb->Prop:=λC sp=>(∃v:Wi,C=v.cls a)/\sp=Jk a
def Jy(a:Ad):lf->rb->Prop:=λC sp=>((C=a.t\/C=a.u)/\sp=Ho)\/((C=a.x\/C=a.n\/C=a.y\/C=a.v)/\sp=Q5)\/(C=a.w/\sp=Q6)\/(C=a.o/\sp=Lg)
def HE:Fq P w K mg base 5 a.bc (Hx a):=by
 refine fq G.bc.toDG Cb (λr u=>⟨_,(oX (pF 1 Cb (pD v0 o9))
 (oX (pJ (pB u U1 pb)
 (oY (pk (vg (Sm G) r G.t G.cb G.ak.toDG (pZ v0))))
 pE)
 (oX (pJ (pB u U1 pb)
 (oY (pk (vg (QD G) r G.u G.cc G.al.toDG (pZ v0))))
 pE)
 (oX (pJ (pB u U1 pb)
 (oY (pk (vg (zo G) r G.x G.cd G.A.toDG (pZ v0))))
 pE)
 (oX (pJ (pB u U1 pb)
 (oY (pk (vg (NS G) r G.n G.ce G.am.toDG (pZ v0))))
 pE)
 (oX (pJ (pB u U1 pb)
 (oY (pk (vg (zo G) r G.y G.cf G.A.toDG (pZ v0))))
 pE)
 (oX (pJ (pB u U1 pb)
 (oY (pk (vg (J2 G) r G.v G.cg G.an.toDG (pZ v0))))
 pE)
 (oX (pJ (pB u U1 pb)
 (oY (pk (vg (Oo G) r G.w G.ch G.ao.toDG (pZ v0))))
 pE)
 (oX (pJ (pB u U1 pb)
 (oY (pk (vg (J4 G) r G.o G.ci G.ap.toDG (pZ v0))))
 pE)
 (oY GS)))))))))),?_⟩)
 rintro ds M Q ⟨v,rfl,q⟩
 have Xs:∀(x:lf) (c0 c1:uI) (C:lf) (fs:T0 (Str×D)),M x=Fa->Q (.ref x) (pq M x c1)->∃Xr,qz Xr (pq (pq M x c0) x c1)/\Q (.ref x) Xr:=λx c0 c1 C fs hx q=>⟨_,by rw[rD];exact .refl,q⟩;cases v with
 | bar x ns=>exact λp hp=>⟨p,.bar x ns,Z',⟨_,_,Z'⟩,pK,Z',Xs p _ _ 0 [] hp (q p hp)⟩
 | shut x ns=>exact λp hp=>⟨p,.shut x ns,Z',⟨_,_,Z'⟩,pK,Z',Xs p _ _ 0 [] hp (q p hp)⟩
 | always x y=>exact λp hp=>⟨p,_,_,_,_,Z',Z',Z',pK,(G.bU "form" Z'),(G.bU "target" Z'),(G.bU "goal" Z'),Z',Xs p _ _ 0 [] hp (q p hp)⟩
 | night x y f l=>exact λp hp=>⟨p,.night x y f l,Z',⟨_,_,_,_,Z'⟩,pK,Z',Xs p _ _ 0 [] hp (q p hp)⟩
 | busy x y=>exact λp hp=>⟨p,_,_,_,_,Z',Z',Z',pK,(G.bV "form" Z'),(G.bV "target" Z'),(G.bV "goal" Z'),Z',Xs p _ _ 0 [] hp (q p hp)⟩
 | silent x y n=>exact λp hp=>⟨p,.silent x y n,Z',⟨_,_,_,Z'⟩,pK,Z',Xs p _ _ 0 [] hp (q p hp)⟩
 | wait x=>exact λp hp=>⟨p,.wait x,Z',⟨_,Z'⟩,pK,Z',Xs p _ _ 0 [] hp (q p hp)⟩
 | breaks x=>exact λp hp=>⟨p,.breaks x,Z',⟨_,Z'⟩,pK,Z',Xs p _ _ 0 [] hp (q p hp)⟩
def PB:Fq P w K mg base 1 a.l (Jk a):=by
 refine fq G.l.toDG Et (λr u=>⟨_,(oY (pk (pj v0))),?_⟩)
 rintro ds M Q ⟨p,v,rfl,hp,q⟩
 exact oZ hp (i' Z' ⟨M,.refl,q⟩)
def P5:Fq P w K mg base 1 a.ax Ho:=by
 refine fq G.ax.toDG Fd (λr u=>⟨_,(oY (pk (pI (pZ pb)))),?_⟩)
 rintro ds M Q ⟨p,rfl,q⟩
 exact⟨oV Z',M,.refl,q⟩
def MU:Fq P w K mg base 1 a.ay Ho:=by
 refine fq G.ay.toDG CY (λr u=>⟨_,(oY (pk (pI (pZ pb)))),?_⟩)
 rintro ds M Q ⟨p,rfl,q⟩
 exact⟨oV Z',M,.refl,q⟩
def vM:Fq P w K mg base 1 a.z Q5:=by
 refine fq G.z.toDG zW (λr u=>⟨_,(oY (pk (pI (rN pb (pj v0))))),?_⟩)
 rintro ds M Q ⟨p,C,fs,y,rfl,hp,e,q⟩
 exact oZ hp (i' e ⟨oV Z',M,.refl,q⟩)
def KY:Fq P w K mg base 1 a.az Q6:=by
 refine fq G.az.toDG C5 (λr u=>⟨_,(oY (pk (pI (rN pb (pj v0))))),?_⟩)
 rintro ds M Q ⟨p,C,fs,y,rfl,hp,e,q⟩
 exact oZ hp (i' e ⟨oV Z',M,.refl,q⟩)
def Im:Fq P w K mg base 1 a.aA Lg:=by
 refine fq G.aA.toDG AW (λr u=>⟨_,(oY (pk (pI (pZ pb)))),?_⟩)
 rintro ds M Q ⟨p,rfl,q⟩
 exact⟨oV Z',M,.refl,q⟩
def RP:∀C sp,LA a C sp->xI P w K mg base 1 "told" C (NV K sp):=by
 rintro C sp ⟨⟨v,rfl⟩,rfl⟩
 have F:=PB (P:=P) (w:=w) (base:=base) G;cases v with
 | bar _ _=>exact⟨G.t.toCls,_,_,_,G.cr,F,G.l.b⟩
 | shut _ _=>exact⟨G.u.toCls,_,_,_,G.cs,F,G.l.b⟩
 | always _ _=>exact⟨G.x.toCls,_,_,_,G.ct,F,G.l.b⟩
 | night _ _ _ _=>exact⟨G.n.toCls,_,_,_,G.cu,F,G.l.b⟩
 | busy _ _=>exact⟨G.y.toCls,_,_,_,G.cv,F,G.l.b⟩
 | silent _ _ _=>exact⟨G.v.toCls,_,_,_,G.cw,F,G.l.b⟩
 | wait _=>exact⟨G.w.toCls,_,_,_,G.cx,F,G.l.b⟩
 | breaks _=>exact⟨G.o.toCls,_,_,_,G.cy,F,G.l.b⟩
def Ph:∀C sp,Jy a C sp->xI P w K mg base 1 "wants" C (NV K sp):=by
 rintro C sp (⟨rfl|rfl,rfl⟩|⟨rfl|rfl|rfl|rfl,rfl⟩|⟨rfl,rfl⟩|⟨rfl,rfl⟩)
 .exact⟨G.t.toCls,_,_,_,G.ax.mW,P5 G,G.ax.b⟩
 .exact⟨G.u.toCls,_,_,_,G.ay.mW,MU G,G.ay.b⟩
 .exact⟨G.x.toCls,_,_,_,G.cz,vM G,G.z.b⟩
 .exact⟨G.n.toCls,_,_,_,G.cA,vM G,G.z.b⟩
 .exact⟨G.y.toCls,_,_,_,G.cB,vM G,G.z.b⟩
 .exact⟨G.v.toCls,_,_,_,G.cC,vM G,G.z.b⟩
 .exact⟨G.w.toCls,_,_,_,G.az.mW,KY G,G.az.b⟩
 .exact⟨G.o.toCls,_,_,_,G.aA.mW,Im G,G.aA.b⟩
def uf(x:Str):Bool:=decide ((1:Int)<=x.length)&&(decide ((x.length:Int)<=6)&&x.cps.toList.all λc=>Dt ⟨#[c]⟩ uh)
def HY:rb:=λds M Q=>∃x:Str,ds=[.str x]/\x.length<=1000/\Q (.bl (uf x)) M
def IB:rb:=λds M Q=>∃w,ds=[.bl Db,w]/\Q .mC M
noncomputable def wR(ss:QQQ):Bool:=((tz ss).length:Int)==(ss.length:Int)
def Sx(M:Mp)(x:D)(ss:QQQ):Prop:=x=.tup (ss.map D.str)\/∃a,x=.ref a/\oa M a=ga (ss.map D.str)
def J3:rb:=λds M Q=>CQ λx ss=>ds=[x]/\Sx M x ss/\ss.length<4000/\Q (.bl (wR ss)) M
def zL{α:Type}(f:α->Bool)(l:List α):(l.map f).all id=l.all f:=by rw[ma];rfl
def sf(x:Str)(ss:QQQ):inD (.str x) (ss.map D.str)=ss.any (·==x):=by unfold inD;rw[jF];rfl
theorem qp:∀ss:QQQ,(ss.map D.str).all uS=Db
 | []=>rfl
 | _::r=>by rw[d6,gv,qp r];rfl
def sr(cs ks:QQQ)(m:Int):Bool:=decide ((1:Int)<=cs.length)&&(decide ((cs.length:Int)<=m)&&(wR cs&&cs.all λc=>ks.any (·==c)))
def Ko:rb:=λds M Q=>Co λcs ks k m=>ds=[.tup (cs.map D.str),.ref k,.int m]/\oa M k=ga (ks.map D.str)/\cs.length<4000/\Q (.bl (sr cs ks m)) M
def BA:Fq P w K mg base 1 a.ad HY:=by
 refine fq G.ad.toDG HW (λr u=>⟨_,(oY (pk (sN (tY u o9 (pM qm Z' G.g ql (pZ v0)) (sA Z' G.cR)) (sv (pM (Ft Z') Z' G.bR EH (pZ (qE Z' (ya (ix:=[Fa]) (N':=["sign"])) (qF v0) (qv 0) rM (qc u v0 (sA Z' G.cS))))))))),?_⟩)
 rintro ds M Q ⟨x,rfl,hl,q⟩
 have hz:=dP;refine⟨by lia,qC (λh1=>?_) (λh1=>?_)⟩
 .refine qC (λh2=>?_) (λh2=>?_)
  .refine ra (f:=λd=>match d with|.str z=>D.bl (Dt z uh)|_=>.mC) trivial _ [] _ ?_ (λd hd k hk=>?_) λp hp=>?_
   .rw[cW];have:x.cps.toList.length=x.length:=by simp[Str.length]
    simp only[dN];lia
   .obtain⟨c,_,rfl⟩:=dD.mp hd;exact hk
   .refine i' pA ?_;have e:([]++(x.cps.toList.map λc=>D.str ⟨#[c]⟩).map λd=>match d with|.str z=>D.bl (Dt z uh)|_=>.mC)=x.cps.toList.map λc=>D.bl (Dt ⟨#[c]⟩ uh):=by rw[d9,d4];rfl
    rw[e];refine i' (yd (λc=>Dt ⟨#[c]⟩ uh) x.cps.toList) ⟨M,.new hp,?_⟩;rw[zL];have:uf x=x.cps.toList.all λc=>Dt ⟨#[c]⟩ uh:=by unfold uf;rw[h1,h2];rfl
    rw[<-this];exact q
  .refine⟨M,.refl,?_⟩;have:uf x=pc:=by
    unfold uf;have h2:decide ((x.length:Int)<=6)=pc:=by simpa using h2
    rw[h2];simp
   rw[<-this];exact q
 .refine⟨M,.refl,?_⟩;have:uf x=pc:=by
   unfold uf;have h1:decide ((1:Int)<=x.length)=pc:=by simpa using h1
   rw[h1];rfl
  rw[<-this];exact q
def sG:Fq P w K mg base 1 a.m IB:=by
 refine fq G.m.toDG PX (λr u=>⟨_,(oY (pJ (vS (ur v0))
 (oY GS)
 pE)),?_⟩)
 rintro ds M Q ⟨x,rfl,q⟩
 exact⟨M,.refl,q⟩
def DA:Fq P w K mg base 1 a.ae J3:=by
 refine fq G.ae.toDG CT (λr u=>⟨_,(oY (pk (qc u (Ky Z' v0 Z' G.g Z' G.cI ql Rh) (pM qm Z' G.g ql (pZ v0))))),?_⟩)
 rintro ds M Q ⟨x,ss,rfl,hx,hl,q⟩
 have key:((ss.map D.str).length:Int)=ss.length:=by rw[cW]
 rcases hx with rfl|⟨b,rfl,hb⟩
 .refine i' (L3.BR ss) ⟨hl,M,.refl,?_⟩;rw[key];exact q
 .refine i' hb (i' (L3.BR ss) ⟨hl,i' hb ⟨M,.refl,?_⟩⟩);rw[key];exact q
def Ai:Fq P w K mg base 2 a.P Ko:=by
 refine fq G.P.toDG Fh (λr u=>⟨_,(oY (pk (sN (tY u o9 (pM qm Z' G.g ql (pZ v0)) U2) (sN (pC (DA G) r G.ae (pZ v0)) (sv (pM (Ft Z') Z' G.bR EH (pZ (qE Z' (ya (ix:=[Fa,ga 1]) (N':=["name","known"])) (qF v0) (qv 0) rM (qc u v0 U1))))))))),?_⟩)
 rintro ds M Q ⟨cs,ks,k,m,rfl,hk,hl,q⟩
 have hz:=dP;have key:((cs.map D.str).length:Int)=cs.length:=by rw[cW]
 have YX:∀b:Bool,sr cs ks m=b->∃Xr,qz Xr M/\Q (.bl b) Xr:=λb e=>⟨M,.refl,e ▸ q⟩;refine qC (λh1=>?_) (λh1=>?_)
 .have h1:decide ((1:Int)<=cs.length)=Db:=by rw[<-key];exact h1
  refine qC (λh2=>?_) (λh2=>?_)
  .have h2:decide ((cs.length:Int)<=m)=Db:=by rw[<-key];exact h2
   refine⟨_,cs,Z',.inl Z',hl,qC (λh3=>?_) (λh3=>?_)⟩
   .refine ra (f:=λd=>match d with|.str z=>D.bl (ks.any (·==z))|_=>.mC) trivial _ [] _ ?_ (λd hd k0 hk0=>?_) λp hp=>?_
    .rw[cW];simp only[dN];lia
    .obtain⟨c,_,rfl⟩:=dD.mp hd;refine i' hk ⟨Z',qp ks,?_⟩;show k0 (.bl (inD (.str c) (ks.map D.str))) M;rw[sf];exact hk0
    .refine i' pA ?_;have e:([]++(cs.map D.str).map λd=>match d with|.str z=>D.bl (ks.any (·==z))|_=>.mC)=cs.map λc=>D.bl (ks.any (·==c)):=by rw[d9,d4];rfl
     rw[e];refine i' (yd (λc=>ks.any (·==c)) cs) ⟨M,.new hp,?_⟩;rw[zL];have:sr cs ks m=cs.all λc=>ks.any (·==c):=by unfold sr;rw[h1,h2,h3];rfl
     rw[<-this];exact q
   .refine YX _ ?_;unfold sr;have h3:wR cs=pc:=by simpa using h3
    rw[h3];simp
  .refine YX _ ?_;unfold sr;have h2:decide ((cs.length:Int)<=m)=pc:=by
    rw[<-key]
    simpa using h2
   rw[h2];simp
 .refine YX _ ?_;unfold sr;have h1:decide ((1:Int)<=cs.length)=pc:=by
   rw[<-key]
   simpa using h1
  rw[h1];rfl
abbrev uy:=Str×Int×Int
abbrev ug:=Str×Str×QQQ
abbrev ve:=Bool×Wi
noncomputable def qR(p:uy):D:=.tup [.str p.1,.int p.2.1,.int p.2.2]
noncomputable def qX(g:ug):D:=.tup [.str g.1,.str g.2.1,names g.2.2]
noncomputable def vI(w:ve):D:=.tup [.bl w.1,.tup w.2.told]
structure El(p:uy):Prop where
 len:p.1.length<=1000
 nm:uf p.1=Db
 l1:1<=p.2.1
 l2:p.2.1<=3
 r1:0<=p.2.2
 r2:p.2.2<=9
structure EV(pn:QQQ)(g:ug):Prop where
 len:g.1.length<=1000
 nm:uf g.1=Db
 man:g.2.1="all"\/g.2.1="turns"
 oV:g.2.2.length<4000
 mem:sr g.2.2 pn 4=Db
def xU(ss:QQQ)(x:Str):Prop:=ss.any (·==x)=Db
def B'(pn nm:QQQ):Wi->Prop
 | .bar x ns=>xU pn x/\ns.length<4000/\sr ns nm 6=Db
 | .shut x ns=>xU nm x/\ns.length<4000/\sr ns pn 6=Db
 | .always x y=>xU nm x/\xU nm y/\x≠y
 | .night x y f l=>xU nm x/\xU nm y/\x≠y/\(0<=f/\f<=23)/\(0<=l/\l<=23)/\f≠l
 | .busy x y=>xU nm x/\xU nm y/\x≠y
 | .silent x y n=>xU nm x/\xU nm y/\x≠y/\1<=n/\n<=9
 | .wait x=>xU pn x
 | .breaks x=>xU pn x
inductive xG(pn nm:QQQ):Str->D->Prop
 | mQ (x:Str) (h:xU pn x):xG pn nm "phone" (.str x)
 | name (x:Str) (h:xU nm x):xG pn nm "name" (.str x)
 | mB (cs:QQQ) (l:cs.length<4000) (h:sr cs pn 6=Db):xG pn nm "phones" (names cs)
 | names (cs:QQQ) (l:cs.length<4000) (h:sr cs nm 6=Db):xG pn nm "names" (names cs)
 | hour (i:Int) (h0:0<=i) (h1:i<=23):xG pn nm "hour" (.int i)
 | turns (i:Int) (h0:1<=i) (h1:i<=9):xG pn nm "turns" (.int i)
def Iy:rb:=λds M Q=>KA λk d pl nl (pn nm:QQQ)=>ds=[.str k,d,.ref pl,.ref nl]/\oa M pl=ga (pn.map D.str)/\oa M nl=ga (nm.map D.str)/\xG pn nm k d/\Q (.bl Db) M
def AO:rb:=λds M Q=>CQ λr (ps:List uy)=>ds=[.ref r]/\oa M r=ga (ps.map qR)/\1<=ps.length/\ps.length<=8/\(∀p∈ps,El p)/\Q .mC M
def AV:rb:=λds M Q=>Co λr (gs:List ug) pl (pn:QQQ)=>ds=[.ref r,.ref pl]/\oa M r=ga (gs.map qX)/\oa M pl=ga (pn.map D.str)/\gs.length<=3/\(∀g∈gs,EV pn g)/\Q .mC M
def Dm:rb:=λds M Q=>GH λv pl nl (pn nm:QQQ)=>ds=[.tup (Wi.told v),.ref pl,.ref nl]/\oa M pl=ga (pn.map D.str)/\oa M nl=ga (nm.map D.str)/\B' pn nm v/\Q .mC M
def A5:rb:=λds M Q=>KA λr (ws:List ve) pl nl (pn nm:QQQ)=>ds=[.ref r,.ref pl,.ref nl]/\oa M r=ga (ws.map vI)/\oa M pl=ga (pn.map D.str)/\oa M nl=ga (nm.map D.str)/\ws.length<=16/\(∀w∈ws,B' pn nm w.2)/\Q .mC M
def WU(h:xU ss x):inD (.str x) (ss.map D.str)=Db:=by rw[sf];exact h
def Qj:Fq P w K mg base 3 a.bf Iy:=by
 refine fq G.bf.toDG C0 (λr u=>⟨_,(oX (pJ (pB u v0 pb)
 (oY (pk (qc u U1 U2)))
 pE)
 (oX (pJ (pB u v0 pb)
 (oY (pk (qc u U1 U3)))
 pE)
 (oX (pJ (pB u v0 pb)
 (oY (pk (pC (Ai G) r G.P (rh U1 U2 (sA Z' G.b4)))))
 pE)
 (oX (pJ (pB u v0 pb)
 (oY (pk (pC (Ai G) r G.P (rh U1 U3 (sA Z' G.b4)))))
 pE)
 (oX (pJ (pB u v0 pb)
 (oY (pk (tY u o9 U1 (sA Z' G.cT))))
 pE)
 (oY (pk (tY u o9 U1 (sA Z' G.cU))))))))),?_⟩)
 rintro ds M Q ⟨k,d,pl,nl,pn,nm,rfl,hp,hn,ok,q⟩
 cases ok with
 | mQ x h=>refine i' hp ⟨Z',qp pn,M,.refl,?_⟩;show Q (.bl (inD (.str x) (pn.map D.str))) M;rw[WU h];exact q
 | name x h=>refine i' hn ⟨Z',qp nm,M,.refl,?_⟩;show Q (.bl (inD (.str x) (nm.map D.str))) M;rw[WU h];exact q
 | mB cs l h=>exact⟨cs,pn,pl,6,Z',hp,l,M,.refl,by rw[h];exact q⟩
 | names cs l h=>exact⟨cs,nm,nl,6,Z',hn,l,M,.refl,by rw[h];exact q⟩
 | hour i h0 h1=>refine yQ (c:=decide (0<=i)) (dS h0) ⟨M,.refl,?_⟩;show Q (.bl (decide (i<=23))) M;rw[dS h1];exact q
 | turns i h0 h1=>refine yQ (c:=decide (1<=i)) (dS h0) ⟨M,.refl,?_⟩;show Q (.bl (decide (i<=9))) M;rw[dS h1];exact q
def AU:Fq P w K mg base 2 a.bd AO:=by
 refine fq G.bd.toDG tS (λr u=>⟨_,(oX (pH (pC (sG G) r G.m (rN (tY u o9 (pM qm Z' G.g ql (pZ v0)) (sA Z' G.cK)) pb)))
 (oY (tT eQ Z' (qF v0) (ue (n:=3) Z' (qh (rE 1 tS) (qh (rE 2 tS) (qh (rE 3 tS) sU))))
 (oX (pH (pC (sG G) r G.m (rN (pC (BA G) r G.ad (pZ U1)) pb)))
 (oX (pH (pC (sG G) r G.m (rN (tY u o9 U2 (sA Z' G.cL)) pb)))
 (oY (pH (pC (sG G) r G.m (rN (tY u o9 U3 (sA Z' G.cM)) pb))))))))),?_⟩)
 rintro ds M Q ⟨r,ps,rfl,Yb,h1,h8,mH,q⟩
 have el:((ps.map qR).length:Int)=ps.length:=by rw[cW]
 refine i' Yb (yQ (c:=decide ((1:Int)<=(ps.map qR).length)) (dS (by lia)) ⟨_,by rw[dS (show((ps.map qR).length:Int)<=8 by lia)],i' Yb ?_⟩);refine Bq (λU M'=>M=M'/\∃x y z,U=[ga (.ref r),x,y,z]) (λU M' j=>by rw[<-j.1];exact Yb) _ _ _ ⟨Z',Fa,Fa,Fa,Z'⟩ ?_ ?_
 .rintro d hd U M' ⟨rfl,x,y,z,rfl⟩ nx Xv
  obtain⟨p,hp,rfl⟩:=dD.mp hd;have o:=mH p hp;refine⟨Z',⟨p.1,Z',o.len,_,by rw[o.nm],?_⟩⟩;refine yQ (c:=decide ((1:Int)<=p.2.1)) (dS o.l1) ⟨_,by rw[dS (show p.2.1<=3 from o.l2)],?_⟩;refine yQ (c:=decide ((0:Int)<=p.2.2)) (dS o.r1) ⟨_,by rw[dS (show p.2.2<=9 from o.r2)],?_⟩;exact Xv _ _ ⟨Z',_,_,_,Z'⟩
 .rintro U M' ⟨rfl,x,y,z,rfl⟩
  exact⟨M,.refl,q⟩
def AR:Fq P w K mg base 3 a.be AV:=by
 refine fq G.be.toDG tR (λr u=>⟨_,(oX (pH (pC (sG G) r G.m (rN (qc u (pM qm Z' G.g ql (pZ v0)) (sA Z' G.cN)) pb)))
 (oY (tT eQ Z' (qF v0) (ue (n:=3) Z' (qh (rE 2 tR) (qh (rE 3 tR) (qh (rE 4 tR) sU))))
 (oX (pH (pC (sG G) r G.m (rN (pC (BA G) r G.ad (pZ U2)) pb)))
 (oX (pH (pC (sG G) r G.m (rN (qc u U3 (sA Z' G.cO)) pb)))
 (oY (pH (pC (sG G) r G.m (rN (pC (Ai G) r G.P (rh v4 U1 (sA Z' G.cP))) pb))))))))),?_⟩)
 rintro ds M Q ⟨r,gs,pl,pn,rfl,Yb,hp,h3,mH,q⟩
 have el:((gs.map qX).length:Int)=gs.length:=by rw[cW]
 refine i' Yb ⟨_,by rw[dS (show((gs.map qX).length:Int)<=3 by lia)],i' Yb ?_⟩;refine Bq (λU M'=>M=M'/\∃x y z,U=[ga (.ref r),ga (.ref pl),x,y,z]) (λU M' j=>by rw[<-j.1];exact Yb) _ _ _ ⟨Z',Fa,Fa,Fa,Z'⟩ ?_ ?_
 .rintro d hd U M' ⟨rfl,x,y,z,rfl⟩ nx Xv
  obtain⟨g,hg,rfl⟩:=dD.mp hd;have o:=mH g hg;refine⟨Z',⟨g.1,Z',o.len,_,by rw[o.nm],?_⟩⟩;have hm:inD (.str g.2.1) [.str "all",.str "turns"]=Db:=by rcases o.man with e|e<;>(rw[e];rfl)
  refine⟨Z',Z',.str "a group's manner is all or turns",eI (λb=>[D.bl b,D.str "a group's manner is all or turns"]) hm,?_⟩;refine⟨g.2.2,pn,pl,4,Z',hp,o.oV,_,by rw[o.mem],?_⟩;exact Xv _ _ ⟨Z',_,_,_,Z'⟩
 .rintro U M' ⟨rfl,x,y,z,rfl⟩
  exact⟨M,.refl,q⟩
def Ds:Fq P w K mg base 4 a.bg Dm:=by
 refine fq G.bg.toDG tM (λr u=>⟨_,(oX (pH (pC (sG G) r G.m (rN (Mf G.b3 Z' (pD v0 o9)) pb)))
 (oX (pF 3 tM (Kp G.b3 Z' (pD v0 o9)))
 (oX (pF 4 tM (r6 v0 (sS o9) sR))
 (oX (pH (pC (sG G) r G.m (rN (qc u (pM qm Z' G.g ql (pZ v4)) (pM qm Z' G.g ql (pZ U3))) pb)))
 (oX (tT eQ Z' (SS Z' G.bP (rN U3 v4)) (ue (n:=2) Z' (qh (rE 5 tM) (qh (rE 6 tM) sU)))
 (oY (pH (pC (sG G) r G.m (rN (pC (Qj G) r G.bf (pV v5 (rh v6 U1 U2))) pb)))))
 (oX (pJ (pB u (r6 U3 sR (sS o9)) (pI (rN pb pb)))
 (oY (pH (pC (sG G) r G.m (rN (qc u (pD v4 o9) (pD v4 o9)) pb))))
 pE)
 (oY (pJ (pB u (r6 U3 (sS o9) sR) (pI (rN pb pb)))
 (oY (pH (pC (sG G) r G.m (rN (qc u (pD v4 o9) (pD v4 o9)) pb))))
 pE)))))))),?_⟩)
 rintro ds M Q ⟨v,pl,nl,pn,nm,rfl,hp,hn,ok,q⟩
 have part:∀{k:Str} {d:D} {C:DK},xG pn nm k d->C (.bl Db) M->Iy [.str k,d,.ref pl,.ref nl] M C:=λo c=>⟨_,_,pl,nl,pn,nm,Z',hp,hn,o,c⟩;have need:∀{x:D} {C:DK},C .mC M->IB [.bl Db,x] M C:=λc=>⟨_,Z',c⟩;have ne:∀{x y:Str},x≠y->(!(x==y))=Db:=λh=>by simpa using h
 have nei:∀{x y:Int},x≠y->(!(x==y))=Db:=λh=>by simpa using h
 have Xs:∃Xr,qz Xr M/\Q .mC Xr:=⟨M,.refl,q⟩;cases v with
 | bar x ns=>obtain⟨h1,h2,h3⟩:=ok;refine⟨_,Z',_,Z',?_⟩;refine⟨Z',_,_,pl,nl,pn,nm,Z',hp,hn,.mQ x h1,_,Z',trivial,⟨Z',_,_,pl,nl,pn,nm,Z',hp,hn,.names ns h2 h3,_,Z',trivial,?_⟩⟩;exact⟨oV Z',oV Z',Xs⟩
 | shut x ns=>obtain⟨h1,h2,h3⟩:=ok;refine⟨_,Z',_,Z',?_⟩;refine⟨Z',_,_,pl,nl,pn,nm,Z',hp,hn,.name x h1,_,Z',trivial,⟨Z',_,_,pl,nl,pn,nm,Z',hp,hn,.mB ns h2 h3,_,Z',trivial,?_⟩⟩;exact⟨oV Z',oV Z',Xs⟩
 | always x y=>obtain⟨h1,h2,h3⟩:=ok;refine⟨_,Z',_,Z',?_⟩;refine⟨Z',_,_,pl,nl,pn,nm,Z',hp,hn,.name x h1,_,Z',trivial,⟨Z',_,_,pl,nl,pn,nm,Z',hp,hn,.name y h2,_,Z',trivial,?_⟩⟩;refine⟨oV Z',⟨_,by rw[ne h3],?_⟩⟩;exact⟨oV Z',Xs⟩
 | night x y f l=>obtain⟨h1,h2,h3,h4,h5,h6⟩:=ok;refine⟨_,Z',_,Z',?_⟩;refine⟨Z',_,_,pl,nl,pn,nm,Z',hp,hn,.name x h1,_,Z',trivial,⟨Z',_,_,pl,nl,pn,nm,Z',hp,hn,.name y h2,_,Z',trivial,⟨Z',_,_,pl,nl,pn,nm,Z',hp,hn,.hour f h4.1 h4.2,_,Z',trivial,⟨Z',_,_,pl,nl,pn,nm,Z',hp,hn,.hour l h5.1 h5.2,_,Z',trivial,?_⟩⟩⟩⟩;refine⟨oV Z',⟨_,by rw[ne h3],?_⟩⟩;refine⟨oV Z',⟨_,by rw[nei h6],?_⟩⟩;exact Xs
 | busy x y=>obtain⟨h1,h2,h3⟩:=ok;refine⟨_,Z',_,Z',?_⟩;refine⟨Z',_,_,pl,nl,pn,nm,Z',hp,hn,.name x h1,_,Z',trivial,⟨Z',_,_,pl,nl,pn,nm,Z',hp,hn,.name y h2,_,Z',trivial,?_⟩⟩;refine⟨oV Z',⟨_,by rw[ne h3],?_⟩⟩;exact⟨oV Z',Xs⟩
 | silent x y n=>obtain⟨h1,h2,h3,h4,h5⟩:=ok;refine⟨_,Z',_,Z',?_⟩;refine⟨Z',_,_,pl,nl,pn,nm,Z',hp,hn,.name x h1,_,Z',trivial,⟨Z',_,_,pl,nl,pn,nm,Z',hp,hn,.name y h2,_,Z',trivial,⟨Z',_,_,pl,nl,pn,nm,Z',hp,hn,.turns n h4 h5,_,Z',trivial,?_⟩⟩⟩;refine⟨oV Z',⟨_,by rw[ne h3],?_⟩⟩;exact⟨oV Z',Xs⟩
 | wait x=>refine⟨_,Z',_,Z',?_⟩;refine⟨Z',_,_,pl,nl,pn,nm,Z',hp,hn,.mQ x ok,_,Z',trivial,?_⟩;exact⟨oV Z',oV Z',Xs⟩
 | breaks x=>refine⟨_,Z',_,Z',?_⟩;refine⟨Z',_,_,pl,nl,pn,nm,Z',hp,hn,.mQ x ok,_,Z',trivial,?_⟩;exact⟨oV Z',oV Z',Xs⟩
def A0:Fq P w K mg base 5 a.bh A5:=by
 refine fq G.bh.toDG uO (λr u=>⟨_,(oX (pH (pC (sG G) r G.m (rN (qc u (pM qm Z' G.g ql (pZ v0)) (sA Z' G.cQ)) pb)))
 (oY (tT eQ Z' (qF v0) (ue (n:=2) Z' (qh (rE 3 uO) (qh (rE 4 uO) sU)))
 (oY (pH (pC (Ds G) r G.bg (rh v4 U1 U2))))))),?_⟩)
 rintro ds M Q ⟨r,ws,pl,nl,pn,nm,rfl,Yb,hp,hn,h16,mH,q⟩
 have el:((ws.map vI).length:Int)=ws.length:=by rw[cW]
 refine i' Yb ⟨_,by rw[dS (show((ws.map vI).length:Int)<=16 by lia)],i' Yb ?_⟩;refine Bq (λU M'=>M=M'/\∃x y,U=[ga (.ref r),ga (.ref pl),ga (.ref nl),x,y]) (λU M' j=>by rw[<-j.1];exact Yb) _ _ _ ⟨Z',Fa,Fa,Z'⟩ ?_ ?_
 .rintro d hd U M' ⟨rfl,x,y,rfl⟩ nx Xv
  obtain⟨v,hv,rfl⟩:=dD.mp hd;exact⟨Z',⟨v.2,pl,nl,pn,nm,Z',hp,hn,mH v hv,Xv _ _ ⟨Z',_,_,Z'⟩⟩⟩
 .rintro U M' ⟨rfl,x,y,rfl⟩
  exact⟨M,.refl,q⟩
structure pz where
 mB:List uy
 groups:List ug
 mx:List ve
noncomputable def pz.pn(l:pz):QQQ:=l.mB.map (·.1)
noncomputable def pz.gn(l:pz):QQQ:=l.groups.map (·.1)
noncomputable def pz.nm(l:pz):QQQ:=l.pn++l.gn
structure qY(l:pz):Prop where
 p1:1<=l.mB.length
 p8:l.mB.length<=8
 po:∀p∈l.mB,El p
 g3:l.groups.length<=3
 go:∀g∈l.groups,EV l.pn g
 nd:l.nm.Nodup
 w16:l.mx.length<=16
 wo:∀w∈l.mx,B' l.pn l.nm w.2
def Du{ss:QQQ}(h:ss.Nodup):wR ss=Db:=by unfold wR;rw[Ik ss h];simp
def Dd:rb:=λds M Q=>Co λr1 r2 r3 (l:pz)=>ds=[.ref r1,.ref r2,.ref r3]/\oa M r1=ga (l.mB.map qR)/\oa M r2=ga (l.groups.map qX)/\oa M r3=ga (l.mx.map vI)/\qY l/\Q .mC M
noncomputable def Dq:D->D
 | .tup (x::_)=>x
 | _=>.mC
def yZ(ps:List uy):(ps.map qR).map Dq=(ps.map (·.1)).map D.str:=by rw[d4,d4];rfl
def yA(ps:List ug):(ps.map qX).map Dq=(ps.map (·.1)).map D.str:=by rw[d4,d4];rfl
def De:Fq P w K mg base 6 a.bi Dd:=by
 refine fq G.bi.toDG vQ (λr u=>⟨_,(oX (pH (pC (AU G) r G.bd (pZ v0)))
 (oX (uu (i:=3) vQ.nd Z' (Or.inl Z') Z' (ya (ix:=[Fa]) (N':=["phone"])) (qF v0) (qv 0) rM (pD v0 o9))
 (oX (pH (pC (AR G) r G.be (rN U1 U3)))
 (oX (pF 4 vQ (pQ U3 (qE Z' (ya (ix:=[Fa]) (N':=["group"])) (qF U1) (qv 0) rM (pD v0 o9))))
 (oX (pH (pC (sG G) r G.m (rN (pC (DA G) r G.ae (pZ v4)) pb)))
 (oY (pH (pC (A0 G) r G.bh (rh U2 U3 v4))))))))),?_⟩)
 rintro ds M Q ⟨r1,r2,r3,l,rfl,h1,h2,h3,ok,q⟩
 have hz:=dP;have l1:=ok.p8;have l2:=ok.g3;refine⟨r1,l.mB,Z',h1,ok.p1,ok.p8,ok.po,i' h1 ?_⟩;refine ra (f:=Dq) h1 _ [] _ (by rw[cW];simp only[dN];lia) (λd hd k hk=>?_) λp hp=>?_
 .obtain⟨x,_,rfl⟩:=dD.mp hd;exact hk
 rw[d9,yZ];obtain⟨M1,e0,s1,lp⟩:=uW (ds:=(l.mB.map (·.1)).map D.str) hp;rw[<-e0];have lp:oa M1 p=ga (l.pn.map D.str):=lp;refine⟨r2,l.groups,p,l.pn,Z',s1.lst h2,lp,ok.g3,ok.go,?_⟩;refine i' (s1.lst h2) (ra (f:=Dq) (s1.lst h2) _ [] _ (by rw[cW];simp only[dN];lia) (λd hd k hk=>?_) λp2 Xx=>?_)
 .obtain⟨x,_,rfl⟩:=dD.mp hd;exact hk
 rw[d9,yA];have s2:=qz.new (c:=.lst ((l.groups.map (·.1)).map D.str)) Xx;refine i' (s2.lst lp) (i' pA ⟨?_,λp3 Y5=>?_⟩)
 .rw[cW,cW,cW];show(l.mB.map (·.1)).length+_<=_;rw[cW];lia
 have en:l.pn.map D.str++(l.groups.map (·.1)).map D.str=l.nm.map D.str:=by unfold pz.nm;rw[dI];rfl
 rw[en];have s3:=s2.trans (qz.new (c:=.lst (l.nm.map D.str)) Y5);have l3:=@pA (pq M1 p2 (.lst ((l.groups.map (·.1)).map D.str))) p3 (l.nm.map D.str);generalize pq (pq M1 p2 (.lst ((l.groups.map (·.1)).map D.str))) p3 (.lst (l.nm.map D.str))=M3 at s3 l3 ⊢;have ln:l.nm.length<4000:=by unfold pz.nm pz.pn pz.gn;rw[c9,cW,cW];lia
 refine⟨_,l.nm,Z',.inr ⟨p3,Z',l3⟩,ln,_,by rw[Du ok.nd],?_⟩;exact⟨r3,l.mx,p,p3,l.pn,l.nm,Z',s3.lst (s1.lst h3),s3.lst lp,l3,ok.w16,ok.wo,M,s1.trans s3,q⟩
noncomputable def Q4(ph gr ws on pr gd:lf):T0 (Str×D):=[("phones",.ref ph),("groups",.ref gr),("wishes",.ref ws),("on",.ref on),("phone_rows",.ref pr),("group_rows",.ref gd)]
def RN(l:pz):T0 (qL×D):=l.mB.map λp=>(Sum.inr p.1,qR p)
def HU(l:pz):T0 (qL×D):=l.groups.map λg=>(Sum.inr g.1,qX g)
def sE(a:Ad)(M:Mp)(rs:QXQ)(ws:List ve):Prop:=rs.length=ws.length/\∀(i:Nat) (r:lf) (v:ve),rs[i]?=ga r->ws[i]?=ga v->M r=ga (.ins (v.2.cls a) v.2.ny)
def sP(a:Ad)(M:Mp)(p:lf)(l:pz):Prop:=Tx λph gr ws on pr gd (rs:QXQ)=>M p=ga (.ins a.h (Q4 ph gr ws on pr gd))/\oa M ph=ga (l.mB.map qR)/\oa M gr=ga (l.groups.map qX)/\
 oa M ws=ga (rs.map D.ref)/\oa M on=ga (l.mx.map λw=>D.bl w.1)/\xp M pr=ga (RN l)/\xp M gd=ga (HU l)/\sE a M rs l.mx
def sE.keep{p:lf}(h:sE a M rs ws)(k:qV p M M')(n:∀r∈rs,r≠p):sE a M' rs ws:=⟨h.1,λi r v e1 e2=>k r _ (n r (fk e1)) (h.2 i r v e1 e2)⟩
def sE.sub(h:sE a M rs ws)(k:qz M M'):sE a M' rs ws:=⟨h.1,λi r v e1 e2=>k r _ (h.2 i r v e1 e2)⟩
def sP.sub{p:lf}(h:sP a M p l)(s:qz M M'):sP a M' p l:=by obtain⟨ph,gr,ws,on,pr,gd,rs,h1,h2,h3,h4,h5,h6,h7,h8⟩:=h;exact⟨ph,gr,ws,on,pr,gd,rs,s _ _ h1,s.lst h2,s.lst h3,s.lst h4,s.lst h5,s.dk h6,s.dk h7,h8.sub s⟩
def O4(a:Ad):rb:=λds M Q=>GH λp r1 r2 r3 (l:pz)=>ds=[.ref p,.ref r1,.ref r2,.ref r3]/\M p=ga (.ins a.h [])/\oa M r1=ga (l.mB.map qR)/\oa M r2=ga (l.groups.map qX)/\oa M r3=ga (l.mx.map vI)/\qY l/\
 ∀M',qV p M M'->sP a M' p l->(∀Xr,(∀b c,(b=p\/M b=Fa)->M' b=ga c->Xr b=ga c)->sP a Xr p l)->Q .mC M'
def rC{p x:lf}{c:uI}(k:qV p M N)(hp:N p=ga c)(h:N x=Fa):M x=Fa:=by
 cases e:M x with
 | none=>rfl
 | some d=>
  have n:x≠p:=λz=>by rw[z,hp]at h;cases h
  rw[k x d n e]at h;cases h
def vD{a:lf}{es:T0 (qL×D)}(h:xp M a=ga es):M a=ga (.dk es):=by
 unfold xp at h;split at h
 .rename_i e;rw[e];cases h;rfl
 .cases h
theorem xc{α:Type}(f:α->Str)(g:α->D):∀l:List α,wV (l.map λx=>D.tup [.str (f x),g x])=ga (l.map λx=>(Sum.inr (f x),g x))
 | []=>rfl
 | x::r=>by show(wV (r.map λx=>D.tup [.str (f x),g x])).map ((Sum.inr (f x),g x)::·)=_;rw[xc f g r];rfl
def J7{ss:QQQ}(h:ss.Nodup):(ss.map λx=>(Sum.inr x:qL)).Nodup:=by
 induction ss with
 | nil=>exact eJ
 | cons x r ih=>obtain⟨h1,h2⟩:=dR.mp h;rw[d6];refine dR.mpr ⟨λz=>h1 ?_,ih h2⟩;obtain⟨y,hy,e⟩:=dD.mp z;cases e;exact hy
def yS{α:Type}{f:α->Str}{g:α->D}{l:List α}(h:(l.map f).Nodup):((l.map λx=>((Sum.inr (f x):qL),g x)).map (·.1)).Nodup:=by rw[d4];have:=J7 h;rw[d4]at this;exact this
def Ba(d:D):D:=.tup [Dq d,d]
noncomputable def WX:D->D
 | .tup (x::_)=>x
 | _=>.mC
def Sg(ws:List ve):(ws.map vI).map WX=ws.map λw=>D.bl w.1:=by rw[d4];rfl
def F8(ps:List uy):(ps.map qR).map Ba=ps.map λp=>D.tup [.str p.1,qR p]:=by rw[d4];rfl
def Gg(ps:List ug):(ps.map qX).map Ba=ps.map λp=>D.tup [.str p.1,qX p]:=by rw[d4];rfl
def sE.snoc{r:lf}{v:ve}(h:sE a M rs ws)(n:M r=Fa):sE a (pq M r (.ins (v.2.cls a) v.2.ny)) (rs++[r]) (ws++[v]):=by
 refine⟨by rw[c9,c9,h.1];rfl,λi r' v' e1 e2=>?_⟩;by_cases hi:i<rs.length
 .rw[eV hi]at e1;rw[eV (by rw[<-h.1];exact hi)]at e2;have:=h.2 i r' v' e1 e2;rw[tQ (FL this n)];exact this
 .have Zo:i=rs.length:=by have:=(cZ.mp e1).1;rw[c9,dM]at this;lia
  subst Zo;rw[eL (dq _)]at e1;rw[h.1,eL (dq _)]at e2;simp only[gp,iF,jn]at e1 e2;subst e1 e2;exact pK
def QG:Fq P w K mg base 7 a.ai (O4 a):=by
 refine fq G.ai.toDG EO (λr u=>⟨_,(oX (pH (pC (De G) r G.bi (rh U1 U2 U3)))
 (oX (pX v0 (qe sI Z' G.r so (pZ U1)))
 (oX (pX v0 (qe sI Z' G.r so (pZ U2)))
 (oX (pX v0 (qE Z' (ya (ix:=[Fa,Fa]) (N':=["on","wish"])) (qF U3) (ue (n:=2) Z' (qh (qv 0) (qh (qv 1) sU))) rM (pC (HE G) r G.bc (pZ U1))))
 (oX (pX v0 (qE Z' (ya (ix:=[Fa,Fa]) (N':=["on","wish"])) (qF U3) (ue (n:=2) Z' (qh (qv 0) (qh (qv 1) sU))) rM v0))
 (oX (pX v0 (qe (FJ Z') Z' G.bW FK (pZ (qE Z' (ya (ix:=[Fa]) (N':=["phone"])) (qF U1) (qv 0) rM (pI (rN (pD v0 o9) v0))))))
 (oY (pX v0 (qe (FJ Z') Z' G.bW FK (pZ (qE Z' (ya (ix:=[Fa]) (N':=["group"])) (qF U2) (qv 0) rM (pI (rN (pD v0 o9) v0))))))))))))),?_⟩)
 rintro ds M Q ⟨p,r1,r2,r3,l,rfl,hp,h1,h2,h3,ok,q⟩
 have hz:=dP;have l1:=ok.p8;have l2:=ok.g3;have l3:=ok.w16;refine⟨r1,r2,r3,l,Z',h1,h2,h3,ok,?_⟩;refine i' h1 λph hph=>?_;obtain⟨n1,e1,k1,c1,p1⟩:=sQ (fs':=[("phones",.ref ph)]) (c:=.lst (l.mB.map qR)) hp hph;refine oZ e1 ⟨(G.Y "phones" Z'),by show 0<1000;decide,?_⟩;show uo _ _ _ _ (pq (pq M ph (.lst (l.mB.map qR))) p (.ins a.h [("phones",.ref ph)]));generalize pq (pq M ph (.lst (l.mB.map qR))) p (.ins a.h [("phones",.ref ph)])=N1 at k1 c1 p1 ⊢;have Ya:=k1.lst (pO h1 hp) h1;have h2':=k1.lst (pO h2 hp) h2;have ZY:=k1.lst (pO h3 hp) h3;have f1:oa N1 ph=ga (l.mB.map qR):=sj c1;refine i' h2' λgr hgr=>?_;obtain⟨n2,e2,k2,c2,p2⟩:=sQ (fs':=[("phones",.ref ph),("groups",.ref gr)]) (c:=.lst (l.groups.map qX)) p1 hgr;refine oZ e2 ⟨(G.Y "groups" Z'),by show 1<1000;decide,?_⟩;show uo _ _ _ _ (pq (pq N1 gr (.lst (l.groups.map qX))) p (.ins a.h [("phones",.ref ph),("groups",.ref gr)]));generalize pq (pq N1 gr (.lst (l.groups.map qX))) p (.ins a.h [("phones",.ref ph),("groups",.ref gr)])=N2 at k2 c2 p2 ⊢;have g1:=k2.lst (pO Ya p1) Ya;have g2:=k2.lst (pO h2' p1) h2';have g3:=k2.lst (pO ZY p1) ZY;have f2:=k2.lst (pO f1 p1) f1;have f3:oa N2 gr=ga (l.groups.map qX):=sj c2;have kk2:=k1.trans k2;have m2:M gr=Fa:=rC k1 p1 hgr;clear Ya h2' ZY f1 c1 c2 k1 k2 e1 e2;refine i' g3 ?_;refine zO (l.mx.map vI) (λpre acc U Mx=>(∃x y,U=[x,y])/\qz N2 Mx/\∃rs:QXQ,acc=rs.map D.ref/\(∀r∈rs,N2 r=Fa)/\sE a Mx rs (l.mx.take pre.length)) (λpre acc U Mx j=>j.2.1.lst g3) _ [] [] _ _ Z' (by rw[cW];simp only[dN];lia) ⟨⟨Fa,Fa,Z'⟩,.refl,[],Z',λr hr=>absurd hr (dW),Z',λi r v e=>by simp at e⟩ ?_ ?_
 .rintro pre d post e acc U Mx ⟨⟨x,y,rfl⟩,sx,rs,rfl,fr,wa⟩ k hk
  obtain⟨v,hv,rfl⟩:∃v,l.mx[pre.length]?=ga v/\d=vI v:=by
   have:(l.mx.map vI)[pre.length]?=ga d:=by rw[<-e];simp
   rw[dA]at this;cases z:l.mx[pre.length]? with
   | none=>rw[z]at this;cases this
   | some v=>rw[z]at this;exact⟨v,Z',(dv this).symm⟩
  refine⟨Z',⟨v.2,Z',λr hr=>hk _ _ _ ⟨⟨_,_,Z'⟩,sx.trans (.new hr),rs++[r],?_,λr' hr'=>?_,?_⟩⟩⟩
  .rw[dI];rfl
  .rcases dO.mp hr' with z|z
   .exact fr r' z
   .rw[dh.mp z];exact sx.none hr
  .rw[c9,dM,fU,hv];exact wa.snoc hr
 rintro acc U Mx ⟨⟨x,y,rfl⟩,sx,rs,rfl,fr,wa⟩ ws hws
 have wa:sE a Mx rs l.mx:=by rw[cW,fP]at wa;exact wa
 obtain⟨n3,e3,k3,c3,p3⟩:=sQ (fs':=[("phones",.ref ph),("groups",.ref gr),("wishes",.ref ws)]) (c:=.lst (rs.map D.ref)) (sx _ _ p2) hws;refine oZ e3 ⟨(G.Y "wishes" Z'),by show 2<1000;decide,?_⟩;show uo _ _ _ _ (pq (pq Mx ws (.lst (rs.map D.ref))) p (.ins a.h [("phones",.ref ph),("groups",.ref gr),("wishes",.ref ws)]));generalize pq (pq Mx ws (.lst (rs.map D.ref))) p (.ins a.h [("phones",.ref ph),("groups",.ref gr),("wishes",.ref ws)])=N3 at k3 c3 p3 ⊢;have px:=sx _ _ p2;have i1:=k3.lst (pO (sx.lst g1) px) (sx.lst g1);have i2:=k3.lst (pO (sx.lst g2) px) (sx.lst g2);have i3:=k3.lst (pO (sx.lst g3) px) (sx.lst g3);have f4:=k3.lst (pO (sx.lst f2) px) (sx.lst f2);have f5:=k3.lst (pO (sx.lst f3) px) (sx.lst f3);have f6:oa N3 ws=ga (rs.map D.ref):=sj c3;have rp:∀r∈rs,r≠p:=λr hr z=>by have:=fr r hr;rw[z,p2]at this;cases this
 have w3:=wa.keep k3 rp;have kk3:=(kk2.trans sx.keep).trans k3;have m3:M ws=Fa:=rC (kk2.trans sx.keep) px hws;have mr:∀r∈rs,M r=Fa:=λr hr=>rC kk2 p2 (fr r hr);clear g1 g2 g3 f2 f3 c3 k3 e3 wa px kk2;refine i' i3 (CB (f:=WX) (λU=>∃x y,U=[x,y]) i3 _ [] _ ⟨Fa,Fa,Z'⟩ (by rw[cW];simp only[dN];lia) (λd hd U hj k hk=>?_) λon hon=>?_)
 .obtain⟨x,y,rfl⟩:=hj;obtain⟨v,_,rfl⟩:=dD.mp hd;exact⟨Z',hk _ ⟨_,_,Z'⟩⟩
 rw[d9,Sg];obtain⟨n4,e4,k4,c4,p4⟩:=sQ (fs':=[("phones",.ref ph),("groups",.ref gr),("wishes",.ref ws),("on",.ref on)]) (c:=.lst (l.mx.map λw=>D.bl w.1)) p3 hon;refine oZ e4 ⟨(G.Y "on" Z'),by show 3<1000;decide,?_⟩;show uo _ _ _ _ (pq (pq N3 on (.lst (l.mx.map λw=>D.bl w.1))) p (.ins a.h [("phones",.ref ph),("groups",.ref gr),("wishes",.ref ws),("on",.ref on)]));generalize pq (pq N3 on (.lst (l.mx.map λw=>D.bl w.1))) p (.ins a.h [("phones",.ref ph),("groups",.ref gr),("wishes",.ref ws),("on",.ref on)])=N4 at k4 c4 p4 ⊢;have j1:=k4.lst (pO i1 p3) i1;have j2:=k4.lst (pO i2 p3) i2;have f7:=k4.lst (pO f4 p3) f4;have f8:=k4.lst (pO f5 p3) f5;have f9:=k4.lst (pO f6 p3) f6;have fa:oa N4 on=ga (l.mx.map λw=>D.bl w.1):=sj c4;have w4:=w3.keep k4 rp;have Zs:=kk3.trans k4;have m4:M on=Fa:=rC kk3 p3 hon;clear i1 i2 i3 f4 f5 f6 c4 k4 e4 w3 kk3;refine i' j1 (ra (f:=Ba) j1 _ [] _ (by rw[cW];simp only[dN];lia) (λd hd k hk=>?_) λq1 Yc=>?_)
 .obtain⟨v,_,rfl⟩:=dD.mp hd;exact⟨oV Z',hk⟩
 rw[d9,F8];have ZZ:=qz.new (c:=.lst (l.mB.map λp=>D.tup [.str p.1,qR p])) Yc;refine i' pA (i' (xc (λp:uy=>p.1) qR l.mB) ⟨yS (iB (List.sublist_append_left _ _) ok.nd),λpr hpr=>?_⟩);obtain⟨n5,e5,k5,c5,p5⟩:=sQ (fs':=[("phones",.ref ph),("groups",.ref gr),("wishes",.ref ws),("on",.ref on),("phone_rows",.ref pr)]) (c:=.dk (l.mB.map λx=>(Sum.inr x.1,qR x))) (ZZ _ _ p4) hpr;refine oZ e5 ⟨(G.Y "phone_rows" Z'),by show 4<1000;decide,?_⟩;have k5:=ZZ.keep.trans k5;have Zg:vP "phone_rows" (.ref pr) [("phones",.ref ph),("groups",.ref gr),("wishes",.ref ws),("on",.ref on)]=([("phones",.ref ph),("groups",.ref gr),("wishes",.ref ws),("on",.ref on),("phone_rows",.ref pr)]:T0 (Str×D)):=rfl;rw[Zg];generalize pq (pq (pq N4 q1 (.lst (l.mB.map λp=>D.tup [.str p.1,qR p]))) pr (.dk (l.mB.map λx=>(Sum.inr x.1,qR x)))) p (.ins a.h [("phones",.ref ph),("groups",.ref gr),("wishes",.ref ws),("on",.ref on),("phone_rows",.ref pr)])=N5 at k5 c5 p5 ⊢;have mm:=k5.lst (pO j2 p4) j2;have fb:=k5.lst (pO f7 p4) f7;have fc:=k5.lst (pO f8 p4) f8;have fd:=k5.lst (pO f9 p4) f9;have fe:=k5.lst (pO fa p4) fa;have ff:xp N5 pr=ga (RN l):=Bu c5;have w5:=w4.keep k5 rp;have Zt:=Zs.trans k5;have m5:M pr=Fa:=rC (Zs.trans ZZ.keep) (ZZ _ _ p4) hpr;clear j1 j2 f7 f8 f9 fa c5 k5 e5 w4 Zs;refine i' mm (ra (f:=Ba) mm _ [] _ (by rw[cW];simp only[dN];lia) (λd hd k hk=>?_) λq2 YY=>?_)
 .obtain⟨v,_,rfl⟩:=dD.mp hd;exact⟨oV Z',hk⟩
 rw[d9,Gg];have sq2:=qz.new (c:=.lst (l.groups.map λg=>D.tup [.str g.1,qX g])) YY;refine i' pA (i' (xc (λp:ug=>p.1) qX l.groups) ⟨yS (iB (jr _ _) ok.nd),λgd hgd=>?_⟩);obtain⟨n6,e6,k6,c6,p6⟩:=sQ (fs':=Q4 ph gr ws on pr gd) (c:=.dk (HU l)) (sq2 _ _ p5) hgd;have k6:=sq2.keep.trans k6;refine oZ e6 ⟨(G.Y "group_rows" Z'),by show 5<1000;decide,_,.refl,?_⟩;have m6:M gd=Fa:=rC (Zt.trans sq2.keep) (sq2 _ _ p5) hgd;have w6:=w5.keep k6 rp;have y1:=k6.lst (pO fb p5) fb;have y2:=k6.lst (pO fc p5) fc;have y3:=k6.lst (pO fd p5) fd;have y4:=k6.lst (pO fe p5) fe;have y5:=k6.dk (CM ff p5) ff;refine q _ (Zt.trans k6) ⟨ph,gr,ws,on,pr,gd,rs,p6,y1,y2,y3,y4,y5,Bu c6,w6⟩ λXr hs=>?_;exact⟨ph,gr,ws,on,pr,gd,rs,hs _ _ (.inl Z') p6,sj (hs _ _ (.inr hph) (pN y1)),sj (hs _ _ (.inr m2) (pN y2)),sj (hs _ _ (.inr m3) (pN y3)),sj (hs _ _ (.inr m4) (pN y4)),Bu (hs _ _ (.inr m5) (vD y5)),Bu (hs _ _ (.inr m6) c6),w6.1,λi r v e1 e2=>hs _ _ (.inr (mr r (fk e1))) (w6.2 i r v e1 e2)⟩
theorem yi{α:Type}(f:α->Str)(g:α->D)(k:Str):∀l:List α,sV (l.map λx=>((Sum.inr (f x):qL),g x)) (Sum.inr k)=(l.find? λx=>decide (f x=k)).map g
 | []=>rfl
 | x::r=>by
  have ih:=yi f g k r;unfold sV at ih ⊢;rw[d6,eW,eW];by_cases h:f x=k
  .have h':decide ((Sum.inr (f x):qL)=Sum.inr k)=Db:=dS (by rw[h]);simp[h]
  .have h':¬(Sum.inr (f x):qL)=Sum.inr k:=λz=>h (jR z);simp only[h,h',decide_false];exact ih
noncomputable def pz.mQ(l:pz)(x:Str):Option uy:=l.mB.find? λp=>decide (p.1=x)
noncomputable def pz.group(l:pz)(x:Str):Option ug:=l.groups.find? λg=>decide (g.1=x)
noncomputable def pz.mv(l:pz)(x:Str):QQQ:=(l.group x).elim [x] λg=>g.2.2
noncomputable def pz.mE(l:pz)(x:Str):Str:=(l.group x).elim "one" λg=>g.2.1
def GF(l:pz)(x:Str):sV (RN l) (Sum.inr x)=(l.mQ x).map qR:=yi (λp:uy=>p.1) qR x l.mB
def wq(l:pz)(x:Str):sV (HU l) (Sum.inr x)=(l.group x).map qX:=yi (λp:ug=>p.1) qX x l.groups
def yV(a:Ad):rb:=λds M Q=>CQ λp (l:pz)=>ds=[.ref p]/\sP a M p l/\l.mB.length<=100/\∀q,M q=Fa->Q (.ref q) (pq M q (.lst (l.pn.map D.str)))
def Eo(a:Ad):rb:=λds M Q=>CQ λp (l:pz)=>ds=[.ref p]/\sP a M p l/\l.mB.length<=100/\l.groups.length<=100/\∀q,M q=Fa->Q (.ref q) (pq M q (.lst (l.nm.map D.str)))
def Fu(a:Ad):rb:=λds M Q=>Co λp x v (l:pz)=>ds=[.ref p,.str x]/\sP a M p l/\l.mQ x=ga v/\Q (.int v.2.1) M
def GN(a:Ad):rb:=λds M Q=>Co λp x v (l:pz)=>ds=[.ref p,.str x]/\sP a M p l/\l.mQ x=ga v/\Q (.int v.2.2) M
def Ag(a:Ad):rb:=λds M Q=>Dg λp x (l:pz)=>ds=[.ref p,.str x]/\sP a M p l/\∀q,M q=Fa->Q (.ref q) (pq M q (.lst ((l.mv x).map D.str)))
def Dc(a:Ad):rb:=λds M Q=>Dg λp x (l:pz)=>ds=[.ref p,.str x]/\sP a M p l/\Q (.str (l.mE x)) M
def su:Fq P w K mg base 1 a.L (yV a):=by
 refine fq G.L.toDG yr (λr u=>⟨_,(oY (pk (qE Z' (ya (ix:=[Fa]) (N':=["phone"])) (qF (pj v0)) (qv 0) rM (pD v0 o9)))),?_⟩)
 rintro ds M Q ⟨p,l,rfl,hp,hl,q⟩
 have hz:=dP;obtain⟨ph,gr,ws,on,pr,gd,rs,h1,h2,h3,h4,h5,h6,h7,h8⟩:=hp;refine oZ h1 (i' Z' (i' h2 ?_));refine ra (f:=Dq) h2 _ [] _ (by rw[cW];simp only[dN];lia) (λd hd k hk=>?_) λq1 Yc=>?_
 .obtain⟨x,_,rfl⟩:=dD.mp hd;exact hk
 rw[d9,yZ];exact⟨_,.refl,q q1 Yc⟩
def yx:Fq P w K mg base 2 a.aj (Eo a):=by
 refine fq G.aj.toDG C4 (λr u=>⟨_,(oY (pk (pQ (vK v0 G.h.toCls G.L (su G) r) (qE Z' (ya (ix:=[Fa]) (N':=["group"])) (qF (pj v0)) (qv 0) rM (pD v0 o9))))),?_⟩)
 rintro ds M Q ⟨p,l,rfl,hp,hl,hl2,q⟩
 have hz:=dP;have XC:=hp;obtain⟨ph,gr,ws,on,pr,gd,rs,h1,h2,h3,h4,h5,h6,h7,h8⟩:=hp;refine oZ h1 ⟨Z',_,⟨Z',Z'⟩,p,l,Z',XC,hl,λq1 Yc=>?_⟩;obtain⟨M1,e0,s1,e1⟩:=uW (ds:=l.pn.map D.str) Yc;rw[<-e0];have ZY:=s1.lst h3;refine oZ (s1 _ _ h1) (i' Z' (i' ZY ?_));refine ra (f:=Dq) ZY _ [] _ (by rw[cW];simp only[dN];lia) (λd hd k hk=>?_) λq2 YY=>?_
 .obtain⟨x,_,rfl⟩:=dD.mp hd;exact hk
 rw[d9,yA];have s2:=qz.new (c:=.lst ((l.groups.map (·.1)).map D.str)) YY;refine i' (s2.lst e1) (i' pA ⟨?_,λq3 hq3=>?_⟩)
 .rw[cW,cW,cW];show(l.mB.map (·.1)).length+_<=_;rw[cW];lia
 have en:l.pn.map D.str++(l.groups.map (·.1)).map D.str=l.nm.map D.str:=by unfold pz.nm;rw[dI];rfl
 rw[en];exact⟨_,(s1.trans s2).upd,q q3 ((s1.trans s2).none hq3)⟩
def C7:Fq P w K mg base 1 a.bF (Fu a):=by
 refine fq G.bF.toDG Do (λr u=>⟨_,(oY (pk (pD (zC u (pj v0) U1) o9))),?_⟩)
 rintro ds M Q ⟨p,x,v,l,rfl,hp,hv,q⟩
 obtain⟨ph,gr,ws,on,pr,gd,rs,h1,h2,h3,h4,h5,h6,h7,h8⟩:=hp;exact oZ h1 (i' Z' (i' Z' (i' h6 (i' (x:=qR v) (by rw[GF,hv];rfl) ⟨M,.refl,q⟩))))
def zF:Fq P w K mg base 1 a.aL (GN a):=by
 refine fq G.aL.toDG Ex (λr u=>⟨_,(oY (pk (pD (zC u (pj v0) U1) o9))),?_⟩)
 rintro ds M Q ⟨p,x,v,l,rfl,hp,hv,q⟩
 obtain⟨ph,gr,ws,on,pr,gd,rs,h1,h2,h3,h4,h5,h6,h7,h8⟩:=hp;exact oZ h1 (i' Z' (i' Z' (i' h6 (i' (x:=qR v) (by rw[GF,hv];rfl) ⟨M,.refl,q⟩))))
def uj:Fq P w K mg base 1 a.V (Ag a):=by
 refine fq G.V.toDG zh (λr u=>⟨_,(oX (pJ (MH u U1 (pj v0))
 (oY (pk (qe sI Z' G.r so (pZ (pD (zC u (pj v0) U1) o9)))))
 pE)
 (oY (pk (qB (pZ U1))))),?_⟩)
 rintro ds M Q ⟨p,x,l,rfl,hp,q⟩
 obtain⟨ph,gr,ws,on,pr,gd,rs,h1,h2,h3,h4,h5,h6,h7,h8⟩:=hp;refine oZ h1 (i' Z' (i' h7 ?_));cases e:l.group x with
 | none=>refine Ey (c:=(sV (HU l) (Sum.inr x)).isSome) (by rw[wq,e];rfl) ⟨oV Z',λq1 Yc=>⟨_,.refl,?_⟩⟩;have:=q q1 Yc;unfold pz.mv at this;rw[e]at this;exact this
 | some g=>refine yQ (c:=(sV (HU l) (Sum.inr x)).isSome) (by rw[wq,e];rfl) (oZ h1 (i' Z' (i' Z' (i' h7 (i' (x:=qX g) (by rw[wq,e];rfl) λq1 Yc=>⟨_,.refl,?_⟩)))));have:=q q1 Yc;unfold pz.mv at this;rw[e]at this;exact this
def xB:Fq P w K mg base 1 a.aJ (Dc a):=by
 refine fq G.aJ.toDG BQ (λr u=>⟨_,(oX (pJ (MH u U1 (pj v0))
 (oY (pk (pD (zC u (pj v0) U1) o9)))
 pE)
 (oY (pk pb))),?_⟩)
 rintro ds M Q ⟨p,x,l,rfl,hp,q⟩
 obtain⟨ph,gr,ws,on,pr,gd,rs,h1,h2,h3,h4,h5,h6,h7,h8⟩:=hp;refine oZ h1 (i' Z' (i' h7 ?_));cases e:l.group x with
 | none=>refine Ey (c:=(sV (HU l) (Sum.inr x)).isSome) (by rw[wq,e];rfl) ⟨M,.refl,?_⟩;unfold pz.mE at q;rw[e]at q;exact q
 | some g=>refine yQ (c:=(sV (HU l) (Sum.inr x)).isSome) (by rw[wq,e];rfl) (oZ h1 (i' Z' (i' Z' (i' h7 (i' (x:=qX g) (by rw[wq,e];rfl) ⟨M,.refl,?_⟩)))));unfold pz.mE at q;rw[e]at q;exact q
noncomputable def PH:T0 Int:=[1,1,2,2,3]
noncomputable def Qe:T0 Int:=[0,1,1,2,5,9]
noncomputable def Pp:QQQ:=["all","turns"]
noncomputable def FX(t:T0 Int)(i:Int):Int:=t.getD i.toNat 0
def vO(s:Int)(i:Nat):uy:=(xZ s (0+(i:Nat)),FX PH (qo (s+17*(0+(i:Nat))*(0+(i:Nat))) 16807 5),FX Qe (qo (s+17*(0+(i:Nat))*(0+(i:Nat))) 39373 6))
def rK(s m:Int):Nat:=(2+qo s 48271 (m - 1)).toNat
def qu(s m:Int):List uy:=(List.range (rK s m)).map (vO s)
def Am(s:Int)(own:QQQ)(i:Nat):ug:=(xZ s (8+(0+(i:Nat))),Bv Pp (qo (s+5*(0+(i:Nat))) 742938285 2),vB own (s+11*(0+(i:Nat))) 4)
def vC(s:Int):Nat:=(qo s 69621 3).toNat
def qW(s:Int)(own:QQQ):List ug:=(List.range (vC s)).map (Am s own)
def FQ{ts:T0 Int}{i:Int}(h0:0<=i)(h1:i<ts.length):wF (ts.map D.int) i=ga (D.int (FX ts i)):=by
 obtain⟨n,rfl⟩:=eB h0;have Zl:n<ts.length:=by lia
 refine uZ ?_;rw[dA,cY Zl];simp[FX,Zl]
def Cy{pre post:T0 D}{d:D}(e:pre++d::post=(List.range n).map λi=>D.int (0+(i:Nat))):d=.int (0+(pre.length:Nat))/\pre.length<n:=by
 have h:((List.range n).map λi=>D.int (0+(i:Nat)))[pre.length]?=ga d:=by rw[<-e];simp
 have hl:pre.length<n:=by
  have:=(cZ.mp h).1
  simpa using this
 rw[dA,iW hl]at h;exact⟨(dv h).symm,hl⟩
def Bs{α β:Type}(f:Nat->α)(g:α->β)(n:Nat):((List.range n).map f).map g++[g (f n)]=((List.range (n+1)).map f).map g:=by rw[jQ,dI,dI];rfl
def Hl:rb:=λds M Q=>CQ λs m=>ds=[.int s,.int m]/\2<=m/\m<=100/\∀q,M q=Fa->Q (.ref q) (pq M q (.lst ((qu s m).map qR)))
def Hy:rb:=λds M Q=>Dg λs o own=>ds=[.int s,.ref o]/\oa M o=ga (own.map D.str)/\own≠[]/\own.length<=64/\∀q,M q=Fa->Q (.ref q) (pq M q (.lst ((qW s own).map qX)))
def yG{s m:Int}(h2:2<=m)(h:m<=100):rK s m<=100/\2<=rK s m:=by have d0:=qP (c:=s) (f:=48271) (m:=m - 1) (by lia);have d1:=qG (c:=s) (f:=48271) (m:=m - 1) (by lia);unfold rK;lia
def xb{s:Int}:vC s<=3:=by have d0:=qP (c:=s) (f:=69621) (m:=3) (by decide);have d1:=qG (c:=s) (f:=69621) (m:=3) (by decide);unfold vC;lia
def Hk:Fq P w K mg base 2 a.bj Hl:=by
 refine fq G.bj.toDG uG (λr u=>⟨_,(oX (pF 2 uG (qB rO))
 (oX (tT eQ Z' (wb Z' G.Z (pZ (pQ o9 (pC (qD G) r G.i (rh v0 o9 (pQ U1 o9)))))) (rE 3 uG)
 (oX (pF 4 uG (pD (pI (pV o9 (pV o9 (rh o9 o9 o9)))) (pC (qD G) r G.i (rh (pQ v0 (pQ (pQ o9 U3) U3)) o9 o9))))
 (oY (pH (qH U2 (pZ (pI (rh (pC (Jc G) r G.af (rN v0 U3)) v4 (pD (pI (pV o9 (pV o9 (pV o9 (rh o9 o9 o9))))) (pC (qD G) r G.i (rh (pQ v0 (pQ (pQ o9 U3) U3)) o9 o9)))))))))))
 (oY (pk U2)))),?_⟩)
 rintro ds M Q ⟨s,m,rfl,h2,h100,q⟩
 have hz:=dP;have d0:=qP (c:=s) (f:=48271) (m:=m - 1) (by lia);have d1:=qG (c:=s) (f:=48271) (m:=m - 1) (by lia);have nl:=(yG (s:=s) h2 h100).1;refine⟨oV Z',λr hr=>⟨s,_,_,Z',by show 0<m - 1;lia,Z',⟨?_,?_⟩,?_⟩⟩
 .show -(2 ^ 62)<=2+qo s 48271 (m - 1);lia
 .show 2+qo s 48271 (m - 1)<2 ^ 62;lia
 refine uN ((List.range (rK s m)).map λi=>D.int (0+(i:Nat))) (λpre U M'=>M'=pq M r (.lst (((List.range pre.length).map (vO s)).map qR))/\∃x y,U=[ga (.int s),ga (.int m),ga (.ref r),x,y]) (λ_ _ _ _=>trivial) _ [] _ _ Z' ⟨Z',Fa,Fa,Z'⟩ ?_ ?_
 .rintro pre d post e U M' ⟨rfl,x,y,rfl⟩ nx Xv
  obtain⟨rfl,XD⟩:=Cy e;generalize hi:pre.length=i at XD Xv ⊢;have cm:C8 (17*(0+(i:Int))) (0+(i:Int)):=.inr ⟨by lia,by lia⟩;have c17:C8 17 (0+(i:Int)):=.inl ⟨by decide,by decide⟩;have t5:wF [D.int 1,.int 1,.int 2,.int 2,.int 3] (qo (s+17*(0+(i:Int))*(0+(i:Int))) 16807 5)=ga (.int (vO s i).2.1):=FQ (ts:=PH) (qP (by decide)) (qG (by decide));have t6:wF [D.int 0,.int 1,.int 1,.int 2,.int 5,.int 9] (qo (s+17*(0+(i:Int))*(0+(i:Int))) 39373 6)=ga (.int (vO s i).2.2):=FQ (ts:=Qe) (qP (by decide)) (qG (by decide));refine⟨oV Z',c17,cm,_,_,_,Z',by decide,i' t5 ?_⟩;refine⟨by show(oa _ r).isSome=Db;rw[pA];rfl,s,_,Z',oV Z',c17,cm,_,_,_,Z',by decide,i' t6 ⟨oV Z',i' pA ⟨?_,?_⟩⟩⟩
  .rw[cW,cW,eG];lia
  .refine Xv _ _ ⟨?_,_,_,Z'⟩;rw[rD,c9,hi];show pq M r (.lst (_++[qR (vO s i)]))=_;rw[Bs];rfl
 .rintro U M' ⟨rfl,x,y,rfl⟩
  refine⟨_,.refl,?_⟩;rw[cW,eG];exact q r hr
def HS:Fq P w K mg base 3 a.bk Hy:=by
 refine fq G.bk.toDG uD (λr u=>⟨_,(oX (pF 2 uD (qB rO))
 (oX (tT eQ Z' (wb Z' G.Z (pZ (pC (qD G) r G.i (rh v0 o9 o9)))) (rE 3 uD)
 (oX (pF 4 uD (pD (pI (rN pb pb)) (pC (qD G) r G.i (rh (pQ v0 (pQ o9 U3)) o9 o9))))
 (oY (pH (qH U2 (pZ (pI (rh (pC (Jc G) r G.af (rN v0 (pQ o9 U3))) v4 (pC (yj G) r G.Q (rh U1 (pQ v0 (pQ o9 U3)) o9))))))))))
 (oY (pk U2)))),?_⟩)
 rintro ds M Q ⟨s,o,own,rfl,ho,XN,h64,q⟩
 have hz:=dP;have d0:=qP (c:=s) (f:=69621) (m:=3) (by decide);have d1:=qG (c:=s) (f:=69621) (m:=3) (by decide);have nl:=xb (s:=s);refine⟨oV Z',λr hr=>⟨s,_,_,Z',by decide,Z',⟨?_,?_⟩,?_⟩⟩
 .show -(2 ^ 62)<=qo s 69621 3;lia
 .show qo s 69621 3<2 ^ 62;lia
 have nor:o≠r:=λz=>by rw[z]at ho;unfold oa at ho;rw[hr]at ho;cases ho
 refine uN ((List.range (vC s)).map λi=>D.int (0+(i:Nat))) (λpre U M'=>M'=pq M r (.lst (((List.range pre.length).map (Am s own)).map qX))/\∃x y,U=[ga (.int s),ga (.ref o),ga (.ref r),x,y]) (λ_ _ _ _=>trivial) _ [] _ _ Z' ⟨Z',Fa,Fa,Z'⟩ ?_ ?_
 .rintro pre d post e U M' ⟨rfl,x,y,rfl⟩ nx Xv
  obtain⟨rfl,XD⟩:=Cy e;generalize hi:pre.length=i at XD Xv ⊢;have c5:C8 5 (0+(i:Int)):=.inl ⟨by decide,by decide⟩;have c11:C8 11 (0+(i:Int)):=.inl ⟨by decide,by decide⟩;have tm:wF [D.str "all",.str "turns"] (qo (s+5*(0+(i:Int))) 742938285 2)=ga (.str (Am s own i).2.1):=Hb (row:=Pp) (qP (by decide)) (qG (by decide));have X6:oa (pq M r (.lst (((List.range i).map (Am s own)).map qX))) o=ga (own.map D.str):=by unfold oa;rw[tQ nor];exact ho
  refine⟨oV Z',c5,_,_,_,Z',by decide,i' tm ?_⟩;refine⟨by show(oa _ r).isSome=Db;rw[pA];rfl,s,_,Z',c11,o,_,_,own,Z',X6,XN,by decide,h64,oV Z',i' pA ⟨?_,?_⟩⟩
  .rw[cW,cW,eG];lia
  .refine Xv _ _ ⟨?_,_,_,Z'⟩;rw[rD,c9,hi];show pq M r (.lst (_++[qX (Am s own i)]))=_;rw[Bs];rfl
 .rintro U M' ⟨rfl,x,y,rfl⟩
  refine⟨_,.refl,?_⟩;rw[cW,eG];exact q r hr
def Iq(ns:T0 Int)(own nm:QQQ)(i:Nat):ve:=(decide (0<qo (cell ns (1+(0+(i:Nat)))+31*(0+(i:Nat))*(0+(i:Nat))) 22695477 6),wj (cell ns (1+(0+(i:Nat)))+31*(0+(i:Nat))*(0+(i:Nat))) own nm)
def wY(s:Int):Nat:=(qo s 950706376 11).toNat
def B2(ns:T0 Int)(m:Int):pz:=
 let s:=cell ns 0;let own:=(qu s m).map (·.1);let gs:=qW s own
 ⟨qu s m,gs,(List.range (wY s)).map (Iq ns own (own++gs.map (·.1)))⟩
def My:rb:=λds M Q=>CQ λns m=>ds=[.rl (ns.map D.int),.int m]/\2<=m/\m<=8/\∀r1 r2 r3 M',qz M M'->oa M' r1=ga ((B2 ns m).mB.map qR)->oa M' r2=ga ((B2 ns m).groups.map qX)->oa M' r3=ga ((B2 ns m).mx.map vI)->Q (.tup [.ref r1,.ref r2,.ref r3]) M'
def MC:Fq P w K mg base 4 a.bm My:=by
 refine fq G.bm.toDG se (λr u=>⟨_,(oX (pF 2 se (pC (IT G) r G.J (rN v0 o9)))
 (oX (pF 3 se (pC (Hk G) r G.bj (rN U2 U1)))
 (oX (uu (i:=4) se.nd Z' (Or.inl Z') Z' (ya (ix:=[Fa]) (N':=["_law_phone"])) (qF U3) (qv 0) rM (pD v0 o9))
 (oX (pF 5 se (pC (HS G) r G.bk (rN U2 v4)))
 (oX (pF 6 se (pQ v4 (qE Z' (ya (ix:=[Fa]) (N':=["_law_group"])) (qF v5) (qv 0) rM (pD v0 o9))))
 (oX (pF 7 se (qB rO))
 (oX (tT eQ Z' (wb Z' G.Z (pZ (pC (qD G) r G.i (rh U2 o9 o9)))) (rE 8 se)
 (oX (pF 9 se (pQ (pC (IT G) r G.J (rN v0 (pQ o9 v8))) (pQ (pQ o9 v8) v8)))
 (oY (pH (qH v7 (pZ (pI (rN (qc u (pC (qD G) r G.i (rh v9 o9 o9)) o9) (pC (Pr G) r G.bl (rh v9 v4 v6))))))))))
 (oY (pk (pI (rh U3 v5 v7))))))))))),?_⟩)
 rintro ds M Q ⟨ns,m,rfl,h2,h8,q⟩
 have hz:=dP;have pl:=yG (s:=cell ns 0) h2 (by lia);have p8:rK (cell ns 0) m<=8:=by have d1:=qG (c:=cell ns 0) (f:=48271) (m:=m - 1) (by lia);unfold rK;lia
 have gl:=xb (s:=cell ns 0);have lp:(qu (cell ns 0) m).length=rK (cell ns 0) m:=by unfold qu;rw[cW,eG]
 refine⟨ns,0,Z',cell ns 0,m,Z',h2,by lia,λr1 Yb=>?_⟩;obtain⟨M1,e0,s1,a1⟩:=uW (ds:=(qu (cell ns 0) m).map qR) Yb;rw[<-e0];refine i' a1 (ra (f:=Dq) a1 _ [] _ (by rw[cW];simp only[dN];lia) (λd hd k hk=>?_) λo ho=>?_)
 .obtain⟨x,_,rfl⟩:=dD.mp hd;exact hk
 rw[d9,yZ];have s2:=s1.trans (qz.new (c:=.lst (((qu (cell ns 0) m).map (·.1)).map D.str)) ho);have b1:=(qz.new (c:=.lst (((qu (cell ns 0) m).map (·.1)).map D.str)) ho).lst a1;have bo:=@pA M1 o (((qu (cell ns 0) m).map (·.1)).map D.str);generalize pq M1 o (.lst (((qu (cell ns 0) m).map (·.1)).map D.str))=M2 at s2 b1 bo ⊢;have ol:((qu (cell ns 0) m).map (·.1)).length=rK (cell ns 0) m:=by rw[cW,lp]
 have one:(qu (cell ns 0) m).map (·.1)≠[]:=λz=>by rw[z]at ol;have:0=rK (cell ns 0) m:=ol;lia
 have XC:B2 ns m=⟨qu (cell ns 0) m,qW (cell ns 0) ((qu (cell ns 0) m).map (·.1)),(List.range (wY (cell ns 0))).map (Iq ns ((qu (cell ns 0) m).map (·.1)) ((qu (cell ns 0) m).map (·.1)++(qW (cell ns 0) ((qu (cell ns 0) m).map (·.1))).map (·.1)))⟩:=rfl;rw[XC]at q;generalize (qu (cell ns 0) m).map (·.1)=own at bo ol one q ⊢;refine⟨cell ns 0,o,own,Z',bo,one,by lia,λr2 ZM=>?_⟩;obtain⟨M3,e0,t3,c2⟩:=uW (ds:=(qW (cell ns 0) own).map qX) ZM;rw[<-e0];have c1:=t3.lst b1;have co:=t3.lst bo;have s3:=s2.trans t3;have gll:(qW (cell ns 0) own).length=vC (cell ns 0):=by unfold qW;rw[cW,eG]
 refine i' c2 (ra (f:=Dq) c2 _ [] _ (by rw[cW];simp only[dN];lia) (λd hd k hk=>?_) λx4 hx4=>?_)
 .obtain⟨x,_,rfl⟩:=dD.mp hd;exact hk
 rw[d9,yA];have t4:=qz.new (c:=.lst (((qW (cell ns 0) own).map (·.1)).map D.str)) hx4;refine i' (t4.lst co) (i' pA ⟨?_,λn hn=>?_⟩)
 .rw[cW,cW,cW];lia
 have en:own.map D.str++((qW (cell ns 0) own).map (·.1)).map D.str=(own++(qW (cell ns 0) own).map (·.1)).map D.str:=by rw[dI]
 rw[en];have nl:(own++(qW (cell ns 0) own).map (·.1)).length=rK (cell ns 0) m+vC (cell ns 0):=by rw[c9,cW,ol,gll]
 have t5:=t4.trans (qz.new (c:=.lst ((own++(qW (cell ns 0) own).map (·.1)).map D.str)) hn);have en5:=@pA (pq M3 x4 (.lst (((qW (cell ns 0) own).map (·.1)).map D.str))) n ((own++(qW (cell ns 0) own).map (·.1)).map D.str);have e1:=t5.lst c1;have e2:=t5.lst c2;have eo:=t5.lst co;have s5:=s3.trans t5;generalize pq (pq M3 x4 (.lst (((qW (cell ns 0) own).map (·.1)).map D.str))) n (.lst ((own++(qW (cell ns 0) own).map (·.1)).map D.str))=M5 at s5 e1 e2 eo en5 ⊢;generalize own++(qW (cell ns 0) own).map (·.1)=nm at en5 nl q ⊢;have d0:=qP (c:=cell ns 0) (f:=950706376) (m:=11) (by decide);have d1:=qG (c:=cell ns 0) (f:=950706376) (m:=11) (by decide);refine⟨oV Z',λr3 Zh=>⟨_,_,_,Z',by decide,Z',⟨?_,?_⟩,?_⟩⟩
 .show -(2 ^ 62)<=qo (cell ns 0) 950706376 11;lia
 .show qo (cell ns 0) 950706376 11<2 ^ 62;lia
 have t6:=qz.new (c:=.lst []) Zh;have g3:=@pA M5 r3 [];have no:o≠r3:=λz=>by have:=pN eo;rw[z,Zh]at this;cases this
 have nn:n≠r3:=λz=>by have:=pN en5;rw[z,Zh]at this;cases this
 have n1:r1≠r3:=λz=>by have:=pN e1;rw[z,Zh]at this;cases this
 have n2:r2≠r3:=λz=>by have:=pN e2;rw[z,Zh]at this;cases this
 have f1:=t6.lst e1;have f2:=t6.lst e2;have fo:=t6.lst eo;have fn:=t6.lst en5;have k6:qz M (pq M5 r3 (.lst [])):=s5.trans t6;have nr:M r3=Fa:=s5.none Zh;generalize pq M5 r3 (.lst [])=M6 at f1 f2 fo fn k6 g3 ⊢;have wl:wY (cell ns 0)<=10:=by unfold wY;lia
 refine uN ((List.range (wY (cell ns 0))).map λi=>D.int (0+(i:Nat))) (λpre U M'=>qV r3 M6 M'/\oa M' r3=ga (((List.range pre.length).map (Iq ns own nm)).map vI)/\∃x y,U=[ga (.rl (ns.map D.int)),ga (.int m),ga (.int (cell ns 0)),ga (.ref r1),ga (.ref o),ga (.ref r2),ga (.ref n),ga (.ref r3),x,y]) (λp U M' j=>trivial) _ [] _ _ Z' ⟨λ_ _ _ h=>h,g3,Fa,Fa,Z'⟩ ?_ ?_
 .rintro pre d post e U M' ⟨kp,lr,x,y,rfl⟩ nx Xv
  obtain⟨rfl,XD⟩:=Cy e;generalize hi:pre.length=i at XD Xv lr ⊢;have c31:C8 31 (0+(i:Int)):=.inl ⟨by decide,by decide⟩;have cm:C8 (31*(0+(i:Int))) (0+(i:Int)):=.inr ⟨by lia,by lia⟩;refine⟨ns,_,Z',c31,cm,?_⟩;refine⟨by show(oa M' r3).isSome=Db;rw[lr];rfl,_,_,_,Z',by decide,_,o,n,own,nm,Z',kp.lst no fo,kp.lst nn fn,one,by lia,by lia,by lia,oV Z',i' lr ⟨?_,?_⟩⟩
  .rw[cW,cW,eG];lia
  .refine Xv _ _ ⟨kp.trans .put,?_,_,_,Z'⟩;rw[pA,c9,hi];show ga (_++[vI (Iq ns own nm i)])=_;rw[Bs];rfl
 .rintro U M' ⟨kp,lr,x,y,rfl⟩
  rw[cW,eG]at lr;exact⟨oV Z',M',.refl,q r1 r2 r3 M' (λb c h=>kp b c (λz=>by rw[z,nr]at h;cases h) (k6 b c h)) (kp.lst n1 f1) (kp.lst n2 f2) lr⟩
theorem CN(x:Array Nat):∀(n:Nat) (acc:Array Nat),((List.replicate n x).foldl (·++·) acc).toList=acc.toList++(List.replicate n x.toList).flatten
 | 0,acc=>by simp
 | n+1,acc=>by rw[eF,fV,CN x n (acc++x),eF,fL,iX,eY]
theorem FR(c:Nat):∀n:Nat,(List.replicate n [c]).flatten=List.replicate n c
 | 0=>rfl
 | n+1=>by rw[eF,fL,FR c n,eF];rfl
def DR(i n:Int):(yO (tV i) n).cps.toList=List.replicate n.toNat (97+i.toNat):=by show((List.replicate n.toNat (tV i).cps).foldl (·++·) #[]:Array Nat).toList=_;rw[CN];show[]++(List.replicate n.toNat [97+i.toNat]).flatten=_;rw[d9,FR]
def yf(s v:Int):(xZ s v).cps.toList=List.replicate (uc s).toNat (97+(s / 36 % 26).toNat)++(97+((s / 936+v) % 26).toNat)::List.replicate (size s - 1 - uc s).toNat (97+(s / 36 % 26).toNat):=by show((yO (tV (s / 36 % 26)) (uc s)).cps++(tV ((s / 936+v) % 26)).cps++(yO (tV (s / 36 % 26)) (size s - 1 - uc s)).cps).toList=_;rw[iX,iX,DR,DR];show _++[97+((s / 936+v) % 26).toNat]++_=_;rw[eY];rfl
def BB(s v:Int):1<=(xZ s v).length/\(xZ s v).length<=6:=by
 have e:(xZ s v).length=(xZ s v).cps.toList.length:=by simp[Str.length]
 rw[e,yf,c9,eA,gG,gG];have h1:=G5 s;have h2:=Iw s;have h3:0<=uc s:=eP _ (by lia);have h4:uc s<size s:=eO _ h1;lia
def NM{i:Int}(h0:0<=i)(h1:i<26):Dt ⟨#[97+i.toNat]⟩ uh=Db:=by
 obtain⟨n,rfl⟩:=eB h0;have hn:n<26:=by lia
 have key:∀n:_root_.Fin 26,Dt ⟨#[97+n.val]⟩ uh=Db:=by decide+kernel
 exact key ⟨n,hn⟩
def Dy(s v:Int):uf (xZ s v)=Db:=by
 obtain⟨h1,h2⟩:=BB s v;unfold uf;rw[dS (show(1:Int)<=(xZ s v).length by lia),dS (show((xZ s v).length:Int)<=6 by lia),eK,eK,eX];intro c hc;rw[yf]at hc;have k1:=NM (eP (s / 36) (show(26:Int)≠0 by decide)) (eO (s / 36) (by decide));have k2:=NM (eP (s / 936+v) (show(26:Int)≠0 by decide)) (eO (s / 936+v) (by decide));rcases dO.mp hc with z|z
 .rw[jG z];exact k1
 .rcases dz.mp z with z|z
  .rw[z];exact k2
  .rw[jG z];exact k1
def CL{s u v:Int}(hu:0<=u)(hu':u<26)(hv:0<=v)(hv':v<26)(e:xZ s u=xZ s v):u=v:=by
 have e':(xZ s u).cps.toList=(xZ s v).cps.toList:=by rw[e]
 rw[yf,yf]at e';have:=(List.append_cancel_left e');have:=(gK this).1;have a1:=eP (s / 936+u) (show(26:Int)≠0 by decide);have a2:=eP (s / 936+v) (show(26:Int)≠0 by decide);have h:(s / 936+u) % 26=(s / 936+v) % 26:=by lia
 lia
def Eu{ss:QQQ}{x:Str}(h:x∈ss):xU ss x:=fQ.mpr ⟨x,h,by simp⟩
def Bf{row:QQQ}{i:Int}(h0:0<=i)(h1:i<row.length):Bv row i∈row:=by
 obtain⟨n,rfl⟩:=eB h0;have hn:n<row.length:=by lia
 have:Bv row (n:Int)=row[n]:=by simp[Bv,hn]
 rw[this];exact ii hn
def JA{row:QQQ}{i j:Int}(nd:row.Nodup)(h0:0<=i)(h1:i<row.length)(g0:0<=j)(g1:j<row.length)(e:Bv row i=Bv row j):i=j:=by
 obtain⟨n,rfl⟩:=eB h0;obtain⟨k,rfl⟩:=eB g0;have hn:n<row.length:=by lia
 have hk:k<row.length:=by lia
 have e1:Bv row (n:Int)=row[n]:=by simp[Bv,hn]
 have e2:Bv row (k:Int)=row[k]:=by simp[Bv,hk]
 rw[e1,e2]at e;have pw:=js.mp nd;rcases Nat.lt_trichotomy n k with z|z|z
 .exact absurd e (pw n k hn hk z)
 .rw[z]
 .exact absurd e.symm (pw k n hk hn z)
def z9{α:Type}(f:Nat->α)(n:Nat)(h:∀i j,i<n->j<n->f i=f j->i=j):((List.range n).map f).Nodup:=by refine js.mpr λi j hi hj XD e=>?_;rw[cW,eG]at hi hj;rw[lL,lL,kP,kP]at e;have:=h i j hi hj e;lia
def BX{row:QQQ}{c m:Int}(hr:row≠[])(hm:0<m):1<=xi row c m/\(xi row c m:Int)<=m/\xi row c m<=row.length:=by
 have hl:0<row.length:=fu.mpr hr;have d0:=qP (c:=c) (f:=40692) (m:=if (row.length:Int)<m then(row.length:Int)else m) (by split<;>lia);have d1:=qG (c:=c) (f:=40692) (m:=if (row.length:Int)<m then(row.length:Int)else m) (by split<;>lia);unfold xi;by_cases h:(row.length:Int)<m
 .rw[df h]at d0 d1 ⊢;lia
 .rw[de h]at d0 d1 ⊢;lia
def B8{row:QQQ}{c:Int}(hr:row≠[])(j:Nat):0<=(qo c 69621 row.length+(0+(j:Nat))) % (row.length:Int)/\(qo c 69621 row.length+(0+(j:Nat))) % (row.length:Int)<row.length:=by have hl:0<row.length:=fu.mpr hr;exact⟨eP _ (by lia),eO _ (by lia)⟩
def Jw{d n i j:Int}(hn:0<n)(hi:0<=i)(Zo:i<n)(hj:0<=j)(hj':j<n)(e:(d+i) % n=(d+j) % n):i=j:=by
 have h1:=j4 (d+i) n;have h2:=j4 (d+j) n;generalize (d+i) / n=a at h1;generalize (d+j) / n=b at h2;have h3:i - j=n*(a - b):=by rw[Int.mul_sub];lia
 rcases Int.lt_trichotomy (a - b) 0 with z|z|z
 .have:n*(a - b)<=n*(-1):=iU (by lia) (by lia);lia
 .rw[z]at h3;lia
 .have:n*1<=n*(a - b):=iU (by lia) (by lia);lia
def Ha{row:QQQ}{c m:Int}(nd:row.Nodup)(hr:row≠[])(hm:0<m):(vB row c m).Nodup:=by have hl:0<row.length:=fu.mpr hr;obtain⟨_,_,l3⟩:=BX (c:=c) hr hm;refine z9 _ _ λi j hi hj e=>?_;obtain⟨a0,a1⟩:=B8 (c:=c) hr i;obtain⟨b0,b1⟩:=B8 (c:=c) hr j;have e':=JA nd a0 a1 b0 b1 e;have:=Jw (d:=qo c 69621 row.length) (n:=row.length) (i:=0+(i:Nat)) (j:=0+(j:Nat)) (by lia) (by lia) (by lia) (by lia) (by lia) e';lia
def xS{row:QQQ}{c m k:Int}(nd:row.Nodup)(hr:row≠[])(hm:0<m)(hk:m<=k):sr (vB row c m) row k=Db:=by
 obtain⟨l1,l2,l3⟩:=BX (c:=c) hr hm;have el:(vB row c m).length=xi row c m:=by unfold vB;rw[cW,eG]
 unfold sr;rw[el,dS (show(1:Int)<=xi row c m by lia),dS (show(xi row c m:Int)<=k by lia),Du (Ha nd hr hm),eK,eK,eK,eX];intro x hx;unfold vB at hx;obtain⟨j,_,rfl⟩:=dD.mp hx;obtain⟨a0,a1⟩:=B8 (c:=c) hr j;exact Eu (Bf a0 a1)
def BD{row:QQQ}{c m:Int}(hr:row≠[])(hm:0<m)(h:m<=100):(vB row c m).length<4000:=by
 obtain⟨l1,l2,l3⟩:=BX (c:=c) hr hm;have el:(vB row c m).length=xi row c m:=by unfold vB;rw[cW,eG]
 lia
def P3{c:Int}{own all:QQQ}(no:own.Nodup)(na:all.Nodup)(ho:own≠[])(ha:2<=all.length):B' own all (wj c own all):=by
 have hl:(0:Int)<own.length:=by have:=fu.mpr ho;lia
 have ha0:all≠[]:=λz=>by rw[z]at ha;simp at ha
 have hx:=Eu (Bf (qP (c:=c) (f:=16807) hl) (qG (c:=c) (f:=16807) hl));have p0:=qP (c:=c) (f:=39373) (m:=all.length) (by lia);have p1:=qG (c:=c) (f:=39373) (m:=all.length) (by lia);have e0:=qP (c:=c) (f:=742938285) (m:=(all.length:Int) - 1) (by lia);have e1:=qG (c:=c) (f:=742938285) (m:=(all.length:Int) - 1) (by lia);have z0:=eP (qo c 39373 all.length+1+qo c 742938285 ((all.length:Int) - 1)) (show(all.length:Int)≠0 by lia);have z1:=eO (qo c 39373 all.length+1+qo c 742938285 ((all.length:Int) - 1)) (show(0:Int)<all.length by lia);have hy:=Eu (Bf p0 p1);have hzz:=Eu (Bf z0 z1);have ne:Bv all (qo c 39373 all.length)≠Bv all ((qo c 39373 all.length+1+qo c 742938285 ((all.length:Int) - 1)) % all.length):=λz=>by
  have q:=JA na p0 p1 z0 z1 z;have q2:(qo c 39373 all.length+0) % (all.length:Int)=(qo c 39373 all.length+(1+qo c 742938285 ((all.length:Int) - 1))) % (all.length:Int):=by rw[me,Int.emod_eq_of_lt p0 p1,<-Int.add_assoc];exact q
  have:=Jw (by lia) (by lia) (by lia) (by lia) (by lia) q2;lia
 have f0:=qP (c:=c) (f:=22695477) (m:=24) (by decide);have f1:=qG (c:=c) (f:=22695477) (m:=24) (by decide);have g0:=qP (c:=c) (f:=48271) (m:=23) (by decide);have g1:=qG (c:=c) (f:=48271) (m:=23) (by decide);have t0:=qP (c:=c) (f:=950706376) (m:=5) (by decide);have t1:=qG (c:=c) (f:=950706376) (m:=5) (by decide);unfold wj;simp only;split
 .exact⟨hx,BD ha0 (by decide) (by decide),xS na ha0 (by decide) (by decide)⟩
 .split
  .exact⟨hy,BD ho (by decide) (by decide),xS no ho (by decide) (by decide)⟩
  .split
   .exact⟨hy,hzz,ne⟩
   .split
    .refine⟨hy,hzz,ne,⟨f0,by lia⟩,⟨eP _ (by decide),?_⟩,?_⟩
     .have:=eO (qo c 22695477 24+1+qo c 48271 23) (show(0:Int)<24 by decide);lia
     .omega
    .split
     .exact⟨hy,hzz,ne⟩
     .split
      .refine⟨hy,hzz,ne,?_⟩;generalize qo c 950706376 5=d at t0 t1;have:d=0\/d=1\/d=2\/d=3\/d=4:=by lia
       rcases this with z|z|z|z|z<;>(subst z;decide)
      .split
       .exact hx
       .exact hx
def Mm(s:Int)(i:Nat):El (vO s i):=by
 have t0:=qP (c:=s+17*(0+(i:Nat))*(0+(i:Nat))) (f:=16807) (m:=5) (by decide);have t1:=qG (c:=s+17*(0+(i:Nat))*(0+(i:Nat))) (f:=16807) (m:=5) (by decide);have u0:=qP (c:=s+17*(0+(i:Nat))*(0+(i:Nat))) (f:=39373) (m:=6) (by decide);have u1:=qG (c:=s+17*(0+(i:Nat))*(0+(i:Nat))) (f:=39373) (m:=6) (by decide);have a:1<=(vO s i).2.1/\(vO s i).2.1<=3:=by
  show 1<=FX PH (qo (s+17*(0+(i:Nat))*(0+(i:Nat))) 16807 5)/\FX PH (qo (s+17*(0+(i:Nat))*(0+(i:Nat))) 16807 5)<=3;generalize qo (s+17*(0+(i:Nat))*(0+(i:Nat))) 16807 5=d at t0 t1;have:d=0\/d=1\/d=2\/d=3\/d=4:=by lia
  rcases this with z|z|z|z|z<;>(subst z;decide)
 have b:0<=(vO s i).2.2/\(vO s i).2.2<=9:=by
  show 0<=FX Qe (qo (s+17*(0+(i:Nat))*(0+(i:Nat))) 39373 6)/\FX Qe (qo (s+17*(0+(i:Nat))*(0+(i:Nat))) 39373 6)<=9;generalize qo (s+17*(0+(i:Nat))*(0+(i:Nat))) 39373 6=d at u0 u1;have:d=0\/d=1\/d=2\/d=3\/d=4\/d=5:=by lia
  rcases this with z|z|z|z|z|z<;>(subst z;decide)
 exact⟨dZ (BB s (0+(i:Nat))).2 (by decide),Dy _ _,a.1,a.2,b.1,b.2⟩
def MR{s:Int}{own:QQQ}(nd:own.Nodup)(hr:own≠[])(i:Nat):EV own (Am s own i):=by
 have t0:=qP (c:=s+5*(0+(i:Nat))) (f:=742938285) (m:=2) (by decide);have t1:=qG (c:=s+5*(0+(i:Nat))) (f:=742938285) (m:=2) (by decide);refine⟨dZ (BB s (8+(0+(i:Nat)))).2 (by decide),Dy _ _,?_,BD hr (by decide) (by decide),xS nd hr (by decide) (by decide)⟩;show Bv Pp (qo (s+5*(0+(i:Nat))) 742938285 2)="all"\/Bv Pp (qo (s+5*(0+(i:Nat))) 742938285 2)="turns";generalize qo (s+5*(0+(i:Nat))) 742938285 2=d at t0 t1;have:d=0\/d=1:=by lia
 rcases this with z|z
 .subst z;exact .inl Z'
 .subst z;exact .inr Z'
def Ms(s m:Int):(qu s m).map (·.1)=(List.range (rK s m)).map λi=>xZ s (0+(i:Nat)):=by unfold qu;rw[d4];rfl
def F6{s m:Int}(h2:2<=m)(h8:m<=8):((qu s m).map (·.1)).Nodup/\∀own,((qu s m).map (·.1)++(qW s own).map (·.1)).Nodup:=by
 have d1:=qG (c:=s) (f:=48271) (m:=m - 1) (by lia);have d0:=qP (c:=s) (f:=48271) (m:=m - 1) (by lia);have p8:rK s m<=8:=by unfold rK;lia
 have g3:=xb (s:=s);have a:((qu s m).map (·.1)).Nodup:=by rw[Ms];refine z9 _ _ λi j hi hj e=>?_;have:=CL (by lia) (by lia) (by lia) (by lia) e;lia
 refine⟨a,λown=>?_⟩;have ge:(qW s own).map (·.1)=(List.range (vC s)).map λi=>xZ s (8+(0+(i:Nat))):=by unfold qW;rw[d4];rfl
 rw[gq];refine⟨a,?_,λx hx y hy e=>?_⟩
 .rw[ge];refine z9 _ _ λi j hi hj e=>?_;have:=CL (by lia) (by lia) (by lia) (by lia) e;lia
 .rw[Ms]at hx;rw[ge]at hy;obtain⟨i,hi,rfl⟩:=dD.mp hx;obtain⟨j,hj,rfl⟩:=dD.mp hy;have hi:=gy.mp hi;have hj:=gy.mp hj;have:=CL (by lia) (by lia) (by lia) (by lia) e;lia
def Pa{m:Int}(h2:2<=m)(h8:m<=8):qY (B2 ns m):=by
 obtain⟨n1,n2⟩:=F6 (s:=cell ns 0) h2 h8;have pl:=yG (s:=cell ns 0) h2 (by lia);have p8:rK (cell ns 0) m<=8:=by have d1:=qG (c:=cell ns 0) (f:=48271) (m:=m - 1) (by lia);unfold rK;lia
 have lp:(qu (cell ns 0) m).length=rK (cell ns 0) m:=by unfold qu;rw[cW,eG]
 have ol:((qu (cell ns 0) m).map (·.1)).length=rK (cell ns 0) m:=by rw[cW,lp]
 have one:(qu (cell ns 0) m).map (·.1)≠[]:=λz=>by rw[z]at ol;have:0=rK (cell ns 0) m:=ol;lia
 have gl:(qW (cell ns 0) ((qu (cell ns 0) m).map (·.1))).length=vC (cell ns 0):=by unfold qW;rw[cW,eG]
 refine⟨?_,?_,λp hp=>?_,?_,λg hg=>?_,n2 _,?_,λv hv=>?_⟩
 .show 1<=(qu (cell ns 0) m).length;lia
 .show(qu (cell ns 0) m).length<=8;lia
 .obtain⟨i,_,rfl⟩:=dD.mp hp;exact Mm _ i
 .show(qW (cell ns 0) ((qu (cell ns 0) m).map (·.1))).length<=3;rw[gl];exact xb
 .obtain⟨i,_,rfl⟩:=dD.mp hg;exact MR n1 one i
 .show((List.range (wY (cell ns 0))).map _).length<=16;rw[cW,eG];have d1:=qG (c:=cell ns 0) (f:=950706376) (m:=11) (by decide);unfold wY;lia
 .obtain⟨i,hi,rfl⟩:=dD.mp hv;refine P3 n1 (n2 _) one ?_;show 2<=((qu (cell ns 0) m).map (·.1)++_).length;rw[c9,ol];lia
structure pf where
 st:Str
 cr:Str
 way:QQQ
 at_:QQQ
 ms:QQQ
 hd:Option Str
 si:Int
 wd:Option Str
structure rj where
 i:Nat
 f:Str
 g:Str
 y:Str
inductive Ev
 | new (n:Nat) (x:Str)
 | leg (v:rj)
 | asks (i:Nat) (z:Str) (ns:List Nat)
 | next (z:Str) (n:Int)
 | merge (i j:Nat) (ms:QQQ)
 | turn
 | sw (b:Bool) (i:Nat)
 | rings (i:Nat) (ps:QQQ)
 | quiet (i:Nat)
 | waits (i:Nat) (x:Str)
 | talks (i:Nat) (ms:QQQ)
 | held (i:Nat) (x:Str)
 | leaves (i:Nat) (x:Str)
 | over (i:Nat) (w:Str)
structure qa where
 p:lf
 h:Int
 t:Int
 calls:List pf
 mG:List rj
 ps:List (Str×Int)
 on:List Bool
 log:List Ev
 fo:QXQ
noncomputable def xE(ns:T0 Nat):D:=.tup (ns.map λn=>D.int (n:Nat))
noncomputable def rj.d(v:rj):D:=.tup [.int (v.i:Nat),.str v.f,.str v.g,.str v.y]
noncomputable def Vk(b:Bool):Str:=if b=Db then "on" else "off"
def Ev.d:Ev->D
 | .new n x=>.tup [.str "new",.int (n:Nat),.str x]
 | .leg v=>.tup [.str "leg",.int (v.i:Nat),.str v.f,.str v.g,.str v.y]
 | .asks i z ns=>.tup [.str "asks",.int (i:Nat),.str z,xE ns]
 | .next z n=>.tup [.str "next",.str z,.int n]
 | .merge i j ms=>.tup [.str "merge",.int (i:Nat),.int (j:Nat),names ms]
 | .turn=>.tup [.str "turn"]
 | .sw b i=>.tup [.str (Vk b),.int (i:Nat)]
 | .rings i ps=>.tup [.str "rings",.int (i:Nat),names ps]
 | .quiet i=>.tup [.str "quiet",.int (i:Nat)]
 | .waits i x=>.tup [.str "waits",.int (i:Nat),.str x]
 | .talks i ms=>.tup [.str "talks",.int (i:Nat),names ms]
 | .held i x=>.tup [.str "held",.int (i:Nat),.str x]
 | .leaves i x=>.tup [.str "leaves",.int (i:Nat),.str x]
 | .over i w=>.tup [.str "over",.int (i:Nat),.str w]
noncomputable def hasS(ss:QQQ)(x:Str):Bool:=ss.any (·==x)
noncomputable def sm(ss:QQQ)(x:Str):QQQ:=ss.filter λy=>!(y==x)
noncomputable def xQ(x:Str):pf:=⟨"rings",x,[],[],[],Fa,0,Fa⟩
noncomputable def pf.over(c:pf)(w:Str):pf:={c with st:="over",wd:=some w,at_:=[],ms:=[],hd:=none}
def pf.drop(c:pf)(x:Str):pf:={c with at_:=sm c.at_ x,ms:=sm c.ms x}
noncomputable def pf.ring(c:pf)(ps:QQQ):pf:={c with st:="rings",at_:=ps,si:=0}
noncomputable def pf.mV(c:pf)(ms:QQQ):pf:={c with st:="talks",ms:=ms,at_:=[],hd:=none}
noncomputable def pf.wait(c:pf)(x:Str):pf:={c with st:="waits",at_:=[x]}
noncomputable def pf.hold(c:pf)(x:Str):pf:={c with st:="held",hd:=some x}
noncomputable def pf.mX(c:pf):pf:={c with at_:=[]}
noncomputable def pf.mem(c:pf)(ms:QQQ):pf:={c with ms:=ms}
noncomputable def pf.go(c:pf)(g:Str):pf:={c with way:=c.way++[g]}
noncomputable def pf.tick(c:pf):pf:=if (c.st=="rings")=Db then{c with si:=c.si+1}else c
noncomputable def rj.to(m k:Nat)(v:rj):rj:=if v.i=m then{v with i:=k}else v
noncomputable def Cp(ps:T0 (Str×Int))(z:Str)(n:Int):T0 (Str×Int):=if ps.any (λp=>decide (p.1=z))=Db then ps.map (λp=>if p.1=z then(p.1,n)else p)else ps++[(z,n)]
noncomputable def xm(V:qa)(i:Nat)(f:pf->pf):qa:={V with calls:=V.calls.modify i f}
noncomputable def qI(V:qa)(e:Ev):qa:={V with log:=V.log++[e]}
def Vu(V:qa):Ev->qa
 | .new _ x=>{V with calls:=V.calls++[xQ x]}
 | .leg v=>{V with mG:=V.mG++[v],calls:=V.calls.modify v.i (·.go v.g)}
 | .asks _ _ _=>V
 | .next z n=>{V with ps:=Cp V.ps z n}
 | .merge i j ms=>{V with calls:=(V.calls.modify i (·.over "merged")).modify j (·.mem ms),mG:=V.mG.map (rj.to i j)}
 | .turn=>{V with t:=V.t+1,calls:=V.calls.map pf.tick}
 | .sw b i=>{V with on:=V.on.set i b}
 | .rings i ps=>xm V i (·.ring ps)
 | .quiet i=>xm V i pf.mX
 | .waits i x=>xm V i (·.wait x)
 | .talks i ms=>xm V i (·.mV ms)
 | .held i x=>xm V i (·.hold x)
 | .leaves i x=>xm V i (·.drop x)
 | .over i w=>xm V i (·.over w)
def pP(V:qa)(e:Ev):qa:=Vu (qI V e) e
def qA(V:qa)(es:T0 Ev):qa:=es.foldl pP V
def Ev.ok(V:qa):Ev->Prop
 | .new _ _=>True
 | .leg v=>v.i<V.calls.length
 | .asks _ _ _=>True
 | .next _ _=>True
 | .merge i j ms=>i<V.calls.length/\j<V.calls.length/\i≠j/\ms.length<=100
 | .turn=>True
 | .sw _ i=>i<V.on.length
 | .rings i ps=>i<V.calls.length/\ps.length<=100
 | .quiet i=>i<V.calls.length
 | .waits i _=>i<V.calls.length
 | .talks i ms=>i<V.calls.length/\ms.length<=100
 | .held i _=>i<V.calls.length
 | .leaves i _=>i<V.calls.length
 | .over i _=>i<V.calls.length
def rA(V:qa)(es fs:T0 Ev):qA V (es++fs)=qA (qA V es) fs:=iH ..
theorem Bb:∀(es:T0 Ev) (V:qa),(qA V es).log=V.log++es
 | [],V=>(eN _).symm
 | e::r,V=>by
  show(qA (pP V e) r).log=_;rw[Bb r];have:(pP V e).log=V.log++[e]:=by cases e<;>rfl
  rw[this,eY];rfl
def pf.mI(c:pf)(x:Str):Bool:=(c.st=="talks")&&hasS c.ms x
def pf.hasB(c:pf)(x:Str):Bool:=if (c.st=="rings")=Db then(x==c.cr)||hasS c.at_ x else if (c.st=="waits")=Db then x==c.cr else(c.st=="talks"||c.st=="held")&&hasS c.ms x
def pf.mS(c:pf)(x:Str):Bool:=if (c.st=="held")=Db then hasS c.ms x&&!((c.hd==ga x))else c.mI x
noncomputable def pf.mJ(c:pf)(x:Str):Bool:=(c.st=="rings"||c.st=="waits")&&(x==c.cr)
def pf.mD(c:pf)(x:Str):Bool:=(c.st=="waits")&&hasS c.at_ x
def pf.m8(c:pf)(x:Str):Bool:=c.mJ x||(hasS c.at_ x||hasS c.ms x)
noncomputable def pf.mL(c:pf)(x:Str):Bool:=c.mI x&&(c.ms.length==2)
noncomputable def uQ(V:qa)(x:Str):Nat:=(V.calls.filter (·.hasB x)).length
noncomputable def wJ(l:pz)(x:Str):Int:=(l.mQ x).elim 0 λv=>v.2.1
noncomputable def vE(l:pz)(x:Str):Int:=(l.mQ x).elim 0 λv=>v.2.2
def tN(l:pz)(V:qa)(x:Str):Bool:=decide ((uQ V x:Int)<wJ l x)
def um(l:pz)(V:qa)(c z:Str):QQQ:=(l.mv z).filter λx=>!(x==c)&&tN l V x
def xX(l:pz)(V:qa)(c z:Str):Bool:=(um l V c z).isEmpty
noncomputable def vw(V:qa)(x:Str):Option Nat:=V.calls.findIdx? (·.mI x)
noncomputable def Ei(V:qa)(x:Str):Option Nat:=V.calls.findIdx? (·.mS x)
noncomputable def I9(V:qa)(x:Str):Option Nat:=V.calls.findIdx? (·.mJ x)
noncomputable def Aq(V:qa)(x:Str):Bool:=V.calls.any (·.mD x)
noncomputable def Qo:Option Nat->D
 | none=>.mC
 | some j=>.int (j:Nat)
noncomputable def Ej(f l h:Int):Bool:=if f<l then decide (f<=h)&&decide (h<l)else decide (h>=f)||decide (h<l)
def HD(l:pz)(x:Str)(ms:QQQ):Bool:=ms.all λm=>decide (vE l m<vE l x)
def Ii(l:pz)(V:qa)(x c z:Str):Bool:=if (!(c==x)||(z==x))=Db then pc else if (!(hasS l.pn z)||!(xX l V c z))=Db then pc else((vw V z).bind (V.calls[·]?)).elim pc λk=>(k.ms.length==2)&&HD l x k.ms
def AS(l:pz)(V:qa)(c z:Str):Wi->Bool
 | .bar x ns=>(c==x)&&hasS ns z
 | .shut x ns=>(z==x)&&hasS ns c
 | .always x _=>z==x
 | .night x _ f m=>(z==x)&&Ej f m ((V.h+V.t) % 24)
 | .busy x _=>(z==x)&&xX l V c z
 | .silent _ _ _=>pc
 | .wait x=>if (!(z==x)||(c==x))=Db then pc else xX l V c z&&!(Aq V z)
 | .breaks x=>Ii l V x c z
noncomputable def F4(c:pf):Wi->Bool
 | .silent x _ n=>(c.way.getLast?==ga x)&&decide (n<=c.si)
 | _=>pc
noncomputable def Ic(l:pz)(V:qa)(f:Wi->Bool):T0 Nat:=(List.range V.on.length).filter λi=>V.on.getD i pc&&(l.mx[i]?).elim pc λw=>f w.2
def DX(l:pz)(V:qa)(c z:Str):T0 Nat:=Ic l V (AS l V c z)
noncomputable def uT(ms:QQQ)(n:Nat):QQQ:=ms.drop n++ms.take n
noncomputable def zM(V:qa)(z:Str):Nat:=((V.ps.find? λp=>decide (p.1=z)).elim 0 λp=>p.2).toNat
def xx(l:pz)(V:qa)(c z:Str):QQQ:=if (l.mE z=="turns")=Db then((uT (l.mv z) (zM V z)).filter λx=>hasS (um l V c z) x).take 1 else um l V c z
inductive vf
 | engaged (z:Str)
 | rings (z:Str) (ps:QQQ)
 | waits (z:Str)
 | breaks (z:Str)
 | barred
 | ring (ns:QQQ)
noncomputable def vf.d:vf->D
 | .engaged z=>.tup [.str "engaged",.str z]
 | .rings z ps=>.tup [.str "rings",.str z,names ps]
 | .waits z=>.tup [.str "waits",.str z]
 | .breaks z=>.tup [.str "breaks",.str z]
 | .barred=>.tup [.str "barred"]
 | .ring ns=>.tup [.str "ring",names ns]
def HI(l:pz)(V:qa)(c z:Str):vf:=match xx l V c z with
 | []=>.engaged z
 | x::r=>.rings z (x::r)
noncomputable def Jj(z:Str):Wi->Sum vf Str
 | .bar _ _=>.inl .barred
 | .shut _ _=>.inl .barred
 | .always _ y=>.inr y
 | .night _ y _ _=>.inr y
 | .busy _ y=>.inr y
 | .silent _ y _=>.inr y
 | .wait _=>.inl (.waits z)
 | .breaks _=>.inl (.breaks z)
abbrev sO:=T0 (Str×T0 Nat)
def wM(l:pz)(V:qa)(c:Str):Nat->Str->QQQ->sO->vf×sO
 | 0,_,_,st=>(.barred,st)
 | n+1,z,way,st=>if hasS way z=Db then(.ring (way.drop (way.findIdx (·==z))),st)else
  match DX l V c z with
  | []=>(HI l V c z,st++[(z,[])])
  | i::r=>(l.mx[i]?).elim (.barred,st) λw=>match Jj z w.2 with
   | .inl e=>(e,st++[(z,i::r)])
   | .inr y=>wM l V c n y (way++[z]) (st++[(z,i::r)])
def ut(l:pz)(V:qa)(c z:Str)(way:QQQ):vf×sO:=wM l V c (l.nm.length+1) z way []
noncomputable def qT(i:Nat):Option Str->sO->T0 Ev
 | _,[]=>[]
 | none,(z,fs)::r=>.asks i z fs::qT i (ga z) r
 | some y,(z,fs)::r=>.leg ⟨i,y,z,y⟩::.asks i z fs::qT i (ga z) r
noncomputable def P8(ms:QQQ)(x:Str):Int:=((ms.findIdx (·==x):Nat)+1) % (ms.length:Int)
def rT(l:pz)(V:qa)(i:Nat):vf->T0 Ev
 | .rings z ps=>(if (l.mE z=="turns")=Db then[.next z (P8 (l.mv z) (ps.headD Str.empty))]else[])++[.rings i ps]
 | .waits z=>[.waits i z]
 | .breaks z=>match vw V z,V.calls[i]? with
  | some j,ga c=>[.merge i j ((V.calls[j]?).elim [] (·.ms)++[c.cr])]
  | _,_=>[]
 | .engaged _=>[.over i "engaged"]
 | .barred=>[.over i "barred"]
 | .ring _=>[.over i "ring"]
noncomputable def sH(i:Nat)(st:sO):vf->T0 Ev
 | .ring ns=>(st.getLast?).elim [] λs=>[.leg ⟨i,s.1,ns.headD Str.empty,s.1⟩]
 | _=>[]
def uU(l:pz)(V:qa)(i:Nat):T0 Ev:=(V.calls[i]?).elim [] λc=>
 let r:=ut l V c.cr (c.way.getLastD Str.empty) c.way.dropLast
 qT i Fa r.2++(sH i r.2 r.1++rT l V i r.1)
def EG(l:pz)(V:qa)(y z:Str):T0 Ev:=
 let es:=[Ev.new V.calls.length y,.leg ⟨V.calls.length,y,z,y⟩]
 es++uU l (qA V es) V.calls.length
def tZ(V:qa)(x:Str)(i:Nat):T0 Ev:=(V.calls[i]?).elim [] λc=>if c.mJ x=Db then[.over i "left"]else if hasS c.at_ x=Db then .leaves i x::(if sm c.at_ x=[]then[.over i "refused"]else[])else if 2<c.ms.length then[.leaves i x]else[.over i "done"]
def sJ(l:pz)(V:qa)(i:Nat)(fs:T0 Nat):T0 Ev:=match fs.head?.bind (l.mx[·]?)with
 | some (_,.silent x y _)=>
  let es:=[Ev.asks i x fs,.quiet i,.leg ⟨i,x,y,x⟩]
  es++uU l (qA V es) i
 | _=>[]
def ym(l:pz)(V:qa)(i:Nat):T0 Nat:=(V.calls[i]?).elim [] λc=>if (c.st=="rings")=Db then Ic l V (F4 c)else[]
def qN(l:pz):T0 Nat->qa->T0 Ev
 | [],_=>[]
 | i::r,V=>sJ l V i (ym l V i)++qN l r (qA V (sJ l V i (ym l V i)))
def Fc(l:pz)(V:qa):T0 Ev:=.turn::qN l (List.range V.calls.length) (pP V .turn)
inductive sF
 | call (y z:Str)
 | num (w x:Str) (ns:List Int)
 | turn
 | sw (b:Bool) (i:Int)
def sF.d:sF->D
 | .call y z=>.tup [.str "call",.str y,.str z]
 | .num w x ns=>.tup (.str w::.str x::ns.map D.int)
 | .turn=>.tup [.str "turn"]
 | .sw b i=>.tup [.str (Vk b),.int i]
def sF.mT:sF->Prop
 | .num w _ ns=>((w="answer"\/w="hang"\/w="hold"\/w="back")/\ns.length=1)\/((w="hand"\/w="join")/\ns.length=2)
 | _=>True
def uq(V:qa)(x:Str):Option Str:=if (Ei V x).isSome=Db then ga "bound" else if (I9 V x).isSome=Db then ga "calls" else Fa
noncomputable def zP(n:Nat)(i:Int):Bool:=decide (0<=i)&&decide (i<(n:Int))
def IC(w x:Str):List pf->Bool
 | []=>pc
 | c::r=>if (w=="answer")=Db then hasS c.at_ x else if (w=="hang")=Db then c.m8 x else if (w=="hold")=Db then c.mL x else if (w=="back")=Db then c.hd==ga x else(c.hd==ga x)&&(r.head?.elim pc λd=>d.mL x)
noncomputable def tG(V:qa)(ns:T0 Int):List pf:=ns.filterMap λi=>V.calls[i.toNat]?
def Ga(l:pz)(V:qa)(y z:Str):Option Str:=if hasS l.nm z=pc then ga "name" else if ((uq V y).isNone&&!(tN l V y))=Db then ga "full" else uq V y
def K0(l:pz)(V:qa)(w x:Str)(ns:T0 Int):Option Str:=if ns.all (zP V.calls.length)=pc then ga "call" else if IC w x (tG V ns)=pc then ga "call" else if (w=="answer"||w=="back")=pc then Fa else
 if ((uq V x).isNone&&((tG V ns).head?.elim pc (λc=>c.mD x)&&!(tN l V x)))=Db then ga "full" else uq V x
def Pb(V:qa)(b:Bool)(i:Int):Option Str:=if zP V.on.length i=pc then ga "wish" else if (V.on.getD i.toNat pc==b)=Db then ga "wish" else Fa
def wD(l:pz)(V:qa):sF->Option Str
 | .turn=>Fa
 | .sw b i=>Pb V b i
 | .call y z=>if hasS l.pn y=pc then ga "name" else Ga l V y z
 | .num w x ns=>if hasS l.pn x=pc then ga "name" else K0 l V w x ns
def qr(c:pf)(x:Str):Str:=(sm c.ms x).headD Str.empty
noncomputable def yI(V:qa)(w x:Str)(i:Nat):Ev:=(V.calls[i]?).elim .turn λc=>if (w=="answer")=Db then .talks i [c.cr,x]else if (w=="hold")=Db then .held i x else .talks i c.ms
def CO(V:qa)(w x:Str)(i j:Nat):Ev:=(V.calls[i]?).elim .turn λc=>(V.calls[j]?).elim .turn λd=>.merge i j (if (w=="hand")=Db then[qr c x,qr d x]else[x,qr c x,qr d x])
def vm(l:pz)(V:qa):sF->T0 Ev
 | .call y z=>EG l V y z
 | .num w x [i]=>if (w=="hang")=Db then tZ V x i.toNat else[yI V w x i.toNat]
 | .num w x [i,j]=>[CO V w x i.toNat j.toNat]
 | .num _ _ _=>[]
 | .turn=>Fc l V
 | .sw b i=>[.sw b i.toNat]
structure rB where
 p:lf
 wy:lf
structure tK where
 b:lf
 ca:lf
 le:lf
 nx:lf
 on:lf
 lo:lf
 cs:List rB
noncomputable def Gq:Option Str->D
 | none=>.mC
 | some x=>.str x
def rc(c:pf)(wy ad md:lf):T0 (Str×D):=[("state",.str c.st),("caller",.str c.cr),("way",.ref wy),("at",.ref ad),("members",.ref md),("holder",Gq c.hd),("since",.int c.si),("word",Gq c.wd)]
noncomputable def tJ(p:D)(h t:Int)(ca le nx on lo:lf):T0 (Str×D):=[("plan",p),("hour",.int h),("turn",.int t),("calls",.ref ca),("legs",.ref le),("nexts",.ref nx),("on",.ref on),("log",.ref lo)]
noncomputable def sX(ps:T0 (Str×Int)):T0 (qL×D):=ps.map λp=>((Sum.inr p.1:qL),D.int p.2)
noncomputable def tK.lists(A:tK):QXQ:=A.ca::A.le::A.on::A.lo::A.cs.map (·.wy)
noncomputable def tK.foot(A:tK):QXQ:=A.b::A.nx::(A.lists++A.cs.map (·.p))
def rP(a:Ad)(M:Mp)(L:QXQ)(k:rB)(c:pf):Prop:=CQ λad md=>M k.p=ga (.ins a.e (rc c k.wy ad md))/\oa M k.wy=ga (c.way.map D.str)/\oa M ad=ga (c.at_.map D.str)/\oa M md=ga (c.ms.map D.str)/\ad∉L/\md∉L
structure pG(a:Ad)(M:Mp)(A:tK)(V:qa):Prop where
 at_:M A.b=ga (.ins a.c (tJ (.ref V.p) V.h V.t A.ca A.le A.nx A.on A.lo))
 ca:oa M A.ca=ga (A.cs.map λk=>D.ref k.p)
 le:oa M A.le=ga (V.mG.map rj.d)
 nx:xp M A.nx=ga (sX V.ps)
 on:oa M A.on=ga (V.on.map D.bl)
 lo:oa M A.lo=ga (V.log.map Ev.d)
 len:A.cs.length=V.calls.length
 cs:∀(i:Nat) k c,A.cs[i]?=ga k->V.calls[i]?=ga c->rP a M (A.lists++V.fo) k c
 nl:A.lists.Nodup
 np:(A.b::A.cs.map (·.p)).Nodup
 fo:∀x∈V.fo,∃c,M x=ga c
def wX{F:QXQ}{M:Mp}{p:lf}{c:uI}(h:∀x∈F,∃c,M x=ga c):∀x∈F,∃d,pq M p c x=ga d:=λx hx=>by
 by_cases z:x=p
 .exact⟨c,by rw[z];exact pK⟩
 .obtain⟨d,e⟩:=h x hx;exact⟨d,qV.put x d z e⟩
def rP.sub{k:rB}{c:pf}(h:rP a M L k c)(s:qz M M'):rP a M' L k c:=by obtain⟨ad,md,h1,h2,h3,h4,h5⟩:=h;exact⟨ad,md,s _ _ h1,s.lst h2,s.lst h3,s.lst h4,h5⟩
def pG.sub{A:tK}{V:qa}(h:pG a M A V)(s:qz M M'):pG a M' A V:=⟨s _ _ h.at_,s.lst h.ca,s.lst h.le,s.dk h.nx,s.lst h.on,s.lst h.lo,h.len,λi k c e1 e2=>(h.cs i k c e1 e2).sub s,h.nl,h.np,λx hx=>(h.fo x hx).imp λc e=>s x c e⟩
def rP.nJ{k:rB}{c:pf}{x:lf}{ds:T0 D}(h:rP a M L k c)(kp:qV x M M')(hl:oa M x=ga ds)(hx:x∈L)(hn:k.wy≠x):rP a M' L k c:=by obtain⟨ad,md,h1,h2,h3,h4,h5,h6⟩:=h;exact⟨ad,md,kp _ _ (λz=>by rw[z,pN hl]at h1;cases h1) h1,kp.lst hn h2,kp.lst (λz=>h5 (z ▸ hx)) h3,kp.lst (λz=>h6 (z ▸ hx)) h4,h5,h6⟩
def rP.nP{k:rB}{c:pf}{x C:lf}{fs:T0 (Str×D)}(h:rP a M L k c)(kp:qV x M M')(hi:M x=ga (.ins C fs))(hn:k.p≠x):rP a M' L k c:=by obtain⟨ad,md,h1,h2,h3,h4,h5⟩:=h;exact⟨ad,md,kp _ _ hn h1,kp.lst (pO h2 hi) h2,kp.lst (pO h3 hi) h3,kp.lst (pO h4 hi) h4,h5⟩
def uP{a p:lf}{ds:T0 (qL×D)}{es:T0 D}(h:xp M a=ga ds)(hp:oa M p=ga es):a≠p:=λz=>by subst z;unfold xp at h;rw[pN hp]at h;cases h
def rP.oH{k:rB}{c:pf}{x:lf}{ds:T0 (qL×D)}(h:rP a M L k c)(kp:qV x M M')(hd:xp M x=ga ds):rP a M' L k c:=by obtain⟨ad,md,h1,h2,h3,h4,h5⟩:=h;exact⟨ad,md,kp _ _ (λz=>by rw[z,vD hd]at h1;cases h1) h1,kp.lst (dX (uP hd h2)) h2,kp.lst (dX (uP hd h3)) h3,kp.lst (dX (uP hd h4)) h4,h5⟩
def qQ{α:Type}{l:List α}{i:Nat}{x:α}(h:l[i]?=ga x):x∈l:=fk h
def pG.ne{A:tK}{V:qa}(h:pG a M A V):A.ca≠A.le/\A.ca≠A.on/\A.ca≠A.lo/\A.le≠A.on/\A.le≠A.lo/\A.on≠A.lo/\∀k∈A.cs,k.wy≠A.ca/\k.wy≠A.le/\k.wy≠A.on/\k.wy≠A.lo:=by
 have n:=h.nl;unfold tK.lists at n;obtain⟨n1,n⟩:=dR.mp n;obtain⟨n2,n⟩:=dR.mp n;obtain⟨n3,n⟩:=dR.mp n;obtain⟨n4,n⟩:=dR.mp n;have w:∀k∈A.cs,k.wy∈A.cs.map (·.wy):=λk hk=>dD.mpr ⟨k,hk,Z'⟩;refine⟨λz=>n1 (z ▸ by simp),λz=>n1 (z ▸ by simp),λz=>n1 (z ▸ by simp),λz=>n2 (z ▸ by simp),λz=>n2 (z ▸ by simp),λz=>n3 (z ▸ by simp),λk hk=>⟨λz=>n1 ?_,λz=>n2 ?_,λz=>n3 ?_,λz=>n4 ?_⟩⟩
 .rw[<-z];exact dF _ (dF _ (dF _ (w k hk)))
 .rw[<-z];exact dF _ (dF _ (w k hk))
 .rw[<-z];exact dF _ (w k hk)
 .rw[<-z];exact w k hk
def pG.nS{A:tK}{V:qa}(_:pG a M A V):A.ca∈A.lists/\A.le∈A.lists/\A.lo∈A.lists/\(∀k∈A.cs,k.wy∈A.lists)/\A.on∈A.lists:=by unfold tK.lists;refine⟨by simp,by simp,by simp,?_,by simp⟩;exact λk hk=>by simp;exact .inr (.inr (.inr (.inr ⟨k,hk,Z'⟩)))
def pG.oM{A:tK}{V:qa}(h:pG a M A V):A.ca∈A.lists++V.fo/\A.le∈A.lists++V.fo/\A.lo∈A.lists++V.fo/\(∀k∈A.cs,k.wy∈A.lists++V.fo)/\A.on∈A.lists++V.fo:=by obtain⟨h1,h2,h3,h4,h5⟩:=h.nS;exact⟨fi _ h1,fi _ h2,fi _ h3,λk hk=>fi _ (h4 k hk),fi _ h5⟩
def qO(A:tK)(M:Mp)(A':tK)(M':Mp):Prop:=(∀x c,x∉A.foot->M x=ga c->M' x=ga c)/\(∀x∈A'.foot,x∈A.foot\/M x=Fa)/\(∀(i:Nat) k,A.cs[i]?=ga k->A'.cs[i]?=ga k)/\∀x c,M x=ga c->∃d,M' x=ga d
def Bi{M:Mp}{p y:lf}{c d:uI}(h:M y=ga d):∃e,pq M p c y=ga e:=by
 by_cases z:y=p
 .exact⟨c,by rw[z];exact pK⟩
 .exact⟨d,qV.put y d z h⟩
def qO.refl{A:tK}:qO A M A M:=⟨λ_ _ _ h=>h,λ_ h=>.inl h,λ_ _ h=>h,λ_ c h=>⟨c,h⟩⟩
def qO.trans{A A1 A2:tK}{M M1 M2:Mp}(s:qO A M A1 M1)(u:qO A1 M1 A2 M2):qO A M A2 M2:=by
 refine⟨λx c n h=>u.1 x c (λz=>?_) (s.1 x c n h),λx hx=>?_,λi k h=>u.2.2.1 i k (s.2.2.1 i k h),λx c h=>(s.2.2.2 x c h).elim λd e=>u.2.2.2 x d e⟩
 .rcases s.2.1 x z with y|y
  .exact n y
  .rw[y]at h;cases h
 .rcases u.2.1 x hx with z|z
  .exact s.2.1 x z
  .by_cases y:x∈A.foot
   .exact .inl y
   .refine .inr ?_;cases e:M x with
    | none=>rfl
    | some c=>rw[s.1 x c y e]at z;cases z
def qO.keep{A:tK}{x:lf}{c:uI}(h:x∈A.foot)(k:qV x M (pq M x c)):qO A M A (pq M x c):=⟨λy c n e=>k y c (λz=>n (z ▸ h)) e,λ_ h=>.inl h,λ_ _ h=>h,λ_ _ h=>Bi h⟩
def qO.sub{A:tK}(s:qz M M'):qO A M A M':=⟨λy c _ e=>s y c e,λ_ h=>.inl h,λ_ _ h=>h,λx c h=>⟨c,s x c h⟩⟩
def tK.mK(A:tK):A.b∈A.foot/\A.nx∈A.foot/\A.ca∈A.foot/\A.le∈A.foot/\A.lo∈A.foot/\(∀k∈A.cs,k.p∈A.foot)/\∀k∈A.cs,k.wy∈A.foot:=by unfold tK.foot tK.lists;exact⟨by simp,by simp,by simp,by simp,by simp,λk hk=>by simp;exact .inr (.inr (.inr (.inr (.inr (.inr (.inr ⟨k,hk,Z'⟩)))))),λk hk=>by simp;exact .inr (.inr (.inr (.inr (.inr (.inr (.inl ⟨k,hk,Z'⟩))))))⟩
def tK.nz(A:tK){x:lf}(h:x∈A.lists):x∈A.foot:=by unfold tK.foot;exact dF _ (dF _ (dO.mpr (.inl h)))
variable {M M1:Mp}{A:tK}{V:qa}
def Fk{α:Type}{l:List α}{i j:Nat}{x y:α}(h:(l.set i x)[j]?=ga y):(j=i/\y=x/\i<l.length)\/(j≠i/\l[j]?=ga y):=by
 by_cases z:j=i
 .subst z;by_cases hl:j<l.length
  .rw[fC hl]at h;exact .inl ⟨Z',(dv h).symm,hl⟩
  .rw[fO (by rw[ip];lia)]at h;cases h
 .rw[fB (dX z)]at h;exact .inr ⟨z,h⟩
def LM{α β:Type}{f:α->β}{l:List α}{i j:Nat}{x y:α}(nd:(l.map f).Nodup)(h1:l[i]?=ga x)(h2:l[j]?=ga y)(e:f x=f y):i=j:=by
 have e1:(l.map f)[i]?=ga (f x):=by rw[dA,h1];rfl
 have e2:(l.map f)[j]?=ga (f y):=by rw[dA,h2];rfl
 obtain⟨l1,q1⟩:=cZ.mp e1;obtain⟨l2,q2⟩:=cZ.mp e2;exact(lz nd).mp (q1.trans (e.trans q2.symm))
def pG.nw(h:pG a M A V):(A.cs.map (·.wy)).Nodup:=(dR.mp (dR.mp (dR.mp (dR.mp h.nl).2).2).2).2
def pG.oF(h:pG a M A V):(A.cs.map (·.p)).Nodup/\∀k∈A.cs,k.p≠A.b:=⟨(dR.mp h.np).2,λk hk z=>(dR.mp h.np).1 (z ▸ dD.mpr ⟨k,hk,Z'⟩)⟩
def pG.oo(h:pG a M A V){es:T0 Ev}:pG a (pq M A.lo (.lst (es.map Ev.d))) A {V with log:=es}/\qO A M A (pq M A.lo (.lst (es.map Ev.d))):=by have kp:qV A.lo M (pq M A.lo (.lst (es.map Ev.d))):=.put;obtain⟨n1,n2,n3,n4,n5,n6,nw⟩:=h.ne;exact⟨⟨kp _ _ (dX (pO h.lo h.at_)) h.at_,kp.lst n3 h.ca,kp.lst n5 h.le,kp.dk (uP h.nx h.lo) h.nx,kp.lst n6 h.on,pA,h.len,λi k c e1 e2=>(h.cs i k c e1 e2).nJ kp h.lo h.oM.2.2.1 (nw k (qQ e1)).2.2.2,h.nl,h.np,wX h.fo⟩,.keep A.mK.2.2.2.2.1 kp⟩
def pG.n9(h:pG a M A V){es:List rj}:pG a (pq M A.le (.lst (es.map rj.d))) A {V with mG:=es}/\qO A M A (pq M A.le (.lst (es.map rj.d))):=by have kp:qV A.le M (pq M A.le (.lst (es.map rj.d))):=.put;obtain⟨n1,n2,n3,n4,n5,n6,nw⟩:=h.ne;exact⟨⟨kp _ _ (dX (pO h.le h.at_)) h.at_,kp.lst n1 h.ca,pA,kp.dk (uP h.nx h.le) h.nx,kp.lst (dX n4) h.on,kp.lst (dX n5) h.lo,h.len,λi k c e1 e2=>(h.cs i k c e1 e2).nJ kp h.le h.oM.2.1 (nw k (qQ e1)).2.1,h.nl,h.np,wX h.fo⟩,.keep A.mK.2.2.2.1 kp⟩
def pG.oE(h:pG a M A V){bs:T0 Bool}:pG a (pq M A.on (.lst (bs.map D.bl))) A {V with on:=bs}/\qO A M A (pq M A.on (.lst (bs.map D.bl))):=by have kp:qV A.on M (pq M A.on (.lst (bs.map D.bl))):=.put;obtain⟨n1,n2,n3,n4,n5,n6,nw⟩:=h.ne;exact⟨⟨kp _ _ (dX (pO h.on h.at_)) h.at_,kp.lst n2 h.ca,kp.lst n4 h.le,kp.dk (uP h.nx h.on) h.nx,pA,kp.lst (dX n6) h.lo,h.len,λi k c e1 e2=>(h.cs i k c e1 e2).nJ kp h.on h.oM.2.2.2.2 (nw k (qQ e1)).2.2.1,h.nl,h.np,wX h.fo⟩,.keep (A.nz h.nS.2.2.2.2) kp⟩
def pG.oQ(h:pG a M A V){ps:T0 (Str×Int)}:pG a (pq M A.nx (.dk (sX ps))) A {V with ps:=ps}/\qO A M A (pq M A.nx (.dk (sX ps))):=by have kp:qV A.nx M (pq M A.nx (.dk (sX ps))):=.put;exact⟨⟨kp _ _ (dX (CM h.nx h.at_)) h.at_,kp.lst (dX (uP h.nx h.ca)) h.ca,kp.lst (dX (uP h.nx h.le)) h.le,Bu pK,kp.lst (dX (uP h.nx h.on)) h.on,kp.lst (dX (uP h.nx h.lo)) h.lo,h.len,λi k c e1 e2=>(h.cs i k c e1 e2).oH kp h.nx,h.nl,h.np,wX h.fo⟩,.keep A.mK.2.1 kp⟩
def pG.putT(h:pG a M A V){t:Int}:pG a (pq M A.b (.ins a.c (tJ (.ref V.p) V.h t A.ca A.le A.nx A.on A.lo))) A {V with t:=t}/\qO A M A (pq M A.b (.ins a.c (tJ (.ref V.p) V.h t A.ca A.le A.nx A.on A.lo))):=by have kp:qV A.b M (pq M A.b (.ins a.c (tJ (.ref V.p) V.h t A.ca A.le A.nx A.on A.lo))):=.put;exact⟨⟨pK,kp.lst (pO h.ca h.at_) h.ca,kp.lst (pO h.le h.at_) h.le,kp.dk (CM h.nx h.at_) h.nx,kp.lst (pO h.on h.at_) h.on,kp.lst (pO h.lo h.at_) h.lo,h.len,λi k c e1 e2=>(h.cs i k c e1 e2).nP kp h.at_ (h.oF.2 k (qQ e1)),h.nl,h.np,wX h.fo⟩,.keep A.mK.1 kp⟩
def pG.nU(h:pG a M A V){i:Nat}{k:rB}{c c':pf}{ad md:lf}(e1:A.cs[i]?=ga k)(e2:V.calls[i]?=ga c)(ew:c'.way=c.way)(la:oa M ad=ga (c'.at_.map D.str))(lm:oa M md=ga (c'.ms.map D.str))(na:ad∉A.lists++V.fo)(nm:md∉A.lists++V.fo):
  pG a (pq M k.p (.ins a.e (rc c' k.wy ad md))) A {V with calls:=V.calls.set i c'}/\qO A M A (pq M k.p (.ins a.e (rc c' k.wy ad md))):=by
 have kp:qV k.p M (pq M k.p (.ins a.e (rc c' k.wy ad md))):=.put;obtain⟨_,_,h1,h2,_⟩:=h.cs i k c e1 e2;refine⟨⟨kp _ _ (dX (h.oF.2 k (qQ e1))) h.at_,kp.lst (pO h.ca h1) h.ca,kp.lst (pO h.le h1) h.le,kp.dk (CM h.nx h1) h.nx,kp.lst (pO h.on h1) h.on,kp.lst (pO h.lo h1) h.lo,by rw[h.len,ip],λj k' d f1 f2=>?_,h.nl,h.np,wX h.fo⟩,.keep (A.mK.2.2.2.2.2.1 k (qQ e1)) kp⟩;rcases Fk f2 with⟨rfl,rfl,_⟩|⟨hj,f2⟩
 .rw[e1]at f1;cases f1;exact⟨ad,md,pK,by rw[ew];exact kp.lst (pO h2 h1) h2,kp.lst (pO la h1) la,kp.lst (pO lm h1) lm,na,nm⟩
 .exact(h.cs j k' d f1 f2).nP kp h1 λz=>hj (LM h.oF.1 f1 e1 z)
def pG.oi(h:pG a M A V){i:Nat}{k:rB}{c:pf}{ws:QQQ}(e1:A.cs[i]?=ga k)(e2:V.calls[i]?=ga c):
  pG a (pq M k.wy (.lst (ws.map D.str))) A {V with calls:=V.calls.set i {c with way:=ws}}/\qO A M A (pq M k.wy (.lst (ws.map D.str))):=by
 have kp:qV k.wy M (pq M k.wy (.lst (ws.map D.str))):=.put;obtain⟨ad,md,h1,h2,h3,h4,h5,h6⟩:=h.cs i k c e1 e2;obtain⟨n1,n2,n3,n4,n5,n6,nw⟩:=h.ne;obtain⟨w1,w2,w3,w4⟩:=nw k (qQ e1);have kL:=h.oM.2.2.2.1 k (qQ e1);refine⟨⟨kp _ _ (dX (pO h2 h.at_)) h.at_,kp.lst (dX w1) h.ca,kp.lst (dX w2) h.le,kp.dk (uP h.nx h2) h.nx,kp.lst (dX w3) h.on,kp.lst (dX w4) h.lo,by rw[h.len,ip],λj k' d f1 f2=>?_,h.nl,h.np,wX h.fo⟩,.keep (A.mK.2.2.2.2.2.2 k (qQ e1)) kp⟩;rcases Fk f2 with⟨rfl,rfl,_⟩|⟨hj,f2⟩
 .rw[e1]at f1;cases f1;exact⟨ad,md,kp _ _ (dX (pO h2 h1)) h1,pA,kp.lst (λz=>h5 (z ▸ kL)) h3,kp.lst (λz=>h6 (z ▸ kL)) h4,h5,h6⟩
 .exact(h.cs j k' d f1 f2).nJ kp h2 kL λz=>hj (LM h.nw f1 e1 z)
noncomputable def tK.add(A:tK)(k:rB):tK:={A with cs:=A.cs++[k]}
def zV(A:tK)(k:rB):(A.add k).lists=A.lists++[k.wy]:=by unfold tK.add tK.lists;rw[dI];rfl
def pG.dom(h:pG a M A V):(∀x∈A.lists,∃ds,oa M x=ga ds)/\∀x∈A.foot,∃c,M x=ga c:=by
 have hc:∀k∈A.cs,(∃ds,oa M k.wy=ga ds)/\∃c,M k.p=ga c:=λk hk=>by
  obtain⟨i,hi,e⟩:=gY hk;have e1:A.cs[i]?=ga k:=by rw[cY hi,e]
  have YD:i<V.calls.length:=by rw[<-h.len];exact hi
  have e2:V.calls[i]?=ga V.calls[i]:=cY YD;obtain⟨ad,md,h1,h2,_⟩:=h.cs i k _ e1 e2;exact⟨⟨_,h2⟩,_,h1⟩
 have hl:∀x∈A.lists,∃ds,oa M x=ga ds:=λx hx=>by
  unfold tK.lists at hx;simp only[dz,dD]at hx;rcases hx with rfl|rfl|rfl|rfl|⟨k,hk,rfl⟩
  .exact⟨_,h.ca⟩
  .exact⟨_,h.le⟩
  .exact⟨_,h.on⟩
  .exact⟨_,h.lo⟩
  .exact(hc k hk).1
 refine⟨hl,λx hx=>?_⟩;unfold tK.foot at hx;simp only[dz,dO,dD]at hx;rcases hx with rfl|rfl|hx|⟨k,hk,rfl⟩
 .exact⟨_,h.at_⟩
 .exact⟨_,vD h.nx⟩
 .obtain⟨ds,e⟩:=hl x hx;exact⟨_,pN e⟩
 .exact(hc k hk).2
def pG.nQ(h:pG a M A V){x:lf}(hx:M x=Fa):x∉A.lists:=λz=>by obtain⟨ds,e⟩:=h.dom.1 x z;have:=pN e;rw[hx]at this;cases this
def pG.mY(h:pG a M A V){x:lf}(hx:M x=Fa):x∉A.lists++V.fo:=λz=>by
 rcases dO.mp z with z|z
 .exact h.nQ hx z
 .obtain⟨c,e⟩:=h.fo x z;rw[hx]at e;cases e
def pG.nN(h:pG a M A V){x:lf}(hx:M x=Fa):x∉A.foot:=λz=>by obtain⟨ds,e⟩:=h.dom.2 x z;rw[hx]at e;cases e
def pG.nV(h:pG a M A V)(s:qz M M1){p wy ad md:lf}{c:pf}(hp:M p=Fa)(hw:M wy=Fa)(ha:M ad=Fa)(hm:M md=Fa)(h1:M1 p=ga (.ins a.e (rc c wy ad md)))(h2:oa M1 wy=ga (c.way.map D.str))(h3:oa M1 ad=ga (c.at_.map D.str))(h4:oa M1 md=ga (c.ms.map D.str))(n1:ad≠wy)(n2:md≠wy):
  pG a (pq M1 A.ca (.lst ((A.cs.map λk=>D.ref k.p)++[.ref p]))) (A.add ⟨p,wy⟩) {V with calls:=V.calls++[c]}/\qO A M (A.add ⟨p,wy⟩) (pq M1 A.ca (.lst ((A.cs.map λk=>D.ref k.p)++[.ref p]))):=by
 have h':=h.sub s;have kp:qV A.ca M1 (pq M1 A.ca (.lst ((A.cs.map λk=>D.ref k.p)++[.ref p]))):=.put;obtain⟨m1,m2,m3,m4,m5,m6,nw⟩:=h.ne;have wL:wy∉A.lists:=h.nQ hw;have cL:=h.oM.1;have nl':∀x,x∉A.lists++V.fo->x≠wy->x∉(A.add ⟨p,wy⟩).lists++V.fo:=λx h1 h2=>by
  rw[zV,dO,dO,dh]
  rintro ((z|z)|z)
  .exact h1 (fi _ z)
  .exact h2 z
  .exact h1 (eh _ z)
 have XY:∀x c,M x=ga c->x≠wy:=λx c e z=>by rw[z,hw]at e;cases e
 refine⟨⟨kp _ _ (dX (pO h'.ca h'.at_)) h'.at_,?_,kp.lst (dX m1) h'.le,kp.dk (uP h'.nx h'.ca) h'.nx,kp.lst (dX m2) h'.on,kp.lst (dX m3) h'.lo,?_,λi k d e1 e2=>?_,?_,?_,wX h'.fo⟩,λx d n e=>kp x d (λz=>n (z ▸ A.mK.2.2.1)) (s x d e),λx hx=>?_,λi k e=>by show(A.cs++[(⟨p,wy⟩:rB)])[i]?=ga k;rw[eV (cZ.mp e).1];exact e,λx d e=>Bi (s x d e)⟩
 .show oa _ A.ca=ga ((A.cs++[(⟨p,wy⟩:rB)]).map λk=>D.ref k.p);rw[dI];exact pA
 .show(A.cs++[(⟨p,wy⟩:rB)]).length=(V.calls++[c]).length;rw[c9,c9,h.len];rfl
 .have e1:(A.cs++[(⟨p,wy⟩:rB)])[i]?=ga k:=e1;have e2:(V.calls++[c])[i]?=ga d:=e2;by_cases hi:i<A.cs.length
  .rw[eV hi]at e1;rw[eV (by rw[<-h.len];exact hi)]at e2;obtain⟨ad',md',g1,g2,g3,g4,g5,g6⟩:=(h.cs i k d e1 e2);refine⟨ad',md',kp _ _ (λz=>by have:=s _ _ g1;rw[z,pN h'.ca]at this;cases this) (s _ _ g1),kp.lst (nw k (qQ e1)).1 (s.lst g2),kp.lst (λz=>g5 (z ▸ cL)) (s.lst g3),kp.lst (λz=>g6 (z ▸ cL)) (s.lst g4),nl' _ g5 (XY _ _ (pN g3)),nl' _ g6 (XY _ _ (pN g4))⟩
  .have Zo:i=A.cs.length:=by have:=(cZ.mp e1).1;rw[c9,dM]at this;lia
   subst Zo;rw[eL (dq _)]at e1;rw[h.len,eL (dq _)]at e2;simp only[gp,iF,jn]at e1 e2;subst e1 e2;have q1:p≠A.ca:=λz=>by rw[z,pN h'.ca]at h1;cases h1
   have q2:wy≠A.ca:=λz=>wL (z ▸ h.nS.1);exact⟨ad,md,kp p _ q1 h1,kp.lst (a:=wy) q2 h2,kp.lst (λz=>h.mY ha (z ▸ cL)) h3,kp.lst (λz=>h.mY hm (z ▸ cL)) h4,nl' _ (h.mY ha) n1,nl' _ (h.mY hm) n2⟩
 .rw[zV];refine gq.mpr ⟨h.nl,dR.mpr ⟨dW,eJ⟩,λx hx y hy=>?_⟩;rw[dh]at hy;subst hy;exact λz=>wL (z ▸ hx)
 .show(A.b::(A.cs++[(⟨p,wy⟩:rB)]).map (·.p)).Nodup;rw[dI,<-List.cons_append];refine gq.mpr ⟨h.np,dR.mpr ⟨dW,eJ⟩,λx hx y hy=>?_⟩;rw[d6,iQ,dh]at hy;subst hy;refine λz=>h.nN hp (z ▸ ?_);rcases dz.mp hx with y|y
  .rw[y];exact A.mK.1
  .obtain⟨k,hk,rfl⟩:=dD.mp y;exact A.mK.2.2.2.2.2.1 k hk
 .unfold tK.foot at hx;rw[zV]at hx;have hx:x∈A.b::A.nx::(A.lists++[wy]++(A.cs++[(⟨p,wy⟩:rB)]).map (·.p)):=hx;simp only[dz,dO,dI,d6,iQ,dW,fT]at hx;unfold tK.foot;simp only[dz,dO];rcases hx with z|z|(z|z)|(z|z)
  .exact .inl (.inl z)
  .exact .inl (.inr (.inl z))
  .exact .inl (.inr (.inr (.inl z)))
  .exact .inr (by rw[z];exact hw)
  .exact .inl (.inr (.inr (.inr z)))
  .exact .inr (by rw[z];exact hp)
def pG.ou{V:qa}{p:lf}{es:List rj}(h:pG a M A V)(hp:M p=Fa):
  pG a (pq (pq M p (.lst (es.map rj.d))) A.b (.ins a.c (tJ (.ref V.p) V.h V.t A.ca p A.nx A.on A.lo))) {A with le:=p} {V with mG:=es}/\qO A M {A with le:=p} (pq (pq M p (.lst (es.map rj.d))) A.b (.ins a.c (tJ (.ref V.p) V.h V.t A.ca p A.nx A.on A.lo))):=by
 obtain⟨M1,e0,t,lp⟩:=uW (ds:=es.map rj.d) hp;rw[<-e0];have h1:=h.sub t;have np:p∉A.lists:=h.nQ hp;have nf:p∉A.foot:=h.nN hp;have XY:∀x c,M x=ga c->x≠p:=λx c e z=>by rw[z,hp]at e;cases e
 have kp:qV A.b M1 (pq M1 A.b (.ins a.c (tJ (.ref V.p) V.h V.t A.ca p A.nx A.on A.lo))):=.put;have sub:∀x,x∉A.lists++V.fo->x≠p->x∉({A with le:=p}:tK).lists++V.fo:=λx h1 h2 z=>by
  rcases dO.mp z with z|z
  rotate_left
  .exact h1 (eh _ z)
  have h1:x∉A.lists:=λy=>h1 (fi _ y);unfold tK.lists at h1 z;simp only[dz,ic]at h1 z;rcases z with z|z|z|z|z
  .exact h1.1 z
  .exact h2 z
  .exact h1.2.2.1 z
  .exact h1.2.2.2.1 z
  .exact h1.2.2.2.2 z
 refine⟨⟨pK,kp.lst (pO h1.ca h1.at_) h1.ca,kp.lst (pO lp h1.at_) lp,kp.dk (CM h1.nx h1.at_) h1.nx,kp.lst (pO h1.on h1.at_) h1.on,kp.lst (pO h1.lo h1.at_) h1.lo,h.len,λi k c e1 e2=>?_,?_,h.np,wX h1.fo⟩,λx c n e=>kp x c (λz=>n (z ▸ A.mK.1)) (t x c e),λx hx=>?_,λi k e=>e,λx d e=>Bi (t x d e)⟩
 .obtain⟨ad,md,g1,g2,g3,g4,g5,g6⟩:=(h.cs i k c e1 e2);obtain⟨ad',md',f1,f2,f3,f4,f5⟩:=((h.cs i k c e1 e2).sub t).nP kp h1.at_ (h.oF.2 k (qQ e1));have q1:=kp _ _ (λz=>h.oF.2 k (qQ e1) z) (t _ _ g1);exact⟨ad,md,q1,f2,kp.lst (pO (t.lst g3) h1.at_) (t.lst g3),kp.lst (pO (t.lst g4) h1.at_) (t.lst g4),sub _ g5 (XY _ _ (pN g3)),sub _ g6 (XY _ _ (pN g4))⟩
 .have n:=h.nl;unfold tK.lists at n np ⊢;simp only[dz,ic]at np;simp only[dR,dz,ic]at n ⊢;exact⟨⟨λz=>np.1 z.symm,n.1.2⟩,⟨np.2.2.1,np.2.2.2.1,np.2.2.2.2⟩,n.2.2⟩
 .by_cases z:x=p
  .exact .inr (z ▸ hp)
  .refine .inl ?_;unfold tK.foot tK.lists at hx ⊢;simp only[dz,dO]at hx ⊢;rcases hx with y|y|(y|y|y|y|y)|y
   .exact .inl y
   .exact .inr (.inl y)
   .exact .inr (.inr (.inl (.inl y)))
   .exact absurd y z
   .exact .inr (.inr (.inl (.inr (.inr (.inl y)))))
   .exact .inr (.inr (.inl (.inr (.inr (.inr (.inl y))))))
   .exact .inr (.inr (.inl (.inr (.inr (.inr (.inr y))))))
   .exact .inr (.inr (.inr y))
def pG.frame{V:qa}(h:pG a M A V)(st:qO A1 M A2 M')(h1:∀x∈A1.foot,x∉A.foot)(h2:∀x∈A1.foot,x∈V.fo\/M x=Fa):pG a M' A V:=by
 have hf:∀x∈A.foot,∀c,M x=ga c->M' x=ga c:=λx hx c e=>st.1 x c (λz=>h1 x z hx) e;have hl:∀{x:lf} {ds:T0 D},x∈A.foot->oa M x=ga ds->oa M' x=ga ds:=λhx e=>sj (hf _ hx _ (pN e));have ho:∀{x:lf} {ds:T0 D},x∉A.lists++V.fo->oa M x=ga ds->oa M' x=ga ds:=λ{x ds} hx e=>sj (st.1 x _ (λz=>(h2 x z).elim (λy=>hx (eh _ y)) λy=>by rw[pN e]at y;cases y) (pN e));obtain⟨f1,f2,f3,f4,f5,f6,f7⟩:=A.mK;exact⟨hf _ f1 _ h.at_,hl f3 h.ca,hl f4 h.le,Bu (hf _ f2 _ (vD h.nx)),hl (A.nz h.nS.2.2.2.2) h.on,hl f5 h.lo,h.len,λi k c e1 e2=>by
  obtain⟨ad,md,g1,g2,g3,g4,g5,g6⟩:=h.cs i k c e1 e2;exact⟨ad,md,hf _ (f6 k (qQ e1)) _ g1,hl (f7 k (qQ e1)) g2,ho g5 g3,ho g6 g4,g5,g6⟩,h.nl,h.np,λx hx=>(h.fo x hx).elim λc e=>st.2.2.2 x c e⟩
def zw(x:D)(l:T0 D):wF (x::l) 0=ga x:=by
 unfold wF;have:D3 (x::l).length 0=ga 0:=by unfold D3;rw[eA];simp
 rw[this];rfl
def xN(f:pf->Str->Bool)(a:Ad):rb:=λds M Q=>Co λL k c x=>ds=[.ref k.p,.str x]/\rP a M L k c/\Q (.bl (f c x)) M
abbrev He:=xN pf.hasB
abbrev zj:=xN pf.mI
abbrev E4:=xN pf.mS
abbrev yN:=xN pf.mJ
abbrev vv:=xN pf.mD
abbrev Fi:=xN pf.mL
abbrev xk:=xN pf.m8
noncomputable def Os(x:Str):D->Bool
 | .str y=>!(y==x)
 | _=>pc
def zu(a:Ad):rb:=λds M Q=>KA λL k c x y r=>ds=[.ref k.p,.str x]/\rP a M L k c/\c.ms.length<=100/\sm c.ms x=y::r/\Q (.str y) M
def BY(ss:QQQ)(x:Str):[]++(List.filter (Os x) (ss.map D.str)).map id=(sm ss x).map D.str:=by rw[d9,jb,hJ];rfl
def DU{k:lf}{ks:QQQ}{c:Str}{K:DK}(hk:oa M k=ga (ks.map D.str))(h:K (.bl (hasS ks c)) M):Sy pc (.str c) (.ref k) M K:=by refine i' hk ⟨Z',qp ks,?_⟩;show K (.bl (inD (.str c) (ks.map D.str))) M;rw[sf];exact h
def WS(w x y:Str):inD (.str w) [.str x,.str y]=(w==x||w==y):=by rw[show[D.str x,D.str y]=[x,y].map D.str from rfl,sf,gm];simp only[gb,List.any_nil,ji,hG,fj];exact⟨λh=>h.imp lW lW,λh=>h.imp lW lW⟩
def Rx:Fq P w K mg base 1 a.bI (He a):=by
 refine fq G.bI.toDG GE (λr u=>⟨_,(oX (pJ (pB u (pj v0) pb)
 (oY (pk (IK (qc u U1 (pj v0)) (sv (qc u U1 (pj v0))))))
 pE)
 (oX (pJ (pB u (pj v0) pb)
 (oY (pk (qc u U1 (pj v0))))
 pE)
 (oY (pk (sN (qc u (pj v0) (pI (rN pb pb))) (sv (qc u U1 (pj v0)))))))),?_⟩)
 rintro ds M Q ⟨L,k,c,x,rfl,⟨ad,md,h1,h2,h3,h4,_⟩,q⟩
 unfold pf.hasB at q;refine oZ h1 (i' Z' ?_);refine qC (c:=c.st=="rings") (λg=>?_) (λg=>?_)
 .rw[df g]at q;refine oZ h1 (i' Z' (qC (c:=x==c.cr) (λg2=>?_) (λg2=>?_)))
  .rw[g2]at q;exact⟨M,.refl,q⟩
  .rw[show(x==c.cr)=pc from dG.mpr g2,fJ]at q;exact oZ h1 (i' Z' (DU h3 ⟨M,.refl,q⟩))
 .rw[de g]at q;refine oZ h1 (i' Z' ?_);refine qC (c:=c.st=="waits") (λg2=>?_) (λg2=>?_)
  .rw[df g2]at q;exact oZ h1 (i' Z' ⟨M,.refl,q⟩)
  .rw[de g2]at q;refine oZ h1 (i' Z' ⟨oV Z',Z',Z',?_⟩);show if inD (.str c.st) [.str "talks",.str "held"]=Db then _ else _
   rw[WS];refine qC (λg3=>?_) (λg3=>?_)
   .rw[g3,eK]at q;exact oZ h1 (i' Z' (DU h4 ⟨M,.refl,q⟩))
   .rw[show(c.st=="talks"||c.st=="held")=pc from dG.mpr g3,eR]at q;exact⟨M,.refl,q⟩
def vV:Fq P w K mg base 1 a.T (zj a):=by
 refine fq G.T.toDG yF (λr u=>⟨_,(oY (pk (sN (qc u (pj v0) pb) (sv (qc u U1 (pj v0)))))),?_⟩)
 rintro ds M Q ⟨L,k,c,x,rfl,⟨ad,md,h1,h2,h3,h4,_⟩,q⟩
 unfold pf.mI at q;refine oZ h1 (i' Z' (qC (c:=c.st=="talks") (λg=>?_) (λg=>?_)))
 .rw[g,eK]at q;exact oZ h1 (i' Z' (DU h4 ⟨M,.refl,q⟩))
 .rw[show(c.st=="talks")=pc from dG.mpr g,eR]at q;exact⟨M,.refl,q⟩
def Mi:Fq P w K mg base 2 a.bH (E4 a):=by
 refine fq G.bH.toDG CZ (λr u=>⟨_,(oX (pJ (pB u (pj v0) pb)
 (oY (pk (sN (qc u U1 (pj v0)) (sv (qc u U1 (pj v0))))))
 pE)
 (oY (pk (pR v0 G.e.toCls G.T (vV G) r (pZ U1))))),?_⟩)
 rintro ds M Q ⟨L,k,c,x,rfl,hc,q⟩
 obtain⟨ad,md,h1,h2,h3,h4,_⟩:=id hc;unfold pf.mS at q;refine oZ h1 (i' Z' ?_);refine qC (c:=c.st=="held") (λg=>?_) (λg=>?_)
 .rw[df g]at q;refine oZ h1 (i' Z' (i' h4 ⟨Z',qp c.ms,?_⟩));show if inD (.str x) (c.ms.map D.str)=Db then _ else _
  rw[sf];refine qC (c:=hasS c.ms x) (λg2=>?_) (λg2=>?_)
  .rw[g2,eK]at q;refine oZ h1 (i' Z' ?_);cases e:c.hd with
   | none=>rw[e]at q;exact⟨M,.refl,q⟩
   | some y=>
    rw[e]at q;refine⟨M,.refl,?_⟩;rw[show(!(ga y==ga x))=!(x==y)from by
     show(!(y==x))=_;rw[lX]]at q
    exact q
  .rw[show hasS c.ms x=pc from dG.mpr g2,eR]at q;exact⟨M,.refl,q⟩
 .rw[de g]at q;exact oZ h1 ⟨Z',_,⟨Z',Z'⟩,L,k,c,x,Z',hc,M,.refl,q⟩
def Bx:Fq P w K mg base 1 a.U (yN a):=by
 refine fq G.U.toDG yq (λr u=>⟨_,(oY (pk (sN (qc u (pj v0) (pI (rN pb pb))) (sv (qc u U1 (pj v0)))))),?_⟩)
 rintro ds M Q ⟨L,k,c,x,rfl,⟨ad,md,h1,h2,h3,h4,_⟩,q⟩
 unfold pf.mJ at q;refine oZ h1 (i' Z' ⟨oV Z',Z',Z',?_⟩);show if inD (.str c.st) [.str "rings",.str "waits"]=Db then _ else _
 rw[WS];refine qC (λg3=>?_) (λg3=>?_)
 .rw[g3,eK]at q;exact oZ h1 (i' Z' ⟨M,.refl,q⟩)
 .rw[show(c.st=="rings"||c.st=="waits")=pc from dG.mpr g3,eR]at q;exact⟨M,.refl,q⟩
def FY:Fq P w K mg base 1 a.ar (vv a):=by
 refine fq G.ar.toDG yT (λr u=>⟨_,(oY (pk (sN (qc u (pj v0) pb) (sv (qc u U1 (pj v0)))))),?_⟩)
 rintro ds M Q ⟨L,k,c,x,rfl,⟨ad,md,h1,h2,h3,h4,_⟩,q⟩
 unfold pf.mD at q;refine oZ h1 (i' Z' (qC (c:=c.st=="waits") (λg=>?_) (λg=>?_)))
 .rw[g,eK]at q;exact oZ h1 (i' Z' (DU h3 ⟨M,.refl,q⟩))
 .rw[show(c.st=="waits")=pc from dG.mpr g,eR]at q;exact⟨M,.refl,q⟩
def K3:Fq P w K mg base 2 a.bG (xk a):=by
 refine fq G.bG.toDG wZ (λr u=>⟨_,(oY (pk (IK (pR v0 G.e.toCls G.U (Bx G) r (pZ U1)) (IK (qc u U1 (pj v0)) (sv (qc u U1 (pj v0))))))),?_⟩)
 rintro ds M Q ⟨L,k,c,x,rfl,hc,q⟩
 obtain⟨ad,md,h1,h2,h3,h4,_⟩:=id hc;unfold pf.m8 at q;refine oZ h1 ⟨Z',_,⟨Z',Z'⟩,L,k,c,x,Z',hc,qC (c:=c.mJ x) (λg=>?_) (λg=>?_)⟩
 .rw[g]at q;exact⟨M,.refl,q⟩
 .rw[show c.mJ x=pc from dG.mpr g,fJ]at q;refine oZ h1 (i' Z' (i' h3 ⟨Z',qp c.at_,?_⟩));show if inD (.str x) (c.at_.map D.str)=Db then _ else _
  rw[sf];refine qC (c:=hasS c.at_ x) (λg2=>?_) (λg2=>?_)
  .rw[g2]at q;exact⟨M,.refl,q⟩
  .rw[show hasS c.at_ x=pc from dG.mpr g2,fJ]at q;exact oZ h1 (i' Z' (DU h4 ⟨M,.refl,q⟩))
def Gh:Fq P w K mg base 2 a.av (Fi a):=by
 refine fq G.av.toDG Di (λr u=>⟨_,(oY (pk (sN (pR v0 G.e.toCls G.T (vV G) r (pZ U1)) (sv (qc u (pM qm Z' G.g ql (pZ (pj v0))) o9))))),?_⟩)
 rintro ds M Q ⟨L,k,c,x,rfl,hc,q⟩
 obtain⟨ad,md,h1,h2,h3,h4,_⟩:=id hc;unfold pf.mL at q;refine oZ h1 ⟨Z',_,⟨Z',Z'⟩,L,k,c,x,Z',hc,qC (c:=c.mI x) (λg=>?_) (λg=>?_)⟩
 .rw[g,eK]at q;refine oZ h1 (i' Z' (i' h4 ⟨M,.refl,?_⟩));rw[cW];have:(((c.ms.length:Nat):Int)==2)=(c.ms.length==2):=by rw[gm,fj,fj];lia
  show Q (.bl (((c.ms.length:Nat):Int)==2)) M;rw[this];exact q
 .rw[show c.mI x=pc from dG.mpr g,eR]at q;exact⟨M,.refl,q⟩
def GZ:Fq P w K mg base 1 a.au (zu a):=by
 refine fq G.au.toDG yK (λr u=>⟨_,(oY (pk (pD (qE Z' (ya (ix:=[Fa,ga 1]) (N':=["member","phone"])) (qF (pj v0)) (qv 0) (vU (pB u v0 U1)) v0) o9))),?_⟩)
 rintro ds M Q ⟨L,k,c,x,y,r,rfl,hc,hl,e,q⟩
 have hz:=dP;obtain⟨ad,md,h1,h2,h3,h4,_⟩:=id hc;refine oZ h1 (i' Z' (i' h4 (tF (f:=id) (t:=Os x) h4 _ [] _ (by rw[cW];simp only[dN];lia) (λd hd k0 hk=>?_) (λd hd _ k0 hk=>?_) λp hp=>?_)))
 .obtain⟨y,hy,rfl⟩:=dD.mp hd;exact hk
 .obtain⟨y,hy,rfl⟩:=dD.mp hd;exact hk
 rw[BY,e];exact i' pA (i' (zw _ _) ⟨M,.new hp,q⟩)
theorem Cn:∀bs:T0 Bool,AY (.bl Db) (bs.map D.bl)=bs.findIdx? id
 | []=>rfl
 | b::r=>by rw[d6,List.findIdx?_cons];unfold AY;rw[Cn r];cases b<;>rfl
theorem K2(x:D):∀ds:T0 D,(AY x ds).isSome=ds.any λd=>Qq d x
 | []=>rfl
 | d::r=>by
  unfold AY;rw[gb];by_cases h:Qq d x=Db
  .rw[df h,h];rfl
  .rw[de h,jl,K2 x r,show Qq d x=pc from dG.mpr h,fJ]
theorem Cv:∀bs:T0 Bool,(bs.map D.bl).all uS=Db
 | []=>rfl
 | _::r=>by rw[d6,gv,Cv r];rfl
structure Rd(a:Ad)(M:Mp)(A:tK)(V:qa)(l:pz):Prop where
 bd:pG a M A V
 k:V.calls.length<=1000000
 pl:sP a M V.p l
 ok:qY l
 on:V.on.length=l.mx.length
 ms:∀c∈V.calls,(∀x∈c.ms,x∈l.pn)/\c.ms.length<=100
def Rd.sub{V:qa}(h:Rd a M A V l)(s:qz M M'):Rd a M' A V l:=⟨h.bd.sub s,h.k,h.pl.sub s,h.ok,h.on,h.ms⟩
def MO:rb:=λds M Q=>CQ λr bs=>ds=[.ref r]/\oa M r=ga (List.map D.bl bs)/\Q (Qo (bs.findIdx? id)) M
def J9(f:qa->Str->D)(a:Ad):rb:=λds M Q=>Dg λA V x=>ds=[.ref A.b,.str x]/\pG a M A V/\V.calls.length<=1000000/\Q (f V x) M
def Vh(V:qa)(x:Str):D:=.int (uQ V x:Nat)
def Ly(V:qa)(x:Str):D:=Qo (Ei V x)
def Ao(V:qa)(x:Str):D:=Qo (vw V x)
def Vt(V:qa)(x:Str):D:=Qo (I9 V x)
def UH(V:qa)(x:Str):D:=.bl (Aq V x)
abbrev FI:=J9 Vh
abbrev CV:=J9 Ly
abbrev AE:=J9 Ao
abbrev A7:=J9 Vt
abbrev Ae:=J9 UH
def xg(a:Ad):rb:=λds M Q=>Co λA V l x=>ds=[.ref A.b,.str x]/\Rd a M A V l/\x∈l.pn/\Q (.bl (tN l V x)) M
def zU(a:Ad):rb:=λds M Q=>GH λA V l c z=>ds=[.ref A.b,.str c,.str z]/\Rd a M A V l/\z∈l.nm/\∀q M',qz M M'->M q=Fa->oa M' q=ga ((um l V c z).map D.str)->Q (.ref q) M'
def zT(a:Ad):rb:=λds M Q=>CQ λA V=>ds=[.ref A.b]/\pG a M A V/\Q (.int ((V.h+V.t) % 24)) M
def OH(a:Ad):rb:=λds M Q=>GH λA V l c z=>ds=[.ref A.b,.str c,.str z]/\Rd a M A V l/\z∈l.nm/\Q (.bl (xX l V c z)) M
def Jg{V:qa}(h:pG a M A V){pre post:T0 D}{d:D}(e:pre++d::post=A.cs.map λk=>D.ref k.p):∃k c,A.cs[pre.length]?=ga k/\V.calls[pre.length]?=ga c/\d=.ref k.p/\rP a M (A.lists++V.fo) k c/\V.calls.take (pre.length+1)=V.calls.take pre.length++[c]:=by
 have h1:(A.cs.map λk=>D.ref k.p)[pre.length]?=ga d:=by rw[<-e];simp
 rw[dA]at h1;cases z:A.cs[pre.length]? with
 | none=>rw[z]at h1;cases h1
 | some k=>
  rw[z]at h1;have hi:pre.length<V.calls.length:=by rw[<-h.len];exact(cZ.mp z).1
  have e2:V.calls[pre.length]?=ga V.calls[pre.length]:=cY hi;refine⟨k,_,Z',e2,(dv h1).symm,h.cs _ _ _ z e2,?_⟩;rw[fU,e2];rfl
def yP{l:pz}{x:Str}(h:x∈l.pn):∃v,l.mQ x=ga v:=by
 obtain⟨p,hp,rfl⟩:=dD.mp h;unfold pz.mQ;cases e:l.mB.find? λq=>decide (q.1=p.1)with
 | some v=>exact⟨v,Z'⟩
 | none=>exact absurd (gi.mp e p hp) (by simp)
def qM:hasS ss x=Db↔x∈ss:=by unfold hasS;rw[fQ];exact⟨λ⟨y,hy,e⟩=>ZB e ▸ hy,λh=>⟨x,h,ft _⟩⟩
def JM(h:wR ss=Db):ss.Nodup:=by
 have h:(tz ss).length=ss.length:=by unfold wR at h;have:=fj.mp h;lia
 suffices key:∀r:QQQ,(tz r.reverse).length=r.reverse.length->r.reverse.Nodup by have:=key ss.reverse;rw[List.reverse_reverse]at this;exact this h
 intro r;induction r with
 | nil=>intro _;exact eJ
 | cons k r ih=>
  intro h;rw[List.reverse_cons]at h ⊢;generalize r.reverse=l at ih h ⊢;rw[yl]at h;split at h
  .have:=IF l;rw[c9,dM]at h;lia
  .rename_i hk;rw[c9,c9,dM]at h;have h1:=ih (by lia);rw[MA]at hk;refine gq.mpr ⟨h1,by simp,λx hx y hy=>?_⟩;rw[dh.mp hy];exact λz=>hk (z ▸ hx)
def Ie{m:Int}(h:sr cs ks m=Db):cs≠[]/\(cs.length:Int)<=m/\cs.Nodup/\∀x∈cs,x∈ks:=by unfold sr at h;simp only[dY,eE,eX]at h;obtain⟨h1,h2,h3,h4⟩:=h;refine⟨λz=>by rw[z]at h1;exact absurd h1 (by decide),h2,JM h3,λx hx=>qM.mp (h4 x hx)⟩
def qY.of(ok:qY l){z:Str}(hz:z∈l.nm):(l.mv z≠[]/\(l.mv z).length<=4/\(l.mv z).Nodup/\∀x∈l.mv z,x∈l.pn)/\(z∈l.pn->l.mv z=[z]/\l.mE z="one"):=by
 have hd:=gq.mp ok.nd;have h1:z∈l.pn->l.group z=Fa:=λh=>gi.mpr λg hg e=>hd.2.2 z h g.1 (dD.mpr ⟨g,hg,Z'⟩) (by simpa using e:g.1=z).symm;refine⟨?_,λh=>by unfold pz.mv pz.mE;rw[h1 h];exact⟨Z',Z'⟩⟩;unfold pz.mv;cases e:l.group z with
 | none=>
  have hp:z∈l.pn:=by
   rcases dO.mp hz with h|h
   .exact h
   .obtain⟨g,hg,rfl⟩:=dD.mp h;exact absurd (gi.mp e g hg) (by simp)
  exact⟨fH _ _,by show 1<=4;decide,dR.mpr ⟨dW,eJ⟩,λx hx=>by rw[dh.mp hx];exact hp⟩
 | some g=>obtain⟨c1,c2,c3,c4⟩:=Ie (ok.go g (gj e)).mem;exact⟨c1,by show g.2.2.length<=4;lia,c3,c4⟩
def ye{V:qa}{f:pf->Str->Bool}{m x:Str}{Q:DK}{ok:Mp->Prop}(bd:pG a M A V)(hk:V.calls.length<=1000000)(mH:ok M)(hm:∀c wy ad md,(rc c wy ad md).lookup m=Fa)(q:∀p,M p=Fa->Q (.ref p) (pq M p (.lst ((V.calls.map λc=>f c x).map D.bl)))):
  uV (rG 0) Cj (Ay m (λC s=>C=a.e/\s=xN f a) (v3 0) (ua (v3 1) vt)) ok Q (A.cs.map λk=>D.ref k.p) [] [Fa,ga (.str x)] M:=by
 have hz:=dP;refine zO (A.cs.map λk=>D.ref k.p) (λpre acc U M'=>M=M'/\acc=((V.calls.take pre.length).map λc=>f c x).map D.bl/\∃y,U=[y,ga (.str x)]) (λ_ _ _ M' j=>by rw[<-j.1];exact mH) _ [] [] _ _ Z' ?_ ⟨Z',Z',Fa,Z'⟩ ?_ ?_
 .rw[cW,bd.len];simp only[dN];lia
 .rintro pre d post e acc U M' ⟨rfl,rfl,y,rfl⟩ k hk
  obtain⟨ka,c,e1,e2,rfl,hc,et⟩:=Jg bd e;obtain⟨_,_,g1,_⟩:=id hc;refine oZ g1 ⟨hm _ _ _ _,_,⟨Z',Z'⟩,_,ka,c,x,Z',hc,hk _ _ _ ⟨Z',?_,_,Z'⟩⟩;rw[c9,dM,et,dI,dI];rfl
 .rintro acc U M' ⟨rfl,rfl,y,rfl⟩ p hp
  rw[cW,bd.len,fP];exact q p hp
def BP:Fq P w K mg base 1 a.M MO:=by
 refine fq G.M.toDG An (λr u=>⟨_,(oX (pJ (pB u wu v0)
 (oY (pk (xJ v0 (pZ wu))))
 pE)
 (oY (pk rQ))),?_⟩)
 rintro ds M Q ⟨r,bs,rfl,hr,q⟩
 have ei:inD (.bl Db) (bs.map D.bl)=(bs.findIdx? id).isSome:=by rw[<-Cn];exact(K2 _ _).symm
 refine i' hr ⟨Z',Cv bs,?_⟩;show if inD (.bl Db) (bs.map D.bl)=Db then _ else _
 rw[ei];cases e:bs.findIdx? id with
 | none=>rw[e]at q;exact⟨M,.refl,q⟩
 | some j=>rw[e]at q;exact Qf ⟨by show(oa M r).isSome=Db;rw[hr];rfl,i' hr ⟨Z',Cv bs,i' ((Cn bs).trans e) ⟨M,.refl,q⟩⟩⟩
def O0:Fq P w K mg base 2 a.bE (FI a):=by
 refine fq G.bE.toDG CS (λr u=>⟨_,(oY (pk (pM qm Z' G.g ql (pZ (qE Z' (ya (ix:=[Fa,ga 1]) (N':=["call","phone"])) (qF (pj v0)) (qv 0) (vU (ur (pR v0 G.e.toCls G.bI (Rx G) r (pZ U1)))) v0))))),?_⟩)
 rintro ds M Q ⟨A,V,x,rfl,bd,XU,q⟩
 have hz:=dP;refine oZ bd.at_ (i' Z' (i' bd.ca ?_));refine yc (A.cs.map λk=>D.ref k.p) (λpre acc U M'=>M=M'/\acc.length=((V.calls.take pre.length).filter (·.hasB x)).length/\∃y,U=[y,ga (.str x)]) (λ_ _ _ M' j=>by rw[<-j.1];exact bd.ca) _ [] [] _ _ Z' ?_ ⟨Z',Z',Fa,Z'⟩ ?_ ?_
 .rw[cW,bd.len];simp only[dN];lia
 .rintro pre d post e acc U M' ⟨rfl,ha,y,rfl⟩ k k2 hk Zu
  obtain⟨ka,c,e1,e2,rfl,hc,et⟩:=Jg bd e;rw[c9,dM,et,jf]at hk Zu;obtain⟨_,_,g1,_⟩:=id hc;refine oZ g1 ⟨Z',_,⟨Z',Z'⟩,_,ka,c,x,Z',hc,?_⟩;refine qC (c:=c.hasB x) (λg=>?_) (λg=>?_)
  .refine hk _ _ _ ⟨Z',?_,_,Z'⟩;rw[c9,c9,ha,iD (by exact g)];rfl
  .refine Zu _ _ ⟨Z',?_,_,Z'⟩;rw[c9,ha,iE (by exact g)];rfl
 .rintro acc U M' ⟨rfl,ha,y,rfl⟩ p hp
  refine i' pA ⟨M,.new hp,?_⟩;rw[cW,bd.len,fP]at ha;rw[ha];exact q
def Lp:Fq P w K mg base 3 a.bC (CV a):=by
 refine fq G.bC.toDG Bt (λr u=>⟨_,(oY (pk (pC (BP G) r G.M (pZ (qE Z' (ya (ix:=[Fa,ga 1]) (N':=["call","phone"])) (qF (pj v0)) (qv 0) rM (pR v0 G.e.toCls G.bH (Mi G) r (pZ U1))))))),?_⟩)
 rintro ds M Q ⟨A,V,x,rfl,bd,XU,q⟩
 refine oZ bd.at_ (i' Z' (i' bd.ca (ye bd XU bd.ca (λ_ _ _ _=>rfl) λp hp=>⟨p,_,Z',pA,M,.new hp,?_⟩)));rw[h9];exact q
def HA:Fq P w K mg base 3 a.bD (A7 a):=by
 refine fq G.bD.toDG zR (λr u=>⟨_,(oY (pk (pC (BP G) r G.M (pZ (qE Z' (ya (ix:=[Fa,ga 1]) (N':=["call","phone"])) (qF (pj v0)) (qv 0) rM (pR v0 G.e.toCls G.U (Bx G) r (pZ U1))))))),?_⟩)
 rintro ds M Q ⟨A,V,x,rfl,bd,XU,q⟩
 refine oZ bd.at_ (i' Z' (i' bd.ca (ye bd XU bd.ca (λ_ _ _ _=>rfl) λp hp=>⟨p,_,Z',pA,M,.new hp,?_⟩)));rw[h9];exact q
def yz:Fq P w K mg base 3 a.R (AE a):=by
 refine fq G.R.toDG Ah (λr u=>⟨_,(oY (pk (pC (BP G) r G.M (pZ (qE Z' (ya (ix:=[Fa,ga 1]) (N':=["call","phone"])) (qF (pj v0)) (qv 0) rM (pR v0 G.e.toCls G.T (vV G) r (pZ U1))))))),?_⟩)
 rintro ds M Q ⟨A,V,x,rfl,bd,XU,q⟩
 refine oZ bd.at_ (i' Z' (i' bd.ca (ye bd XU bd.ca (λ_ _ _ _=>rfl) λp hp=>⟨p,_,Z',pA,M,.new hp,?_⟩)));rw[h9];exact q
def FT:Fq P w K mg base 3 a.bL (Ae a):=by
 refine fq G.bL.toDG zA (λr u=>⟨_,(oY (pk (pM (SM Z') Z' G.cJ R1 (pZ (qE Z' (ya (ix:=[Fa,ga 1]) (N':=["call","phone"])) (qF (pj v0)) (qv 0) rM (pR v0 G.e.toCls G.ar (FY G) r (pZ U1))))))),?_⟩)
 rintro ds M Q ⟨A,V,x,rfl,bd,XU,q⟩
 refine oZ bd.at_ (i' Z' (i' bd.ca (ye bd XU bd.ca (λ_ _ _ _=>rfl) λp hp=>i' pA ?_)));rw[d4];refine i' (yd _ _) ⟨M,.new hp,?_⟩;rw[jF];exact q
def GA:Fq P w K mg base 1 a.bK (zT a):=by
 refine fq G.bK.toDG zN (λr u=>⟨_,(oY (pk (pQ (pQ (pj v0) (pj v0)) o9))),?_⟩)
 rintro ds M Q ⟨A,V,rfl,bd,q⟩
 exact oZ bd.at_ (i' Z' (oZ bd.at_ (i' Z' ⟨by decide,M,.refl,q⟩)))
def NA{l:pz}{x:Str}{v:uy}(h:l.mQ x=ga v):wJ l x=v.2.1:=by unfold wJ;rw[h];rfl
def yJ:Fq P w K mg base 3 a.S (xg a):=by
 refine fq G.S.toDG Ab (λr u=>⟨_,(oY (pk (qc u (pR v0 G.c.toCls G.bE (O0 G) r (pZ U1)) (pR (pj v0) G.h.toCls G.bF (C7 G) r (pZ U1))))),?_⟩)
 rintro ds M Q ⟨A,V,l,x,rfl,rd,hx,q⟩
 obtain⟨ph,gr,ws,YZ,pr,gd,rs,i1,_⟩:=rd.pl;obtain⟨v,hv⟩:=yP hx;refine oZ rd.bd.at_ ⟨Z',_,⟨Z',Z'⟩,A,V,x,Z',rd.bd,rd.k,?_⟩;refine oZ rd.bd.at_ (i' Z' (oZ i1 ⟨Z',_,⟨Z',Z'⟩,V.p,x,v,l,Z',rd.pl,hv,?_⟩));unfold tN at q;rw[NA hv]at q;exact⟨M,.refl,q⟩
def AC:Fq P w K mg base 4 a.aK (zU a):=by
 refine fq G.aK.toDG zJ (λr u=>⟨_,(oY (pk (qE Z' (ya (ix:=[Fa,ga 1,ga 0]) (N':=["phone","caller","self"])) (qF (pR (pj v0) G.h.toCls G.V (uj G) r (pZ U2))) (qv 0) (vU (W3.b3 (yR (pB u v0 U1) (yk (ur (pR U2 G.c.toCls G.S (yJ G) r (pZ v0))))))) v0))),?_⟩)
 rintro ds M Q ⟨A,V,l,c,z,rfl,rd,Yt,q⟩
 obtain⟨ph,gr,ws,YZ,pr,gd,rs,i1,_⟩:=rd.pl;obtain⟨⟨_,p4,_,pin⟩,_⟩:=rd.ok.of Yt;refine oZ rd.bd.at_ (i' Z' (oZ i1 ⟨Z',_,⟨Z',Z'⟩,V.p,z,l,Z',rd.pl,λq1 Yc=>i' pA ?_⟩));obtain⟨M1,e0,s1,c1⟩:=uW (ds:=List.map D.str (l.mv z)) Yc;rw[<-e0];have hz:=dP;have Zi:=rd.sub s1;refine tF (f:=id) (t:=λd=>match d with|.str x=>!(x==c)&&tN l V x|_=>pc) c1 _ [] _ (by rw[cW];simp only[dN];lia) (λd hd k hk=>?_) (λd hd _ k hk=>?_) λq2 YY=>?_
 .obtain⟨x,hx,rfl⟩:=dD.mp hd;have hk:k (!(x==c)&&tN l V x) M1:=hk;cases e:x==c with
  | true=>rw[e]at hk;refine Ey (c:=!(x==c)) (by rw[e];rfl) hk
  | false=>rw[e]at hk;refine yQ (c:=!(x==c)) (by rw[e];rfl) (oZ Zi.bd.at_ ⟨Z',_,⟨Z',Z'⟩,A,V,l,x,Z',Zi,pin x hx,hk⟩)
 .obtain⟨x,hx,rfl⟩:=dD.mp hd;exact hk
 .have ef:[]++(List.filter (λd=>match d with|.str x=>!(x==c)&&tN l V x|_=>pc) ((l.mv z).map D.str)).map id=(um l V c z).map D.str:=by rw[d9,jb,hJ];rfl
  rw[ef];have t2:=qz.new (c:=.lst ((um l V c z).map D.str)) YY;exact⟨_,.refl,q q2 _ (s1.trans t2) (s1.none YY) pA⟩
def FN:Fq P w K mg base 5 a.O (OH a):=by
 refine fq G.O.toDG Ij (λr u=>⟨_,(oY (pk (qc u (pM qm Z' G.g ql (pZ (pR v0 G.c.toCls G.aK (AC G) r (rN U1 U2)))) o9))),?_⟩)
 rintro ds M Q ⟨A,V,l,c,z,rfl,rd,tg,q⟩
 refine oZ rd.bd.at_ ⟨Z',_,⟨Z',Z'⟩,A,V,l,c,z,Z',rd,tg,λq1 M1 s1 Yc e1=>i' e1 ⟨M,s1,?_⟩⟩;have e:((((um l V c z).map D.str).length:Int)==0)=xX l V c z:=by unfold xX;rw[cW,gm,fj,List.isEmpty_iff,<-gw];lia
 show Q (.bl ((((um l V c z).map D.str).length:Int)==0)) M;rw[e];exact q
def wO(a:Ad)(v:Wi):rb:=λds M Q=>KA λp A V l c z=>ds=[.ref p,.ref A.b,.str c,.str z]/\M p=ga (.ins (v.cls a) v.ny)/\Rd a M A V l/\z∈l.nm/\B' l.pn l.nm v/\Q (.bl (AS l V c z v)) M
def QP(a:Ad)(v:Wi):rb:=λds M Q=>Co λp L k c=>ds=[.ref p,.ref (rB.p k)]/\M p=ga (.ins (v.cls a) v.ny)/\rP a M L k c/\Q (.bl (F4 c v)) M
def FZ:rb:=λds M Q=>CQ λx y=>ds=[x,y]/\Q (.bl pc) M
def LV(a:Ad):lf->rb->Prop:=λC sp=>∃v:Wi,C=v.cls a/\sp=wO a v
noncomputable def Nc(a:Ad):Wi->rb
 | .silent x y n=>QP a (.silent x y n)
 | _=>FZ
def GM(a:Ad):lf->rb->Prop:=λC sp=>∃v:Wi,C=v.cls a/\sp=Nc a v
def Ak(a:Ad):rb:=λds M Q=>KA λp x y f l h=>ds=[.ref p,.int h]/\M p=ga (.ins a.n (Wi.night x y f l).ny)/\Q (.bl (Ej f l h)) M
def zr(a:Ad):rb:=λds M Q=>KA λp x q l r ms=>ds=[.ref p,.ref q,.ref r]/\M p=ga (.ins a.o (Wi.breaks x).ny)/\sP a M q l/\oa M r=ga (List.map D.str ms)/\ms.length<=100/\x∈l.pn/\(∀m∈ms,m∈l.pn)/\Q (.bl (HD l x ms)) M
def IJ{l:pz}{x:Str}{v:uy}(h:l.mQ x=ga v):vE l x=v.2.2:=by unfold vE;rw[h];rfl
def qZ{ks:List rB}{i:Nat}{k:rB}(h:ks[i]?=ga k):wF (ks.map λk=>D.ref k.p) (i:Nat)=ga (.ref k.p):=uZ (by rw[dA,h];rfl)
def Nl(ds:T0 D):L3.uM ds (ga (-1:Int)) Fa=ds.drop (ds.length - 1):=by
 unfold L3.uM;have e:HT.sW ds.length 0 (ga (-1:Int))=ds.length - 1:=by show(if (-1:Int)<0 then((-1:Int)+(ds.length:Int)).toNat else min (-1:Int).toNat ds.length)=ds.length - 1;rw[df (by decide)];lia
 rw[e];show(ds.drop (ds.length - 1)).take (ds.length - (ds.length - 1))=_;exact fm (by rw[gf];exact dq _)
theorem Ec{α:Type}:∀w:List α,w.drop (w.length - 1)=w.getLast?.toList
 | []=>rfl
 | [_]=>rfl
 | _::z::r=>by rw[List.getLast?_cons_cons,<-Ec (z::r)];rfl
def Oq{p q:lf}{w:QQQ}(h1:oa M p=ga ((w.map D.str).drop ((w.map D.str).length - 1)))(h2:oa M q=ga [D.str x]):za M 9 (.ref p) (.ref q)=ga (w.getLast?==ga x):=by
 have e:(w.map D.str).drop ((w.map D.str).length - 1)=(w.getLast?.toList).map D.str:=by rw[cW,<-kq];rw[Ec]
 rw[e]at h1;show(oa M p).bind (λi=>(oa M q).bind λj=>if i.length=j.length then sy (za M 8) i j else ga pc)=_;rw[h1,h2];cases w.getLast? with
 | none=>rfl
 | some y=>show((ga (y==x)).bind λp=>(ga Db).map λq=>p&&q)=ga (ga y==ga x);show ga ((y==x)&&Db)=_;rw[Bool.and_true];rfl
def Lc(G:Gl K mg a)(x:Str)(ns:QQQ):Fq P w K mg base 6 a.aB (wO a (.bar x ns)):=by
 refine fq G.aB.toDG Gk (λr u=>⟨_,(oY (pk (sN (qc u U2 (pj v0)) (sv (qc u U3 (pj v0)))))),?_⟩)
 rintro ds M Q ⟨p,A,V,l,c,z,rfl,hp,_,_,_,q⟩
 refine oZ hp ?_;refine qC (c:=c==x) (λg=>oZ hp ⟨Z',qp ns,M,.refl,?_⟩) (λg=>⟨M,.refl,?_⟩)
 .show Q (.bl (inD (.str z) (ns.map D.str))) M;rw[sf];dsimp only[AS]at q;rw[g,eK]at q;exact q
 .dsimp only[AS]at q;rw[show(c==x)=pc from dG.mpr g,eR]at q;exact q
def Mh(G:Gl K mg a)(x:Str)(ns:QQQ):Fq P w K mg base 6 a.aC (wO a (.shut x ns)):=by
 refine fq G.aC.toDG Fj (λr u=>⟨_,(oY (pk (sN (qc u U3 (pj v0)) (sv (qc u U2 (pj v0)))))),?_⟩)
 rintro ds M Q ⟨p,A,V,l,c,z,rfl,hp,_,_,_,q⟩
 refine oZ hp ?_;refine qC (c:=z==x) (λg=>oZ hp ⟨Z',qp ns,M,.refl,?_⟩) (λg=>⟨M,.refl,?_⟩)
 .show Q (.bl (inD (.str c) (ns.map D.str))) M;rw[sf];dsimp only[AS]at q;rw[g,eK]at q;exact q
 .dsimp only[AS]at q;rw[show(z==x)=pc from dG.mpr g,eR]at q;exact q
def KU(G:Gl K mg a)(x y:Str):Fq P w K mg base 6 a.aD (wO a (.always x y)):=by
 refine fq G.aD.toDG B9 (λr u=>⟨_,(oY (pk (qc u U3 (pj v0)))),?_⟩)
 rintro ds M Q ⟨p,A,V,l,c,z,rfl,hp,_,_,_,q⟩
 exact oZ hp ⟨M,.refl,q⟩
def F':Fq P w K mg base 1 a.bJ (Ak a):=by
 refine fq G.bJ.toDG zI (λr u=>⟨_,(oX (pJ (pB u (pj v0) (pj v0))
 (oY (pk (tY u (pj v0) U1 (pj v0))))
 pE)
 (oY (pk (IK (qc u U1 (pj v0)) (sv (qc u U1 (pj v0))))))),?_⟩)
 rintro ds M Q ⟨p,x,y,f,l,h,rfl,hp,q⟩
 refine oZ hp (oZ hp ?_);show if (decide (f<l))=Db then _ else _
 unfold Ej at q;by_cases z:f<l
 .rw[df z]at q;refine yQ (dS z) (oZ hp ?_);refine qC (c:=decide (f<=h)) (λg=>?_) (λg=>?_)
  .rw[g,eK]at q;exact oZ hp ⟨M,.refl,q⟩
  .rw[show decide (f<=h)=pc from dG.mpr g,eR]at q;exact⟨M,.refl,q⟩
 .rw[de z]at q;refine Ey (eD z) (oZ hp ?_);refine qC (c:=decide (h>=f)) (λg=>?_) (λg=>?_)
  .rw[g,ib]at q;exact⟨M,.refl,q⟩
  .rw[show decide (h>=f)=pc from dG.mpr g,fJ]at q;exact oZ hp ⟨M,.refl,q⟩
def Ml(G:Gl K mg a)(x y:Str)(f m:Int):Fq P w K mg base 6 a.aE (wO a (.night x y f m)):=by
 refine fq G.aE.toDG Dh (λr u=>⟨_,(oY (pk (sN (qc u U3 (pj v0)) (sv (pR v0 G.n.toCls G.bJ (F' G) r (pZ (vK U1 G.c.toCls G.bK (GA G) r))))))),?_⟩)
 rintro ds M Q ⟨p,A,V,l,c,z,rfl,hp,rd,_,_,q⟩
 dsimp only[AS]at q;refine oZ hp ?_;refine qC (c:=z==x) (λg=>?_) (λg=>?_)
 .rw[g,eK]at q;exact oZ hp ⟨Z',_,⟨Z',Z'⟩,oZ rd.bd.at_ ⟨Z',_,⟨Z',Z'⟩,A,V,Z',rd.bd,p,x,y,f,m,_,Z',hp,M,.refl,q⟩⟩
 .rw[show(z==x)=pc from dG.mpr g,eR]at q;exact⟨M,.refl,q⟩
def NF(G:Gl K mg a)(x y:Str):Fq P w K mg base 6 a.aF (wO a (.busy x y)):=by
 refine fq G.aF.toDG ET (λr u=>⟨_,(oY (pk (sN (qc u U3 (pj v0)) (sv (pC (FN G) r G.O (rh U1 U2 U3)))))),?_⟩)
 rintro ds M Q ⟨p,A,V,l,c,z,rfl,hp,rd,hz,_,q⟩
 dsimp only[AS]at q;refine oZ hp ?_;refine qC (c:=z==x) (λg=>?_) (λg=>?_)
 .rw[g,eK]at q;exact⟨A,V,l,c,z,Z',rd,hz,M,.refl,q⟩
 .rw[show(z==x)=pc from dG.mpr g,eR]at q;exact⟨M,.refl,q⟩
def K6(G:Gl K mg a)(x y:Str)(n:Int):Fq P w K mg base 6 a.aG (wO a (.silent x y n)):=by
 refine fq G.aG.toDG BC (λr u=>⟨_,(oY (pk wu)),?_⟩)
 rintro ds M Q ⟨p,A,V,l,c,z,rfl,hp,rd,hz,_,q⟩
 exact⟨M,.refl,q⟩
def NB(G:Gl K mg a)(x:Str):Fq P w K mg base 6 a.aH (wO a (.wait x)):=by
 refine fq G.aH.toDG FP (λr u=>⟨_,(oX (pJ (W3.b3 (xM (pB u U3 (pj v0)) (wU (pB u U2 (pj v0)))))
 (oY (pk wu))
 pE)
 (oY (pk (sN (pC (FN G) r G.O (rh U1 U2 U3)) (sv (MQ (pR U1 G.c.toCls G.bL (FT G) r (pZ U3)))))))),?_⟩)
 rintro ds M Q ⟨p,A,V,l,c,z,rfl,hp,rd,hz,_,q⟩
 dsimp only[AS]at q;refine oZ hp ?_;refine qC (c:=!(z==x)) (λg=>?_) (λg=>?_)
 .rw[g,ib]at q;exact⟨M,.refl,q⟩
 rw[show(!(z==x))=pc from dG.mpr g,fJ]at q;refine oZ hp ?_;refine qC (c:=c==x) (λg=>?_) (λg=>?_)
 .rw[g]at q;exact⟨M,.refl,q⟩
 rw[de g]at q;refine⟨A,V,l,c,z,Z',rd,hz,?_⟩;refine qC (c:=xX l V c z) (λg=>?_) (λg=>?_)
 .rw[g,eK]at q;exact oZ rd.bd.at_ ⟨Z',_,⟨Z',Z'⟩,A,V,z,Z',rd.bd,rd.k,M,.refl,q⟩
 .rw[show xX l V c z=pc from dG.mpr g,eR]at q;exact⟨M,.refl,q⟩
def F7:Fq P w K mg base 2 a.bM (zr a):=by
 refine fq G.bM.toDG vb (λr u=>⟨_,(oX (pF 3 vb (pR U1 G.h.toCls G.aL (zF G) r (pZ (pj v0))))
 (oY (pk (pM (Ft Z') Z' G.bR EH (pZ (qE Z' (ya (ix:=[Fa,ga 1,ga 3]) (N':=["member","plan","rank"])) (qF U2) (qv 0) rM (qc u (pR U1 G.h.toCls G.aL (zF G) r (pZ v0)) U2))))))),?_⟩)
 rintro ds M Q ⟨p,x,q,l,r,ms,rfl,hp,pl,lr,h100,hx,hm,k⟩
 have hz:=dP;obtain⟨v,hv⟩:=yP hx;obtain⟨ph,gr,ws,YZ,pr,gd,rs,i1,_⟩:=id pl;refine oZ i1 ⟨Z',_,⟨Z',Z'⟩,oZ hp (i' Z' ⟨q,x,v,l,Z',pl,hv,?_⟩)⟩;refine i' lr (ra (f:=λd=>match d with|.str m=>.bl (decide (vE l m<vE l x))|_=>.mC) lr _ [] _ (by rw[cW];show 0+ms.length<=Uf;lia) (λd hd k0 hk=>?_) λp1 YC=>?_)
 .obtain⟨m,hmm,rfl⟩:=dD.mp hd;obtain⟨u,hu⟩:=yP (hm m hmm);have hk:k0 (.bl (decide (vE l m<vE l x))) M:=hk;rw[IJ hu,IJ hv]at hk;exact oZ i1 ⟨Z',_,⟨Z',Z'⟩,q,m,u,l,Z',pl,hu,hk⟩
 .have em:[]++(ms.map D.str).map (λd=>match d with|.str m=>.bl (decide (vE l m<vE l x))|_=>.mC)=ms.map λm=>D.bl (decide (vE l m<vE l x)):=by rw[d9,d4];rfl
  rw[em];refine i' pA (i' (yd (λm=>decide (vE l m<vE l x)) ms) ⟨M,.new YC,?_⟩);unfold HD at k;rw[zL];exact k
def Mt(G:Gl K mg a)(x:Str):Fq P w K mg base 6 a.aI (wO a (.breaks x)):=by
 refine fq G.aI.toDG vk (λr u=>⟨_,(oX (pJ (W3.b3 (xM (pB u U2 (pj v0)) (wU (pB u U3 (pj v0)))))
 (oY (pk wu))
 pE)
 (oX (pJ (W3.b3 (xM (pB u U3 (vK (pj U1) G.h.toCls G.L (su G) r)) (wU (vS (ur (pC (FN G) r G.O (rh U1 U2 U3)))))))
 (oY (pk wu))
 pE)
 (oX (pF 4 vk (pR U1 G.c.toCls G.R (yz G) r (pZ U3)))
 (oX (pJ (pB u v4 rQ)
 (oY (pk wu))
 pE)
 (oX (pF 5 vk (pj (pD (pj U1) v4)))
 (oY (pk (sN (qc u (pM qm Z' G.g ql (pZ v5)) o9) (sv (pR v0 G.o.toCls G.bM (F7 G) r (rN (pj U1) v5))))))))))),?_⟩)
 rintro ds M Q ⟨p,A,V,l,c,z,rfl,hp,rd,Yt,hx,q⟩
 have hx:x∈l.pn:=qM.mp hx;obtain⟨ph,gr,ws,YZ,pr,gd,rs,i1,_⟩:=rd.pl;have p8:=rd.ok.p8;dsimp only[AS,Ii]at q;refine oZ hp ?_;refine qC (c:=!(c==x)) (λh1=>?_) (λh1=>?_)
 .rw[h1,ib]at q;exact⟨M,.refl,q⟩
 rw[show(!(c==x))=pc from dG.mpr h1,fJ]at q;refine oZ hp ?_;refine qC (c:=z==x) (λh2=>?_) (λh2=>?_)
 .rw[h2]at q;exact⟨M,.refl,q⟩
 rw[de h2]at q;refine oZ rd.bd.at_ (i' Z' (oZ i1 ⟨Z',_,⟨Z',Z'⟩,V.p,l,Z',rd.pl,by lia,λq1 Yc=>i' pA ⟨Z',qp _,?_⟩⟩));obtain⟨M1,e0,t,_⟩:=uW (ds:=l.pn.map D.str) Yc;rw[<-e0];have X5:=rd.sub t;show if (!(inD (.str z) (l.pn.map D.str)))=Db then _ else _
 rw[sf];refine qC (c:=!(hasS l.pn z)) (λh3=>?_) (λh3=>?_)
 .rw[h3,ib]at q;exact⟨M,t,q⟩
 rw[show(!(hasS l.pn z))=pc from dG.mpr h3,fJ]at q;refine⟨A,V,l,c,z,Z',X5,Yt,?_⟩;refine qC (c:=!(xX l V c z)) (λh4=>?_) (λh4=>?_)
 .rw[h4]at q;exact⟨M,t,q⟩
 rw[de h4]at q;refine oZ X5.bd.at_ ⟨Z',_,⟨Z',Z'⟩,A,V,z,Z',X5.bd,X5.k,?_⟩;cases e:vw V z with
 | none=>rw[e]at q;rw[show Ao V z=.mC from by unfold Ao;rw[e];rfl];exact⟨M,t,q⟩
 | some j=>
  rw[show Ao V z=.int (j:Nat)from by unfold Ao;rw[e];rfl];have hj:j<V.calls.length:=(gS.mp e).1;have e2:V.calls[j]?=ga V.calls[j]:=cY hj;rw[e]at q;generalize V.calls[j]=k at e2;have q:Q (.bl (((V.calls[j]?).elim pc λk=>(k.ms.length==2)&&HD l x k.ms))) M:=q;rw[e2]at q;have hj:j<A.cs.length:=by rw[rd.bd.len];exact hj
  have ek:A.cs[j]?=ga A.cs[j]:=cY hj;obtain⟨ad,md,f1,f2,f3,f4,_⟩:=X5.bd.cs j _ k ek e2;refine oZ X5.bd.at_ (i' Z' (i' Z' (i' X5.bd.ca (i' (qZ ek) (oZ f1 (i' Z' ?_))))));refine i' f4 ?_;have el:((((k.ms.map D.str).length:Nat):Int)==2)=(k.ms.length==2):=by rw[cW,gm,fj,fj];lia
  show if ((((k.ms.map D.str).length:Nat):Int)==2)=Db then _ else _
  rw[el];have q:Q (.bl ((k.ms.length==2)&&HD l x k.ms)) M:=q;refine qC (c:=k.ms.length==2) (λh5=>?_) (λh5=>?_)
  .rw[h5,eK]at q;have hm:=rd.ms k (qQ e2);refine oZ (t _ _ hp) ⟨Z',_,⟨Z',Z'⟩,oZ X5.bd.at_ (i' Z' ⟨p,x,V.p,l,md,k.ms,Z',t _ _ hp,X5.pl,f4,hm.2,hx,hm.1,M,t,q⟩)⟩
  .rw[show(k.ms.length==2)=pc from dG.mpr h5,eR]at q;exact⟨M,t,q⟩
def Ni:Fq P w K mg base 1 a.q FZ:=by
 refine fq G.q.toDG Cf (λr u=>⟨_,(oY (pk wu)),?_⟩)
 rintro ds M Q ⟨x,y,rfl,q⟩
 exact⟨M,.refl,q⟩
def SN(G:Gl K mg a)(x y:Str)(n:Int):Fq P w K mg base 1 a.aw (QP a (.silent x y n)):=by
 refine fq G.aw.toDG Ac (λr u=>⟨_,(oY (pk (sN (qc u (r6 (pj U1) (sS (Fg o9)) sR) (qB (pZ (pj v0)))) (sv (qc u (pj v0) (pj U1)))))),?_⟩)
 rintro ds M Q ⟨p,L,k,c,rfl,hp,⟨ad,md,h1,h2,h3,h4,_⟩,q⟩
 refine oZ h1 (i' Z' (i' h2 λp1 YC=>?_));have t1:=qz.new (c:=.lst (L3.uM (c.way.map D.str) (ga (-1:Int)) Fa)) YC;have l1:oa (pq M p1 (.lst (L3.uM (c.way.map D.str) (ga (-1:Int)) Fa))) p1=ga ((c.way.map D.str).drop ((c.way.map D.str).length - 1)):=by rw[pA,Nl]
 show Aa (pq M p1 (.lst (L3.uM (c.way.map D.str) (ga (-1:Int)) Fa)) p) _;generalize pq M p1 (.lst (L3.uM (c.way.map D.str) (ga (-1:Int)) Fa))=M1 at t1 l1 ⊢;refine oZ (t1 _ _ hp) ⟨oV Z',λp2 Xx=>?_⟩;obtain⟨M2,e0,t2,l2⟩:=uW (ds:=[D.str x]) Xx;rw[<-e0];show Option.elim (za M2 9 (.ref p1) (.ref p2)) False _;have s2:=t1.trans t2;refine i' (Oq (t2.lst l1) l2) ?_;dsimp only[F4]at q;refine qC (c:=c.way.getLast?==ga x) (λg=>?_) (λg=>?_)
 .rw[g,eK]at q;exact oZ (s2 _ _ hp) (oZ (s2 _ _ h1) ⟨M,s2,q⟩)
 .rw[show(c.way.getLast?==ga x)=pc from dG.mpr g,eR]at q;exact⟨M,s2,q⟩
def SD:∀C sp,LV a C sp->xI P w K mg base 6 "fits" C (NV K sp):=by
 rintro C sp ⟨v,rfl,rfl⟩
 cases v with
 | bar x ns=>exact⟨G.t.toCls,_,_,_,G.aB.mW,Lc G x ns,G.aB.b⟩
 | shut x ns=>exact⟨G.u.toCls,_,_,_,G.aC.mW,Mh G x ns,G.aC.b⟩
 | always x y=>exact⟨G.x.toCls,_,_,_,G.aD.mW,KU G x y,G.aD.b⟩
 | night x y f m=>exact⟨G.n.toCls,_,_,_,G.aE.mW,Ml G x y f m,G.aE.b⟩
 | busy x y=>exact⟨G.y.toCls,_,_,_,G.aF.mW,NF G x y,G.aF.b⟩
 | silent x y n=>exact⟨G.v.toCls,_,_,_,G.aG.mW,K6 G x y n,G.aG.b⟩
 | wait x=>exact⟨G.w.toCls,_,_,_,G.aH.mW,NB G x,G.aH.b⟩
 | breaks x=>exact⟨G.o.toCls,_,_,_,G.aI.mW,Mt G x,G.aI.b⟩
def Vp:∀C sp,GM a C sp->xI P w K mg base 1 "is_due" C (NV K sp):=by
 rintro C sp ⟨v,rfl,rfl⟩
 have F:=Ni (P:=P) (w:=w) (base:=base) G;cases v with
 | silent x y n=>exact⟨G.v.toCls,_,_,_,G.aw.mW,SN G x y n,G.aw.b⟩
 | bar _ _=>exact⟨G.t.toCls,_,_,_,G.ck,F,G.q.b⟩
 | shut _ _=>exact⟨G.u.toCls,_,_,_,G.cl,F,G.q.b⟩
 | always _ _=>exact⟨G.x.toCls,_,_,_,G.cm,F,G.q.b⟩
 | night _ _ _ _=>exact⟨G.n.toCls,_,_,_,G.cn,F,G.q.b⟩
 | busy _ _=>exact⟨G.y.toCls,_,_,_,G.co,F,G.q.b⟩
 | wait _=>exact⟨G.w.toCls,_,_,_,G.cp,F,G.q.b⟩
 | breaks _=>exact⟨G.o.toCls,_,_,_,G.cq,F,G.q.b⟩
def Jo{es pre post:T0 D}{d:D}(e:pre++d::post=tL 0 es):∃x,es[pre.length]?=ga x/\d=.tup [.int (pre.length:Nat),x]:=by
 have h:(tL 0 es)[pre.length]?=ga d:=by rw[<-e];simp
 rw[xY]at h;cases q:es[pre.length]? with
 | none=>rw[q]at h;cases h
 | some x=>rw[q]at h;refine⟨x,Z',?_⟩;have:=(dv h).symm;rw[kM]at this;exact this
def uL(n:Nat):∀es:T0 D,(tL n es).length=es.length:=λes=>by
 have h:∀i:Nat,(tL n es)[i]?=Fa↔es[i]?=Fa:=λi=>by rw[xY];cases es[i]?<;>simp
 have a:=(h es.length).mpr (fO (dq _));have b:=(h (tL n es).length).mp (fO (dq _));rw[List.getElem?_eq_none_iff]at a b;lia
def Ip{l:pz}{V:qa}{f:Wi->Bool}{tt:Ap}{ok:Mp->Prop}{Q:DK}{M:Mp}{rest:T0 (Option D)}(hl:V.on.length=l.mx.length)(h16:l.mx.length<=16)(mH:ok M) (ht:∀(i:Nat) (w:ve),l.mx[i]?=ga w->∀(y:Option D) (k:Bool->Mp->Prop),k (f w.2) M->tt (ga (.int (i:Nat))::y::rest) M k) (q:∀p,M p=Fa->Q (.ref p) (pq M p (.lst ((Ic l V f).map λn=>D.int (n:Nat))))):
  uV (QM 2 (xt (rG 0) (xt (rG 1) BU))) (QH (b3 (v3 1)) tt) (v3 0) ok Q (tL 0 (V.on.map D.bl)) [] (Fa::Fa::rest) M:=by
 have hz:=dP;refine yc (tL 0 (V.on.map D.bl)) (λpre acc U M'=>M=M'/\acc=((List.range pre.length).filter λi=>V.on.getD i pc&&(l.mx[i]?).elim pc λw=>f w.2).map (λn=>D.int (n:Nat))/\∃y1 y2,U=y1::y2::rest) (λ_ _ _ M' j=>by rw[<-j.1];exact mH) _ [] [] _ _ Z' ?_ ⟨Z',Z',Fa,Fa,Z'⟩ ?_ ?_
 .rw[uL,cW,hl];simp only[dN];lia
 .rintro pre d post e acc U M' ⟨rfl,rfl,y1,y2,rfl⟩ k k2 hk Zu
  obtain⟨x,hx,rfl⟩:=Jo e;rw[c9,dM,jQ,jf]at hk Zu;rw[dA]at hx;cases eo:V.on[pre.length]? with
  | none=>rw[eo]at hx;cases hx
  | some b=>
   rw[eo]at hx;have hx:D.bl b=x:=dv hx;subst hx;have hi:pre.length<l.mx.length:=by rw[<-hl];exact(cZ.mp eo).1
   have ew:l.mx[pre.length]?=ga l.mx[pre.length]:=cY hi;generalize l.mx[pre.length]=w0 at ew;have eg:V.on.getD pre.length pc=b:=by rw[gI,eo];rfl
   have no:(b&&f w0.2)=pc->k2 (ga (.int (pre.length:Nat))::ga (.bl b)::rest) M:=λg=>by refine Zu _ _ ⟨Z',?_,_,_,Z'⟩;rw[iE (by rw[eg,ew];show ¬(b&&f w0.2)=Db;rw[g];exact dC),iT,eN]
   refine⟨Z',?_⟩;show if b=Db then _ else _
   cases b with
   | false=>exact Ka (no Z')
   | true=>
    refine Qf (ht _ _ ew _ _ ?_);cases g:f w0.2 with
    | false=>exact Ka (no (by rw[g];rfl))
    | true=>refine Qf (hk _ _ _ ⟨Z',?_,_,_,Z'⟩);rw[iD (by rw[eg,ew];show(Db&&f w0.2)=Db;rw[g];rfl),iT,dI];rfl
 .rintro acc U M' ⟨rfl,rfl,y1,y2,rfl⟩ p hp
  rw[uL,cW];exact q p hp
def Br(h:sE a M rs ws){i:Nat}{w:ve}(e:ws[i]?=ga w):∃r,wF (rs.map D.ref) (i:Nat)=ga (.ref r)/\M r=ga (.ins (w.2.cls a) w.2.ny):=by
 have hi:i<rs.length:=by rw[h.1];exact(cZ.mp e).1
 exact⟨rs[i],uZ (by rw[dA,cY hi];rfl),h.2 i _ w (cY hi) e⟩
def LK(ds:T0 D)(m:Nat):L3.uM ds Fa (ga (m:Int))=ds.take m:=by
 unfold L3.uM;rw[HT.BL,HT.IE,j3,kK];by_cases h:m<=ds.length
 .rw[lT h]
 .rw[Nat.min_eq_right (by lia),fP,fm (by lia)]
def Hi(ds:T0 D)(m:Nat)(h:m<=ds.length):L3.uM ds (ga (m:Int)) Fa=ds.drop m:=by unfold L3.uM;rw[HT.BL,HT.IE,lT h];exact fm (by rw[gf];exact dq _)
def uk(l:pz)(V:qa):Prop:=∀z∈l.nm,(l.mE z=="turns")=Db->∃v,V.ps.find? (λp=>decide (p.1=z))=ga v/\0<=v.2/\v.2<=((l.mv z).length:Int)
def MV{V:qa}(h:uk l V){z:Str}(hz:z∈l.nm)(e:(l.mE z=="turns")=Db):sV (sX V.ps) (.inr z)=ga (.int (zM V z:Nat))/\zM V z<=(l.mv z).length:=by
 obtain⟨v,e1,e2,e3⟩:=h z hz e;have h1:zM V z=v.2.toNat:=by unfold zM;rw[e1];rfl
 have h2:sV (sX V.ps) (.inr z)=(V.ps.find? λp=>decide (p.1=z)).map λp=>D.int p.2:=yi (λp:Str×Int=>p.1) (λp=>D.int p.2) z V.ps;rw[h2,e1,h1];exact⟨by show ga (D.int v.2)=ga (.int (v.2.toNat:Nat));rw[Int.toNat_of_nonneg e2],by lia⟩
def HQ(a:Ad):rb:=λds M Q=>GH λA V l c z=>ds=[.ref A.b,.str c,.str z]/\Rd a M A V l/\z∈l.nm/\Q (xE (DX l V c z)) M
def On(a:Ad):rb:=λds M Q=>GH λA V l c z=>ds=[.ref A.b,.str c,.str z]/\Rd a M A V l/\z∈l.nm/\uk l V/\Q (names (xx l V c z)) M
def M9(a:Ad):rb:=λds M Q=>GH λA V l c z=>ds=[.ref A.b,.str c,.str z]/\Rd a M A V l/\z∈l.nm/\uk l V/\Q (HI l V c z).d M
def JX:rb:=λds M Q=>Dg λx r z=>ds=[.tup (.str x::r),.str z]/\Q (if (x=="wait")=Db then(vf.waits z).d else if (x=="break")=Db then(vf.breaks z).d else vf.barred.d) M
def rf(st:sO):T0 D:=st.map λs=>.tup [.str s.1,xE s.2]
def NO(a:Ad):rb:=λds M Q=>Tx λA V l c z r way=>ds=[.ref A.b,.str c,.str z,.ref r]/\Rd a M A V l/\z∈l.nm/\uk l V/\oa M r=ga (List.map D.str way)/\way.length<=8000000/\∀q M',qz M M'->M q=Fa->oa M' q=ga (rf (ut l V c z way).2)->Q (.tup [(ut l V c z way).1.d,.ref q]) M'
def FO{V:qa}{f:Wi->Bool}{i:Nat}(h:i∈Ic l V f):∃w,l.mx[i]?=ga w/\f w.2=Db:=by
 have h:=(fE.mp h).2;rw[dY]at h;cases e:l.mx[i]? with
 | none=>rw[e]at h;cases h.2
 | some w=>rw[e]at h;exact⟨w,Z',h.2⟩
def JD(l:pz)(way:QQQ):Nat:=(l.nm.filter λx=>!(hasS way x)).length
def Bd{l:pz}{z:Str}(hz:z∈l.nm)(h:hasS way z=pc):JD l (way++[z])<JD l way:=by
 unfold JD;have e:(l.nm.filter λx=>!(hasS (way++[z]) x))=(l.nm.filter λx=>!(hasS way x)).filter λx=>!(x==z):=by rw[List.filter_filter];refine List.filter_congr λx _=>?_;unfold hasS;rw[lR];show(!(way.any (·==x)||((z==x)||false)))=_;rw[ji,Bool.not_or,Bool.and_comm,lX]
 rw[e];refine Nat.lt_of_le_of_ne (gH _ _) λg=>?_;have:=ky.mp (List.Sublist.eq_of_length fY g) z (fE.mpr ⟨hz,by rw[h];rfl⟩);simp at this
def BF(ok:qY l){w:ve}(hw:w∈l.mx){z y:Str}(h:Jj z w.2=.inr y):y∈l.nm:=by
 have o:=ok.wo w hw;cases e:w.2 with
 | bar _ _=>rw[e]at h;cases h
 | shut _ _=>rw[e]at h;cases h
 | always x u=>rw[e]at h o;cases h;exact qM.mp o.2.1
 | night x u f m=>rw[e]at h o;cases h;exact qM.mp o.2.1
 | busy x u=>rw[e]at h o;cases h;exact qM.mp o.2.1
 | silent x u n=>rw[e]at h o;cases h;exact qM.mp o.2.1
 | wait _=>rw[e]at h;cases h
 | breaks _=>rw[e]at h;cases h
theorem Em(x:Str):∀ss:QQQ,x∈ss->AY (.str x) (ss.map D.str)=ga (ss.findIdx (·==x))
 | [],h=>by cases h
 | y::r,h=>by
  rw[d6,List.findIdx_cons];unfold AY;show(if (y==x)=Db then ga 0 else(AY (.str x) (r.map D.str)).map (·+1))=_;cases e:y==x with
  | true=>rfl
  | false=>
   rw[de dC];have hr:x∈r:=by
    rcases dz.mp h with g|g
    .rw[g,ft]at e;cases e
    .exact g
   rw[Em x r hr];rfl
def Il:Fq P w K mg base 7 a.aR (HQ a):=by
 refine fq G.aR.toDG Cq (λr u=>⟨_,(oX (pF 3 Cq (pj (pj v0)))
 (oY (pk (qe uH Z' G.F ub (pZ (qE Z' (ya (ix:=[Fa,Fa,ga 3,ga 0,ga 1,ga 2]) (N':=["i","on","wishes","board","caller","target"])) (uY Z' G.bO (pZ (pj v0))) (ue (n:=2) Z' (qh (qv 0) (qh (qv 1) sU))) (vU (W3.b3 (yR (ur U1) (yk (ur (E7 (R:=LV a) (pD U2 v0) (SD G) (r.mono (by first|decide|lia)) (rh U3 v4 v5))))))) v0)))))),?_⟩)
 rintro ds M Q ⟨A,V,l,c,z,rfl,rd,hz,q⟩
 obtain⟨ph,gr,ws,YZ,pr,gd,rs,i1,i2,i3,i4,i5,i6,i7,i8⟩:=rd.pl;refine oZ rd.bd.at_ (i' Z' (oZ i1 (i' Z' ?_)));refine oZ rd.bd.at_ (i' Z' (i' rd.bd.on ?_));refine Ip (rest:=[ga (.ref ws),ga (.ref A.b),ga (.str c),ga (.str z)]) rd.on rd.ok.w16 rd.bd.on (λi w0 ew y k hk=>?_) λp hp=>i' pA ⟨M,.new hp,q⟩;obtain⟨r,e1,e2⟩:=Br i8 ew;refine i' i4 (i' e1 (oZ e2 ⟨by cases w0.2<;>rfl,_,⟨w0.2,Z',Z'⟩,r,A,V,l,c,z,Z',e2,rd,hz,rd.ok.wo w0 (qQ ew),hk⟩))
def PV:Fq P w K mg base 5 a.aS (On a):=by
 refine fq G.aS.toDG sZ (λr u=>⟨_,(oX (pF 3 sZ (pR v0 G.c.toCls G.aK (AC G) r (rN U1 U2)))
 (oX (pJ (pB u (pR (pj v0) G.h.toCls G.aJ (xB G) r (pZ U2)) pb)
 (oY (pk (qe uH Z' G.F ub (pZ U3))))
 pE)
 (oX (pF 4 sZ (pR (pj v0) G.h.toCls G.V (uj G) r (pZ U2)))
 (oX (pF 5 sZ (zC u (pj v0) U2))
 (oX (uu (i:=6) sZ.nd Z' (Or.inl Z') Z' (ya (ix:=[Fa,ga 3]) (N':=["phone","free"])) (qF (pQ (r6 v4 (sS v5) sR) (r6 v4 sR (sS v5)))) (qv 0) (vU (pB u v0 U1)) v0)
 (oY (pk (qe uH Z' G.F ub (pZ (r6 v6 sR (sS o9))))))))))),?_⟩)
 rintro ds M Q ⟨A,V,l,c,z,rfl,rd,Yt,nx,q⟩
 have hz:=dP;have bd:=rd.bd;have pl:=rd.pl;obtain⟨ph,gr,ws,YZ,pr,gd,rs,i1,_⟩:=rd.pl;obtain⟨⟨_,tf,_⟩,_⟩:=rd.ok.of Yt;refine oZ bd.at_ ⟨Z',_,⟨Z',Z'⟩,A,V,l,c,z,Z',rd,Yt,λq1 M1 s1 Yc e1=>?_⟩;refine oZ (s1 _ _ bd.at_) (i' Z' (oZ (s1 _ _ i1) ⟨Z',_,⟨Z',Z'⟩,V.p,z,l,Z',pl.sub s1,?_⟩));unfold xx at q;cases e:l.mE z=="turns" with
 | false=>rw[e]at q;exact yQ (c:=!(l.mE z=="turns")) (by rw[e];rfl) (i' e1 ⟨M,s1,q⟩)
 | true=>
  obtain⟨hn,nl⟩:=MV nx Yt e;generalize zM V z=n at hn nl q;rw[e,df Z']at q;refine Ey (c:=!(l.mE z=="turns")) (by rw[e];rfl) ?_;refine oZ (s1 _ _ bd.at_) (i' Z' (oZ (s1 _ _ i1) ⟨Z',_,⟨Z',Z'⟩,V.p,z,l,Z',pl.sub s1,λq2 YY=>?_⟩));have s2:=s1.trans (qz.new (c:=.lst ((l.mv z).map D.str)) YY);have c2:=@pA M1 q2 ((l.mv z).map D.str);have e2:=(qz.new (c:=.lst ((l.mv z).map D.str)) YY).lst e1;generalize pq M1 q2 (.lst ((l.mv z).map D.str))=M2 at s2 c2 e2 ⊢;refine oZ (s2 _ _ bd.at_) (i' Z' (i' Z' (i' (s2.dk bd.nx) (i' hn ?_))));refine i' c2 λq3 hq3=>?_;rw[Hi _ n (by rw[cW];exact nl),<-kq];have t3:=qz.new (c:=.lst (((l.mv z).drop n).map D.str)) hq3;have c3':=@pA M2 q3 (((l.mv z).drop n).map D.str);generalize pq M2 q3 (.lst (((l.mv z).drop n).map D.str))=M3 at t3 c3' ⊢;refine i' (t3.lst c2) λq4 hq4=>?_;rw[LK,<-lY];obtain⟨M4,e0,t4,c4⟩:=uW (ds:=((l.mv z).take n).map D.str) hq4;rw[<-e0];refine i' (t4.lst c3') (i' c4 ?_);refine⟨by rw[cW,cW,gf,fg];lia,λq5 hq5=>i' pA ?_⟩;rw[<-dI];have t5:=qz.new (c:=.lst ((uT (l.mv z) n).map D.str)) hq5;have c5:=@pA M4 q5 ((uT (l.mv z) n).map D.str);show uV _ _ _ _ _ ((uT (l.mv z) n).map D.str) _ _ (pq M4 q5 (.lst ((uT (l.mv z) n).map D.str)));generalize pq M4 q5 (.lst ((uT (l.mv z) n).map D.str))=M5 at t5 c5 ⊢;have s5:=t3.trans (t4.trans t5);have e5:=s5.lst e2;have tl:(uT (l.mv z) n).length<=200:=by unfold uT;rw[c9,gf,fg];lia
  refine tF (f:=id) (t:=λd=>inD d ((um l V c z).map D.str)) c5 _ [] _ (by rw[cW];simp only[dN];lia) (λd hd k hk=>?_) (λd hd _ k hk=>?_) λq6 hq6=>?_
  .obtain⟨x,hx,rfl⟩:=dD.mp hd;exact i' e5 ⟨Z',qp _,hk⟩
  .obtain⟨x,hx,rfl⟩:=dD.mp hd;exact hk
  .have ef:[]++(List.filter (λd=>inD d ((um l V c z).map D.str)) ((uT (l.mv z) n).map D.str)).map id=((uT (l.mv z) n).filter λx=>hasS (um l V c z) x).map D.str:=by
    rw[d9,jb,hJ];have:((λd=>inD d ((um l V c z).map D.str))∘D.str)=λx=>hasS (um l V c z) x:=by funext x;exact sf _ _
    rw[this]
   rw[ef];refine i' pA λq7 hq7=>i' pA ?_;rw[show L3.uM (((uT (l.mv z) n).filter λx=>hasS (um l V c z) x).map D.str) Fa (ga (1:Int))=(((uT (l.mv z) n).filter λx=>hasS (um l V c z) x).take 1).map D.str from(LK _ 1).trans (lY).symm];exact⟨M,s2.trans (s5.trans ((qz.new hq6).trans (.new hq7))),q⟩
def Le:Fq P w K mg base 6 a.aT (M9 a):=by
 refine fq G.aT.toDG uR (λr u=>⟨_,(oX (pF 3 uR (pC (PV G) r G.aS (rh v0 U1 U2)))
 (oX (pJ (pB u (pM qm Z' G.g ql (pZ U3)) o9)
 (oY (pk (pI (rN pb U2))))
 pE)
 (oY (pk (pI (rh pb U2 U3)))))),?_⟩)
 rintro ds M Q ⟨A,V,l,c,z,rfl,rd,hz,nx,q⟩
 refine⟨A,V,l,c,z,Z',rd,hz,nx,?_⟩;unfold HI at q;cases e:xx l V c z with
 | nil=>rw[e]at q;exact⟨oV Z',M,.refl,q⟩
 | cons x r=>rw[e]at q;exact⟨oV Z',M,.refl,q⟩
def Kz:Fq P w K mg base 1 a.aU JX:=by
 refine fq G.aU.toDG Aj (λr u=>⟨_,(oX (pJ (pB u (pD v0 o9) pb)
 (oY (pk (pI (rN pb U1))))
 pE)
 (oX (pJ (pB u (pD v0 o9) pb)
 (oY (pk (pI (rN pb U1))))
 pE)
 (oY (pk (pI (pZ pb)))))),?_⟩)
 rintro ds M Q ⟨x,r,z,rfl,q⟩
 refine i' (zw _ _) (qC (c:=x=="wait") (λg=>?_) (λg=>?_))
 .rw[df g]at q;exact⟨oV Z',M,.refl,q⟩
 rw[de g]at q;refine i' (zw _ _) (qC (c:=x=="break") (λg=>?_) (λg=>?_))
 .rw[df g]at q;exact⟨oV Z',M,.refl,q⟩
 rw[de g]at q;exact⟨oV Z',M,.refl,q⟩
def Lz:Fq P w K mg base 8 a.aV (NO a):=by
 refine fq G.aV.toDG wC (λr u=>⟨_,(oX (pF 4 wC (qe sI Z' G.r so (pZ U3)))
 (oX (pF 5 wC (qB rO))
 (oX (Mn eQ (pB u U2 v4)
 (oX (pH (qH v4 (pZ U2)))
 (oX (pF 6 wC (pC (Il G) r G.aR (rh v0 U1 U2)))
 (oX (pH (qH v5 (pZ (pI (rN U2 v6)))))
 (oX (pJ (pB u (pM qm Z' G.g ql (pZ v6)) o9)
 (oY (pk (pI (rN (pC (Le G) r G.aT (rh v0 U1 U2)) v5))))
 pE)
 (oX (pF 7 wC (BJ (R:=Jy a) (pD (pj (pj v0)) (pD v6 o9)) (Ph G) (r.mono (by first|decide|lia))))
 (oX (pJ (pB u (pD v7 o9) pb)
 (oY (pk (pI (rN (pC (Kz G) r G.aU (rN v7 U2)) v5))))
 pE)
 (oY (pF 2 wC (pD v7 o9))))))))))
 (oY (pk (pI (rN (pI (rN pb (qe uH Z' G.F ub (pZ (r6 v4 (sS (xJ v4 (pZ U2))) sR))))) v5))))))),?_⟩)
 rintro ds M Q ⟨A,V,l,c,z0,r,YK,rfl,rd,hz0,nx,hr0,hw0,q⟩
 have hz:=dP;have p8:=rd.ok.p8;have g3:=rd.ok.g3;have nl:l.nm.length<=11:=by unfold pz.nm pz.pn pz.gn;rw[c9,cW,cW];lia
 refine i' hr0 λp1 YC=>⟨oV Z',λp2 Xx=>?_⟩;have t1:=qz.new (c:=.lst (YK.map D.str)) YC;have t2:=qz.new (c:=.lst []) Xx;have c1:oa (pq (pq M p1 (.lst (YK.map D.str))) p2 (.lst [])) p1=ga (YK.map D.str):=t2.lst pA;have c2:=@pA (pq M p1 (.lst (YK.map D.str))) p2 [];have n12:p2≠p1:=λy=>by rw[y,pK]at Xx;cases Xx
 have m2:M p2=Fa:=t1.none Xx;have s2:=t1.trans t2;generalize pq (pq M p1 (.lst (YK.map D.str))) p2 (.lst [])=M2 at c1 c2 s2 ⊢;refine⟨λm U M'=>∃z way st,qz M M'/\oa M' p1=ga (List.map D.str way)/\oa M' p2=ga (rf st)/\z∈l.nm/\JD l way<m/\way.length+m<=8000012/\st.length+m<=100/\wM l V c m z way st=ut l V c z0 YK/\∃y6 y7,U=[ga (.ref A.b),ga (.str c),ga (.str z),ga (.ref r),ga (.ref p1),ga (.ref p2),y6,y7],⟨l.nm.length+1,z0,YK,[],s2,c1,c2,hz0,Nat.lt_succ_of_le (gH _ _),by lia,by show 0+(l.nm.length+1)<=100;lia,Z',Fa,Fa,Z'⟩,?_⟩
 rintro m U M' ⟨z,way,st,sM,l1,l2,Yt,XD,hwl,hsl,er,y6,y7,rfl⟩
 obtain⟨m,rfl⟩:∃k,m=k+1:=⟨m - 1,by lia⟩;have q2:∀Xr,qz M Xr->oa Xr p2=ga (rf (wM l V c (m+1) z way st).2)->Q (.tup [(wM l V c (m+1) z way st).1.d,.ref p2]) Xr:=λXr s ll=>by rw[er]at ll ⊢;exact q p2 Xr s m2 ll
 clear q;unfold wM at er q2;refine i' l1 ⟨Z',qp way,?_⟩;show if (!(inD (.str z) (way.map D.str)))=Db then _ else _
 rw[sf];refine qC (c:=!(hasS way z)) (λh1=>?_) (λh1=>?_)
 rotate_left
 .
  have h1:hasS way z=Db:=by simpa using h1
  rw[df h1]at q2;refine⟨by show(oa M' p1).isSome=Db;rw[l1];rfl,i' l1 ⟨Z',qp _,i' (Em z way (qM.mp h1)) (i' l1 λp3 Y5=>?_)⟩⟩;have hle:way.findIdx (·==z)<=(way.map D.str).length:=by rw[cW];exact List.findIdx_le_length
  rw[Hi _ _ hle,<-kq];refine i' pA ⟨oV Z',oV Z',_,.refl,q2 _ (sM.trans (.new Y5)) ((qz.new Y5).lst l2)⟩
 have h1:hasS way z=pc:=by simpa using h1
 rw[h1,de dC]at er q2;refine⟨by show(oa M' p1).isSome=Db;rw[l1];rfl,i' l1 ⟨by rw[cW];lia,?_⟩⟩;have k3:qV p1 M' (pq M' p1 (.lst (way.map D.str++[D.str z]))):=.put;have s3:qz M (pq M' p1 (.lst (way.map D.str++[D.str z]))):=λx d hx=>by rw[tQ (FL hx YC)];exact sM x d hx
 have c3:=k3.lst n12 l2;have l3:oa (pq M' p1 (.lst (way.map D.str++[D.str z]))) p1=ga ((way++[z]).map D.str):=by rw[pA,dI];rfl
 generalize pq M' p1 (.lst (way.map D.str++[D.str z]))=M3 at s3 c3 l3 ⊢;refine⟨A,V,l,c,z,Z',rd.sub s3,Yt,?_⟩;generalize hf:DX l V c z=fs at er q2 ⊢;refine⟨by show(oa M3 p2).isSome=Db;rw[c3];rfl,oV Z',i' c3 ⟨by unfold rf;rw[cW];lia,?_⟩⟩;have es:rf st++[.tup [.str z,xE fs]]=rf (st++[(z,fs)]):=by unfold rf;rw[dI];rfl
 rw[es];have s4:qz M (pq M3 p2 (.lst (rf (st++[(z,fs)])))):=λx d hx=>by rw[tQ (FL hx m2)];exact s3 x d hx
 have c4:=@pA M3 p2 (rf (st++[(z,fs)]));have l4:oa (pq M3 p2 (.lst (rf (st++[(z,fs)])))) p1=ga ((way++[z]).map D.str):=qV.lst .put (dX n12) l3;generalize pq M3 p2 (.lst (rf (st++[(z,fs)])))=M4 at s4 c4 l4 ⊢;cases fs with
 | nil=>exact⟨A,V,l,c,z,Z',rd.sub s4,Yt,nx,oV Z',M4,.refl,q2 M4 s4 c4⟩
 | cons i fr=>
  obtain⟨w0,ew,_⟩:=FO (l:=l) (V:=V) (f:=AS l V c z) (i:=i) (by show i∈DX l V c z;rw[hf];exact dH);dsimp only at er q2;rw[ew]at er q2;dsimp only[Option.elim]at er q2;obtain⟨ph,gr,ws,YZ,pr,gd,rs,i1,i2,i3,i4,i5,i6,i7,i8⟩:=(rd.sub s4).pl;obtain⟨Z0,e1,e2⟩:=Br i8 ew;have hwo:=rd.ok.wo w0 (qQ ew);have Z1:∀y,Jj z w0.2=.inr y->y∈l.nm:=λy h=>BF rd.ok (qQ ew) h;refine oZ (s4 _ _ rd.bd.at_) (i' Z' (oZ i1 (i' Z' (i' (zw _ _) (i' i4 (i' e1 ?_))))));cases hv:w0.2 with
  | bar x ns=>rw[hv]at q2 e2;exact oZ e2 ⟨Z',_,.inl ⟨.inl Z',Z'⟩,Z0,Z',⟨"end",[],z,Z',oV Z',M4,.refl,q2 M4 s4 c4⟩⟩
  | shut x ns=>rw[hv]at q2 e2;exact oZ e2 ⟨Z',_,.inl ⟨.inr Z',Z'⟩,Z0,Z',⟨"end",[],z,Z',oV Z',M4,.refl,q2 M4 s4 c4⟩⟩
  | wait x=>rw[hv]at q2 e2;exact oZ e2 ⟨Z',_,.inr (.inr (.inl ⟨Z',Z'⟩)),Z0,_,_,_,Z',e2,Z',⟨"wait",_,z,Z',oV Z',M4,.refl,q2 M4 s4 c4⟩⟩
  | breaks x=>rw[hv]at q2 e2;exact oZ e2 ⟨Z',_,.inr (.inr (.inr ⟨Z',Z'⟩)),Z0,Z',⟨"break",_,z,Z',oV Z',M4,.refl,q2 M4 s4 c4⟩⟩
  | always x y=>rw[hv]at er e2 Z1;exact oZ e2 ⟨Z',_,.inr (.inl ⟨.inl Z',Z'⟩),Z0,_,_,_,Z',e2,Z',⟨m,fG _,y,way++[z],st++[(z,i::fr)],s4,l4,c4,Z1 y Z',by have:=Bd Yt h1;lia,by rw[c9];show way.length+1+m<=_;lia,by rw[c9];show st.length+1+m<=_;lia,er,_,_,Z'⟩⟩
  | night x y f mm=>rw[hv]at er e2 Z1;exact oZ e2 ⟨Z',_,.inr (.inl ⟨.inr (.inl Z'),Z'⟩),Z0,_,_,_,Z',e2,Z',⟨m,fG _,y,way++[z],st++[(z,i::fr)],s4,l4,c4,Z1 y Z',by have:=Bd Yt h1;lia,by rw[c9];show way.length+1+m<=_;lia,by rw[c9];show st.length+1+m<=_;lia,er,_,_,Z'⟩⟩
  | busy x y=>rw[hv]at er e2 Z1;exact oZ e2 ⟨Z',_,.inr (.inl ⟨.inr (.inr (.inl Z')),Z'⟩),Z0,_,_,_,Z',e2,Z',⟨m,fG _,y,way++[z],st++[(z,i::fr)],s4,l4,c4,Z1 y Z',by have:=Bd Yt h1;lia,by rw[c9];show way.length+1+m<=_;lia,by rw[c9];show st.length+1+m<=_;lia,er,_,_,Z'⟩⟩
  | silent x y n=>rw[hv]at er e2 Z1;exact oZ e2 ⟨Z',_,.inr (.inl ⟨.inr (.inr (.inr Z')),Z'⟩),Z0,_,_,_,Z',e2,Z',⟨m,fG _,y,way++[z],st++[(z,i::fr)],s4,l4,c4,Z1 y Z',by have:=Bd Yt h1;lia,by rw[c9];show way.length+1+m<=_;lia,by rw[c9];show st.length+1+m<=_;lia,er,_,_,Z'⟩⟩
noncomputable def yX(V:qa)(i:Nat)(c:pf):qa:={V with calls:=V.calls.set i c}
def rX(V:qa)(i:Nat)(c d:pf):yX (yX V i c) i d=yX V i d:=by unfold yX;rw[jC]
structure CI(a:Ad)(M:Mp)(A:tK)(V:qa)(i:Nat)(k:rB)(c:pf):Prop where
 bd:pG a M A V
 e1:A.cs[i]?=ga k
 e2:V.calls[i]?=ga c
noncomputable def cF(x:Str)(wy ad md:lf)(k:Nat):T0 (Str×D):=List.take (α:=Str×D) k [("state",.str "rings"),("caller",.str x),("way",.ref wy),("at",.ref ad),("members",.ref md),("holder",.mC),("since",.int 0)]
variable {M':Mp}{i:Nat}{k:rB}
section
variable {c:pf}
def CI.cell(h:CI a M A V i k c):rP a M (A.lists++V.fo) k c:=h.bd.cs i k c h.e1 h.e2
def CI.sub(h:CI a M A V i k c)(s:qz M M'):CI a M' A V i k c:=⟨h.bd.sub s,h.e1,h.e2⟩
def CI.put(h:CI a M A V i k c)(c':pf){ad md:lf}(ew:c'.way=c.way)(la:oa M ad=ga (c'.at_.map D.str))(lm:oa M md=ga (c'.ms.map D.str))(na:ad∉A.lists++V.fo)(nm:md∉A.lists++V.fo):
  CI a (pq M k.p (.ins a.e (rc c' k.wy ad md))) A (yX V i c') i k c'/\qO A M A (pq M k.p (.ins a.e (rc c' k.wy ad md))):=by
 obtain⟨b,s⟩:=h.bd.nU h.e1 h.e2 ew la lm na nm;refine⟨⟨b,h.e1,?_⟩,s⟩;show(V.calls.set i c')[i]?=ga c';rw[fC (cZ.mp h.e2).1]
end
inductive QU(i:Nat)(c:pf):Ev->pf->Prop
 | rings (ps:QQQ):QU i c (.rings i ps) (c.ring ps)
 | quiet:QU i c (.quiet i) c.mX
 | waits (x:Str):QU i c (.waits i x) (c.wait x)
 | talks (ms:QQQ):QU i c (.talks i ms) (c.mV ms)
 | held (x:Str):QU i c (.held i x) (c.hold x)
 | leaves (x:Str):QU i c (.leaves i x) (c.drop x)
 | over (w:Str):QU i c (.over i w) (c.over w)
def F2(a:Ad):rb:=λds M Q=>CQ λp x=>ds=[.ref p,.str x]/\M p=ga (.ins a.e [])/\∀M' wy ad md,qV p M M'->M wy=Fa->M ad=Fa->M md=Fa->ad≠wy->md≠wy->M' p=ga (.ins a.e (rc (xQ x) wy ad md))->oa M' wy=ga []->oa M' ad=ga []->oa M' md=ga []->Q .mC M'
def PN(a:Ad):rb:=λds M Q=>KA λA V i k c w=>ds=[.ref k.p,.str w]/\CI a M A V i k c/\∀M',qO A M A M'->pG a M' A (yX V i (c.over w))->Q .mC M'
def Nb(a:Ad):rb:=λds M Q=>KA λA V i k c x=>ds=[.ref k.p,.str x]/\CI a M A V i k c/\c.at_.length<=100/\c.ms.length<=100/\∀M',qO A M A M'->pG a M' A (yX V i (c.drop x))->Q .mC M'
def JN(a:Ad):rb:=λds M Q=>Tx λA V i k c e c'=>ds=[.ref k.p,Ev.d e]/\CI a M A V i k c/\c.at_.length<=100/\c.ms.length<=100/\QU i c e c'/\∀M',qO A M A M'->pG a M' A (yX V i c')->Q .mC M'
def Ou:Fq P w K mg base 1 a.aq (F2 a):=by
 refine fq G.aq.toDG Ff (λr u=>⟨_,(oX (pX v0 pb)
 (oX (pX v0 U1)
 (oX (pX v0 (qB rO))
 (oX (pX v0 (qB rO))
 (oX (pX v0 (qB rO))
 (oX (pX v0 rQ)
 (oX (pX v0 o9)
 (oY (pX v0 rQ))))))))),?_⟩)
 rintro ds M Q ⟨p,x,rfl,hb,q⟩
 refine oZ hb ⟨(G.j "state" Z'),by show 0<1000;decide,?_⟩;have k1:qV p M (pq M p (.ins a.e [("state",.str "rings")])):=.put;have b1:pq M p (.ins a.e [("state",.str "rings")]) p=ga (.ins a.e [("state",.str "rings")]):=pK;show uo _ _ _ _ (pq M p (.ins a.e [("state",.str "rings")]));generalize pq M p (.ins a.e [("state",.str "rings")])=N1 at k1 b1 ⊢;refine oZ b1 ⟨(G.j "caller" Z'),by show 1<1000;decide,?_⟩;have k2:=k1.trans (qV.put (p:=p) (c:=.ins a.e [("state",.str "rings"),("caller",.str x)]));have b2:pq N1 p (.ins a.e [("state",.str "rings"),("caller",.str x)]) p=ga (.ins a.e [("state",.str "rings"),("caller",.str x)]):=pK;show uo _ _ _ _ (pq N1 p (.ins a.e [("state",.str "rings"),("caller",.str x)]));generalize pq N1 p (.ins a.e [("state",.str "rings"),("caller",.str x)])=N2 at k2 b2 ⊢;refine⟨oV Z',λwy hwy=>?_⟩;obtain⟨n3,e3,k3,c3,b3⟩:=sQ (fs':=(cF x wy 0 0 3)) (c:=.lst []) b2 hwy;refine oZ e3 ⟨(G.j "way" Z'),by show 2<1000;decide,?_⟩;show uo _ _ _ _ (pq (pq N2 wy (.lst [])) p (.ins a.e (cF x wy 0 0 3)));generalize pq (pq N2 wy (.lst [])) p (.ins a.e (cF x wy 0 0 3))=N3 at k3 c3 b3 ⊢;have z1:M wy=Fa:=rC k2 b2 hwy;have kk3:=k2.trans k3;have l3:oa N3 wy=ga []:=sj c3;refine⟨oV Z',λad ZL=>?_⟩;obtain⟨n4,e4,k4,c4,b4⟩:=sQ (fs':=(cF x wy ad 0 4)) (c:=.lst []) b3 ZL;refine oZ e4 ⟨(G.j "at" Z'),by show 3<1000;decide,?_⟩;show uo _ _ _ _ (pq (pq N3 ad (.lst [])) p (.ins a.e (cF x wy ad 0 4)));generalize pq (pq N3 ad (.lst [])) p (.ins a.e (cF x wy ad 0 4))=N4 at k4 c4 b4 ⊢;have z2:M ad=Fa:=rC kk3 b3 ZL;have Zs:=kk3.trans k4;have naw:ad≠wy:=λz=>by rw[z,c3]at ZL;cases ZL
 have l4:=k4.lst (pO l3 b3) l3;have m4:oa N4 ad=ga []:=sj c4;refine⟨oV Z',λmd hmd=>?_⟩;obtain⟨n5,e5,k5,c5,b5⟩:=sQ (fs':=(cF x wy ad md 5)) (c:=.lst []) b4 hmd;refine oZ e5 ⟨(G.j "members" Z'),by show 4<1000;decide,?_⟩;show uo _ _ _ _ (pq (pq N4 md (.lst [])) p (.ins a.e (cF x wy ad md 5)));generalize pq (pq N4 md (.lst [])) p (.ins a.e (cF x wy ad md 5))=N5 at k5 c5 b5 ⊢;have z3:M md=Fa:=rC Zs b4 hmd;have Zt:=Zs.trans k5;have nmw:md≠wy:=λz=>by rw[z,pN l4]at hmd;cases hmd
 have l5:=k5.lst (pO l4 b4) l4;have m5:=k5.lst (pO m4 b4) m4;have o5:oa N5 md=ga []:=sj c5;refine oZ b5 ⟨(G.j "holder" Z'),by show 5<1000;decide,?_⟩;have k6:qV p N5 (pq N5 p (.ins a.e (cF x wy ad md 6))):=.put;have b6:pq N5 p (.ins a.e (cF x wy ad md 6)) p=ga (.ins a.e (cF x wy ad md 6)):=pK;show uo _ _ _ _ (pq N5 p (.ins a.e (cF x wy ad md 6)));generalize pq N5 p (.ins a.e (cF x wy ad md 6))=N6 at k6 b6 ⊢;refine oZ b6 ⟨(G.j "since" Z'),by show 6<1000;decide,?_⟩;have k7:=k6.trans (qV.put (p:=p) (c:=.ins a.e (cF x wy ad md 7)));have b7:pq N6 p (.ins a.e (cF x wy ad md 7)) p=ga (.ins a.e (cF x wy ad md 7)):=pK;rw[show vP "since" (.int 0) (cF x wy ad md 6)=(cF x wy ad md 7)from Z'];generalize pq N6 p (.ins a.e (cF x wy ad md 7))=N7 at k7 b7 ⊢;refine oZ b7 ⟨(G.j "word" Z'),by show 7<1000;decide,_,.refl,?_⟩;have k8:=k7.trans (qV.put (p:=p) (c:=.ins a.e (rc (xQ x) wy ad md)));exact q _ wy ad md (Zt.trans k8) z1 z2 z3 naw nmw pK (k8.lst (pO l5 b5) l5) (k8.lst (pO m5 b5) m5) (k8.lst (pO o5 b5) o5)
def IA:Fq P w K mg base 1 a.aa (PN a):=by
 refine fq G.aa.toDG GU (λr u=>⟨_,(oX (pX v0 pb)
 (oX (pX v0 U1)
 (oX (pX v0 (qB rO))
 (oX (pX v0 (qB rO))
 (oY (pX v0 rQ)))))),?_⟩)
 rintro ds M Q ⟨A,V,i,k,c,w0,rfl,h,q⟩
 obtain⟨ad,md,h1,h2,h3,h4,n1,n2⟩:=h.cell;refine oZ h1 ⟨(G.j "state" Z'),by show 8<1000;decide,?_⟩;obtain⟨g1,s1⟩:=h.put {c with st:="over"} Z' h3 h4 n1 n2;show uo _ _ _ _ (pq M k.p (.ins a.e (rc {c with st:="over"} k.wy ad md)));generalize pq M k.p (.ins a.e (rc {c with st:="over"} k.wy ad md))=M1 at g1 s1 ⊢;clear h1 h2 h3 h4 n1 n2;obtain⟨ad,md,h1,h2,h3,h4,n1,n2⟩:=g1.cell;refine oZ h1 ⟨(G.j "word" Z'),by show 8<1000;decide,?_⟩;obtain⟨g2,s2⟩:=g1.put {c with st:="over",wd:=some w0} Z' h3 h4 n1 n2;show uo _ _ _ _ (pq M1 k.p (.ins a.e (rc {c with st:="over",wd:=some w0} k.wy ad md)));generalize pq M1 k.p (.ins a.e (rc {c with st:="over",wd:=some w0} k.wy ad md))=M2 at g2 s2 ⊢;clear h1 h2 h3 h4 n1 n2;refine⟨oV Z',λp hp=>?_⟩;have t3:=qz.new (c:=.lst []) hp;have lp:=@pA M2 p [];have np:=g2.bd.mY hp;have Z2:=g2.sub t3;have s2':=s2.trans (.sub t3);generalize pq M2 p (.lst [])=M2' at t3 lp Z2 s2' ⊢;obtain⟨ad,md,h1,h2,h3,h4,n1,n2⟩:=Z2.cell;refine oZ h1 ⟨(G.j "at" Z'),by show 8<1000;decide,?_⟩;obtain⟨g3,s3⟩:=Z2.put {c with st:="over",wd:=some w0,at_:=[]} Z' lp h4 np n2;show uo _ _ _ _ (pq M2' k.p (.ins a.e (rc {c with st:="over",wd:=some w0,at_:=[]} k.wy p md)));generalize pq M2' k.p (.ins a.e (rc {c with st:="over",wd:=some w0,at_:=[]} k.wy p md))=M3 at g3 s3 ⊢;clear h1 h2 h3 h4 n1 n2 lp t3 np g2 Z2;refine⟨oV Z',λp2 Xx=>?_⟩;have t4:=qz.new (c:=.lst []) Xx;have lp:=@pA M3 p2 [];have np:=g3.bd.mY Xx;have Z3:=g3.sub t4;have s3':=s3.trans (.sub t4);generalize pq M3 p2 (.lst [])=M3' at t4 lp Z3 s3' ⊢;obtain⟨ad,md,h1,h2,h3,h4,n1,n2⟩:=Z3.cell;refine oZ h1 ⟨(G.j "members" Z'),by show 8<1000;decide,?_⟩;obtain⟨g4,s4⟩:=Z3.put {c with st:="over",wd:=some w0,at_:=[],ms:=[]} Z' h3 lp n1 np;rw[show vP "members" (.ref p2) (rc {c with st:="over",wd:=some w0,at_:=[]} k.wy ad md)=rc {c with st:="over",wd:=some w0,at_:=[],ms:=[]} k.wy ad p2 from rfl];generalize pq M3' k.p (.ins a.e (rc {c with st:="over",wd:=some w0,at_:=[],ms:=[]} k.wy ad p2))=M4 at g4 s4 ⊢;clear h1 h2 h3 h4 n1 n2 lp t4 np g3 Z3;obtain⟨ad,md,h1,h2,h3,h4,n1,n2⟩:=g4.cell;refine oZ h1 ⟨(G.j "holder" Z'),by show 8<1000;decide,_,.refl,?_⟩;obtain⟨g5,s5⟩:=g4.put (c.over w0) Z' h3 h4 n1 n2;refine q _ ((s1.trans s2').trans (s3'.trans (s4.trans s5))) ?_;have:=g5.bd;rw[rX,rX,rX,rX]at this;exact this
def L1:Fq P w K mg base 1 a.aP (Nb a):=by
 refine fq G.aP.toDG C9 (λr u=>⟨_,(oX (pX v0 (qE Z' (ya (ix:=[Fa,ga 1]) (N':=["other","phone"])) (qF (pj v0)) (qv 0) (vU (pB u v0 U1)) v0))
 (oY (pX v0 (qE Z' (ya (ix:=[Fa,ga 1]) (N':=["other","phone"])) (qF (pj v0)) (qv 0) (vU (pB u v0 U1)) v0)))),?_⟩)
 rintro ds M Q ⟨A,V,i,k,c,x,rfl,h,la,lm,q⟩
 have hz:=dP;obtain⟨ad,md,h1,h2,h3,h4,n1,n2⟩:=h.cell;refine oZ h1 (i' Z' (i' h3 (tF (f:=id) (t:=Os x) h3 _ [] _ (by rw[cW];simp only[dN];lia) (λd hd k0 hk=>?_) (λd hd _ k0 hk=>?_) λp hp=>?_)))
 .obtain⟨y,hy,rfl⟩:=dD.mp hd;exact hk
 .obtain⟨y,hy,rfl⟩:=dD.mp hd;exact hk
 rw[BY];obtain⟨M1,e0,t1,lp⟩:=uW (ds:=(sm c.at_ x).map D.str) hp;rw[<-e0];have np:=h.bd.mY hp;have h':=h.sub t1;have s1:qO A M A M1:=.sub t1;clear h1 h2 h3 h4 n1 n2;obtain⟨ad,md,h1,h2,h3,h4,n1,n2⟩:=h'.cell;refine oZ h1 ⟨(G.j "at" Z'),by show 8<1000;decide,?_⟩;obtain⟨g2,s2⟩:=h'.put {c with at_:=sm c.at_ x} Z' lp h4 np n2;rw[show vP "at" (.ref p) (rc c k.wy ad md)=rc {c with at_:=sm c.at_ x} k.wy p md from rfl];generalize pq M1 k.p (.ins a.e (rc {c with at_:=sm c.at_ x} k.wy p md))=M2 at g2 s2 ⊢;clear h1 h2 h3 h4 n1 n2 lp np;obtain⟨ad,md,h1,h2,h3,h4,n1,n2⟩:=g2.cell;refine oZ h1 (i' Z' (i' h4 (tF (f:=id) (t:=Os x) h4 _ [] _ (by rw[cW];simp only[dN];show 0+c.ms.length<=Uf;lia) (λd hd k0 hk=>?_) (λd hd _ k0 hk=>?_) λp2 Xx=>?_)))
 .obtain⟨y,hy,rfl⟩:=dD.mp hd;exact hk
 .obtain⟨y,hy,rfl⟩:=dD.mp hd;exact hk
 rw[BY];obtain⟨M3,e0,t3,lp⟩:=uW (ds:=(sm c.ms x).map D.str) Xx;rw[<-e0];have np:=g2.bd.mY Xx;have Z2:=g2.sub t3;have s3:qO A M2 A M3:=.sub t3;clear h1 h2 h3 h4 n1 n2;obtain⟨ad,md,h1,h2,h3,h4,n1,n2⟩:=Z2.cell;refine oZ h1 ⟨(G.j "members" Z'),by show 8<1000;decide,_,.refl,?_⟩;obtain⟨g4,s4⟩:=Z2.put (c.drop x) Z' h3 lp n1 np;refine q _ ((s1.trans s2).trans (s3.trans s4)) ?_;have:=g4.bd;rw[rX]at this;exact this
def Ke:Fq P w K mg base 2 a.aQ (JN a):=by
 refine fq G.aQ.toDG xH (λr u=>⟨_,(oX (pF 2 xH (pD U1 o9))
 (oY (pJ (pB u U2 pb)
 (oX (pX v0 pb)
 (oX (pX v0 (qe sI Z' G.r so (pZ (pD U1 o9))))
 (oY (pX v0 o9))))
 (oY (pJ (pB u U2 pb)
 (oY (pX v0 (qB rO)))
 (oY (pJ (pB u U2 pb)
 (oX (pX v0 pb)
 (oY (pX v0 (qB (pZ (pD U1 o9))))))
 (oY (pJ (pB u U2 pb)
 (oX (pX v0 pb)
 (oX (pX v0 (qe sI Z' G.r so (pZ (pD U1 o9))))
 (oX (pX v0 (qB rO))
 (oY (pX v0 rQ)))))
 (oY (pJ (pB u U2 pb)
 (oX (pX v0 pb)
 (oY (pX v0 (pD U1 o9))))
 (oY (pJ (pB u U2 pb)
 (oY (pH (pC (L1 G) r G.aP (rN v0 (pD U1 o9)))))
 (oY (pJ (pB u U2 pb)
 (oY (pH (pC (IA G) r G.aa (rN v0 (pD U1 o9)))))
 pE))))))))))))))),?_⟩)
 rintro ds M Q ⟨A,V,i,k,c,e,c',rfl,h,la,lm,hc,q⟩
 cases hc with
 | over w0=>exact⟨A,V,i,k,c,w0,Z',h,λM' s b=>⟨M',.refl,q M' s b⟩⟩
 | leaves x=>exact⟨A,V,i,k,c,x,Z',h,la,lm,λM' s b=>⟨M',.refl,q M' s b⟩⟩
 | quiet=>refine⟨oV Z',λp hp=>?_⟩;obtain⟨M1,e0,t3,lp⟩:=uW (ds:=[]) hp;rw[<-e0];have np:=h.bd.mY hp;have g1:=h.sub t3;obtain⟨ad,md,h1,h2,h3,h4,n1,n2⟩:=g1.cell;refine oZ h1 ⟨(G.j "at" Z'),by show 8<1000;decide,_,.refl,?_⟩;obtain⟨g5,s5⟩:=g1.put c.mX Z' lp h4 np n2;exact q _ ((qO.sub t3).trans s5) g5.bd
 | waits x=>obtain⟨ad,md,h1,h2,h3,h4,n1,n2⟩:=h.cell;refine oZ h1 ⟨(G.j "state" Z'),by show 8<1000;decide,?_⟩;obtain⟨g1,s1⟩:=h.put {c with st:="waits"} Z' h3 h4 n1 n2;show uo _ _ _ _ (pq M k.p (.ins a.e (rc {c with st:="waits"} k.wy ad md)));generalize pq M k.p (.ins a.e (rc {c with st:="waits"} k.wy ad md))=M1 at g1 s1 ⊢;clear h1 h2 h3 h4 n1 n2;refine⟨oV Z',λp hp=>?_⟩;have t3:=qz.new (c:=.lst [D.str x]) hp;have lp:=@pA M1 p [D.str x];have np:=g1.bd.mY hp;have Zj:=g1.sub t3;generalize pq M1 p (.lst [D.str x])=M1' at t3 lp Zj ⊢;obtain⟨ad,md,h1,h2,h3,h4,n1,n2⟩:=Zj.cell;refine oZ h1 ⟨(G.j "at" Z'),by show 8<1000;decide,_,.refl,?_⟩;obtain⟨g5,s5⟩:=Zj.put (c.wait x) Z' lp h4 np n2;refine q _ (s1.trans ((qO.sub t3).trans s5)) ?_;have:=g5.bd;rw[rX]at this;exact this
 | held x=>obtain⟨ad,md,h1,h2,h3,h4,n1,n2⟩:=h.cell;refine oZ h1 ⟨(G.j "state" Z'),by show 8<1000;decide,?_⟩;obtain⟨g1,s1⟩:=h.put {c with st:="held"} Z' h3 h4 n1 n2;show uo _ _ _ _ (pq M k.p (.ins a.e (rc {c with st:="held"} k.wy ad md)));generalize pq M k.p (.ins a.e (rc {c with st:="held"} k.wy ad md))=M1 at g1 s1 ⊢;clear h1 h2 h3 h4 n1 n2;obtain⟨ad,md,h1,h2,h3,h4,n1,n2⟩:=g1.cell;refine oZ h1 ⟨(G.j "holder" Z'),by show 8<1000;decide,_,.refl,?_⟩;obtain⟨g5,s5⟩:=g1.put (c.hold x) Z' h3 h4 n1 n2;refine q _ (s1.trans s5) ?_;have:=g5.bd;rw[rX]at this;exact this
 | rings ps=>obtain⟨ad,md,h1,h2,h3,h4,n1,n2⟩:=h.cell;refine oZ h1 ⟨(G.j "state" Z'),by show 8<1000;decide,?_⟩;obtain⟨g1,s1⟩:=h.put {c with st:="rings"} Z' h3 h4 n1 n2;show uo _ _ _ _ (pq M k.p (.ins a.e (rc {c with st:="rings"} k.wy ad md)));generalize pq M k.p (.ins a.e (rc {c with st:="rings"} k.wy ad md))=M1 at g1 s1 ⊢;clear h1 h2 h3 h4 n1 n2;refine λp hp=>?_;have t3:=qz.new (c:=.lst (ps.map D.str)) hp;have lp:=@pA M1 p (ps.map D.str);have np:=g1.bd.mY hp;have Zj:=g1.sub t3;have s1':=s1.trans (.sub t3);generalize pq M1 p (.lst (ps.map D.str))=M1' at t3 lp Zj s1' ⊢;obtain⟨ad,md,h1,h2,h3,h4,n1,n2⟩:=Zj.cell;refine oZ h1 ⟨(G.j "at" Z'),by show 8<1000;decide,?_⟩;obtain⟨g3,s3⟩:=Zj.put {c with st:="rings",at_:=ps} Z' lp h4 np n2;rw[show vP "at" (.ref p) (rc {c with st:="rings"} k.wy ad md)=rc {c with st:="rings",at_:=ps} k.wy p md from rfl];generalize pq M1' k.p (.ins a.e (rc {c with st:="rings",at_:=ps} k.wy p md))=M3 at g3 s3 ⊢;clear h1 h2 h3 h4 n1 n2 lp t3 np;obtain⟨ad,md,h1,h2,h3,h4,n1,n2⟩:=g3.cell;refine oZ h1 ⟨(G.j "since" Z'),by show 8<1000;decide,_,.refl,?_⟩;obtain⟨g5,s5⟩:=g3.put (c.ring ps) Z' h3 h4 n1 n2;refine q _ (s1'.trans (s3.trans s5)) ?_;have:=g5.bd;rw[rX,rX]at this;exact this
 | talks ms=>obtain⟨ad,md,h1,h2,h3,h4,n1,n2⟩:=h.cell;refine oZ h1 ⟨(G.j "state" Z'),by show 8<1000;decide,?_⟩;obtain⟨g1,s1⟩:=h.put {c with st:="talks"} Z' h3 h4 n1 n2;show uo _ _ _ _ (pq M k.p (.ins a.e (rc {c with st:="talks"} k.wy ad md)));generalize pq M k.p (.ins a.e (rc {c with st:="talks"} k.wy ad md))=M1 at g1 s1 ⊢;clear h1 h2 h3 h4 n1 n2;refine λp hp=>?_;have t3:=qz.new (c:=.lst (ms.map D.str)) hp;have lp:=@pA M1 p (ms.map D.str);have np:=g1.bd.mY hp;have Zj:=g1.sub t3;have s1':=s1.trans (.sub t3);generalize pq M1 p (.lst (ms.map D.str))=M1' at t3 lp Zj s1' ⊢;obtain⟨ad,md,h1,h2,h3,h4,n1,n2⟩:=Zj.cell;refine oZ h1 ⟨(G.j "members" Z'),by show 8<1000;decide,?_⟩;obtain⟨g3,s3⟩:=Zj.put {c with st:="talks",ms:=ms} Z' h3 lp n1 np;show uo _ _ _ _ (pq M1' k.p (.ins a.e (rc {c with st:="talks",ms:=ms} k.wy ad p)));generalize pq M1' k.p (.ins a.e (rc {c with st:="talks",ms:=ms} k.wy ad p))=M3 at g3 s3 ⊢;clear h1 h2 h3 h4 n1 n2 lp t3 np;refine⟨oV Z',λp2 Xx=>?_⟩;have t4:=qz.new (c:=.lst []) Xx;have lp:=@pA M3 p2 [];have np:=g3.bd.mY Xx;have Z3:=g3.sub t4;have s3':=s3.trans (.sub t4);generalize pq M3 p2 (.lst [])=M3' at t4 lp Z3 s3' ⊢;obtain⟨ad,md,h1,h2,h3,h4,n1,n2⟩:=Z3.cell;refine oZ h1 ⟨(G.j "at" Z'),by show 8<1000;decide,?_⟩;obtain⟨g4,s4⟩:=Z3.put {c with st:="talks",ms:=ms,at_:=[]} Z' lp h4 np n2;rw[show vP "at" (.ref p2) (rc {c with st:="talks",ms:=ms} k.wy ad md)=rc {c with st:="talks",ms:=ms,at_:=[]} k.wy p2 md from rfl];generalize pq M3' k.p (.ins a.e (rc {c with st:="talks",ms:=ms,at_:=[]} k.wy p2 md))=M4 at g4 s4 ⊢;clear h1 h2 h3 h4 n1 n2 lp t4 np;obtain⟨ad,md,h1,h2,h3,h4,n1,n2⟩:=g4.cell;refine oZ h1 ⟨(G.j "holder" Z'),by show 8<1000;decide,_,.refl,?_⟩;obtain⟨g5,s5⟩:=g4.put (c.mV ms) Z' h3 h4 n1 n2;refine q _ (s1'.trans (s3'.trans (s4.trans s5))) ?_;have:=g5.bd;rw[rX,rX,rX]at this;exact this
theorem tD{α:Type}{f:α->α}:∀{l:List α} {i:Nat} {c:α},l[i]?=ga c->l.modify i f=l.set i (f c)
 | [],_,_,h=>by simp at h
 | _::_,0,_,h=>by cases h;rfl
 | x::r,i+1,c,h=>by rw[List.modify_succ_cons,kQ,tD (l:=r) (by simpa using h)]
def HF(ps:T0 (Str×Int))(z:Str)(n:Int):wz (sX ps) (.inr z) (.int n)=sX (Cp ps z n):=by
 have ea:((sX ps).any λkv=>decide (kv.1=(Sum.inr z:qL)))=ps.any λp=>decide (p.1=z):=by unfold sX;rw[jF];congr 1;funext p;have:((Sum.inr p.1:qL)=Sum.inr z)=(p.1=z):=propext ⟨λh=>jR h,λh=>by rw[h]⟩;simp only[Function.comp,this]
 unfold wz Cp;rw[ea];by_cases h:(ps.any λp=>decide (p.1=z))=Db
 .rw[df h,df h];unfold sX;rw[d4,d4];refine fN λp _=>?_;by_cases hp:p.1=z
  .simp[hp]
  .have:¬(Sum.inr p.1:qL)=Sum.inr z:=λy=>hp (jR y);simp[hp]
 .rw[de h,de h];unfold sX;rw[dI];rfl
def FS{α:Type}{l:List α}{i:Nat}{x:α}(h:l[i]?=ga x):l.set i x=l:=by obtain⟨hi,e⟩:=cZ.mp h;rw[<-e,List.set_getElem_self]
structure WM(V:qa):Prop where
 lo:V.log.length<10000000
 le:V.mG.length<10000000
 ca:V.calls.length<=1000000
 ps:V.ps.length<10000000
 cs:∀c∈V.calls,c.way.length<10000000/\c.at_.length<=100/\c.ms.length<=100
def AZ(a:Ad):rb:=λds M Q=>GH λA V k c v=>ds=[.ref A.b,rj.d v]/\CI a M A V v.i k c/\V.mG.length<10000000/\c.way.length<10000000/\∀M',qO A M A M'->pG a M' A {yX V v.i (c.go v.g)with mG:=V.mG++[v]}->Q .mC M'
def Df(a:Ad):rb:=λds M Q=>Ts λA V i j ki ci cj ms=>ds=[.ref A.b,.int (i:Nat),.int (j:Nat),names ms]/\CI a M A V i ki ci/\V.calls[j]?=ga cj/\i≠j/\V.mG.length<10000000/\∀M' A',A'.b=A.b->qO A M A' M'->pG a M' A' {yX (yX V i (ci.over "merged")) j (cj.mem ms)with mG:=V.mG.map (rj.to i j)}->Q .mC M'
def zH(a:Ad):rb:=λds M Q=>CQ λA V=>ds=[.ref A.b]/\pG a M A V/\∀M',qO A M A M'->pG a M' A {V with t:=V.t+1,calls:=V.calls.map pf.tick}->Q .mC M'
def vN(a:Ad):rb:=λds M Q=>Co λb A V e=>ds=[.ref b,Ev.d e]/\A.b=b/\pG a M A V/\WM V/\e.ok V/\∀M' A',A'.b=A.b->qO A M A' M'->pG a M' A' (pP V e)->Q .mC M'
noncomputable def Tj(m k:Nat):D->D
 | .tup (.int i::r)=>if i=(m:Int)then .tup (.int (k:Nat)::r)else .tup (.int i::r)
 | d=>d
def RF(m k:Nat)(v:rj):Tj m k v.d=(v.to m k).d:=by
 show(if ((v.i:Nat):Int)=(m:Int)then _ else _)=_;unfold rj.to;by_cases h:v.i=m
 .rw[df h,df (by rw[h])];rfl
 .rw[de h,de (by lia)];rfl
def Ih:Fq P w K mg base 1 a.bz (AZ a):=by
 refine fq G.bz.toDG zY (λr u=>⟨_,(oX (pH (qH (pj v0) (pZ U1)))
 (oY (pH (qH (pj (pD (pj v0) (pD U1 o9))) (pZ (pD U1 o9)))))),?_⟩)
 rintro ds M Q ⟨A,V,k,c,v,rfl,ci,l1,l2,q⟩
 have hz:=dP;have bd:=ci.bd;refine oZ bd.at_ (i' Z' ⟨by show(oa M A.le).isSome=Db;rw[bd.le];rfl,i' bd.le ⟨by rw[cW];lia,?_⟩⟩);obtain⟨b1,s1⟩:=bd.n9 (es:=V.mG++[v]);rw[dI]at b1 s1;have b1:pG a (pq M A.le (.lst (V.mG.map rj.d++[v.d]))) A {V with mG:=V.mG++[v]}:=b1;have s1:qO A M A (pq M A.le (.lst (V.mG.map rj.d++[v.d]))):=s1;generalize pq M A.le (.lst (V.mG.map rj.d++[v.d]))=M1 at b1 s1 ⊢;obtain⟨ad,md,h1,h2,h3,h4,n1,n2⟩:=b1.cs v.i k c ci.e1 ci.e2;refine oZ b1.at_ (i' Z' (i' b1.ca (i' (qZ ci.e1) (oZ h1 (i' Z' ⟨by show(oa M1 k.wy).isSome=Db;rw[h2];rfl,i' h2 ⟨by rw[cW];lia,?_⟩⟩)))));obtain⟨b2,s2⟩:=b1.oi (ws:=c.way++[v.g]) ci.e1 ci.e2;rw[dI]at b2 s2;exact⟨_,.refl,q _ (s1.trans s2) b2⟩
def MK:Fq P w K mg base 2 a.bA (Df a):=by
 refine fq G.bA.toDG xP (λr u=>⟨_,(oX (pH (pC (IA G) r G.aa (rN (pD (pj v0) U1) pb)))
 (oX (pX v0 (qE Z' (ya (ix:=[Fa,ga 1,ga 2]) (N':=["leg","merged","kept"])) (qF (pj v0)) (qv 0) rM (Jd (pB u (pD v0 o9) U1) (pQ (pI (pZ U2)) (r6 v0 (sS o9) sR)) v0)))
 (oX (pF 4 xP (pD (pj v0) U2))
 (oY (pX v4 (qe sI Z' G.r so (pZ U3))))))),?_⟩)
 rintro ds M Q ⟨A,V,i,j,ki,ci,cj,ms,rfl,hi,hj,Yn,l1,q⟩
 have hz:=dP;refine oZ hi.bd.at_ (i' Z' (i' Z' (i' hi.bd.ca (i' (qZ hi.e1) ⟨A,V,i,ki,ci,"merged",Z',hi,λM1 s1 b1=>?_⟩))));have hj1:(yX V i (ci.over "merged")).calls[j]?=ga cj:=by show(V.calls.set i _)[j]?=_;rw[fB Yn];exact hj
 have le1:oa M1 A.le=ga (V.mG.map rj.d):=b1.le;refine oZ b1.at_ (i' Z' (i' le1 (ra (f:=Tj i j) le1 _ [] _ (by rw[cW];simp only[dN];lia) (λd hd k hk=>?_) λp hp=>?_)))
 .obtain⟨v,_,rfl⟩:=dD.mp hd;refine i' Z' ?_;have hk:k (if ((v.i:Nat):Int)=(i:Int)then .tup [.int (j:Nat),.str v.f,.str v.g,.str v.y]else .tup [.int (v.i:Nat),.str v.f,.str v.g,.str v.y]) M1:=hk;refine qC (c:=((v.i:Nat):Int)==(i:Nat)) (λz=>?_) (λz=>?_)
  .rw[df (ZB z)]at hk;exact⟨oV Z',fH _ _,by show 1+3<=Uf;lia,hk⟩
  .rw[de (λy=>z (by rw[y];exact ft _))]at hk;exact hk
 have em:[]++(V.mG.map rj.d).map (Tj i j)=(V.mG.map (rj.to i j)).map rj.d:=by rw[d9,d4,d4];exact fN λv _=>RF i j v
 rw[em];obtain⟨b2,s2⟩:=b1.ou (es:=V.mG.map (rj.to i j)) hp;have t:=qz.new (c:=.lst ((V.mG.map (rj.to i j)).map rj.d)) hp;refine oZ (t _ _ b1.at_) ⟨(G.C "legs" Z'),by show 8<1000;decide,?_⟩;show uo _ _ _ _ (pq (pq M1 p (.lst ((V.mG.map (rj.to i j)).map rj.d))) A.b (.ins a.c (tJ (.ref V.p) V.h V.t A.ca p A.nx A.on A.lo)));have b2:pG a (pq (pq M1 p (.lst ((V.mG.map (rj.to i j)).map rj.d))) A.b (.ins a.c (tJ (.ref V.p) V.h V.t A.ca p A.nx A.on A.lo))) {A with le:=p} {yX V i (ci.over "merged")with mG:=V.mG.map (rj.to i j)}:=b2;have s2:qO A M1 {A with le:=p} (pq (pq M1 p (.lst ((V.mG.map (rj.to i j)).map rj.d))) A.b (.ins a.c (tJ (.ref V.p) V.h V.t A.ca p A.nx A.on A.lo))):=s2;generalize pq (pq M1 p (.lst ((V.mG.map (rj.to i j)).map rj.d))) A.b (.ins a.c (tJ (.ref V.p) V.h V.t A.ca p A.nx A.on A.lo))=M2 at b2 s2 ⊢;have hjk:j<A.cs.length:=by rw[hi.bd.len];exact(cZ.mp hj).1
 have ej:A.cs[j]?=ga A.cs[j]:=cY hjk;generalize A.cs[j]=kj at ej;have cj2:CI a M2 {A with le:=p} _ j kj cj:=⟨b2,ej,hj1⟩;refine oZ b2.at_ (i' Z' (i' Z' (i' b2.ca (i' (qZ ej) ?_))));refine λr hr0=>?_;obtain⟨M3,e0,t3,lr⟩:=uW (ds:=ms.map D.str) hr0;rw[<-e0];have nr:=b2.mY hr0;have cj3:=cj2.sub t3;obtain⟨ad,md,h1,h2,h3,h4,n1,n2⟩:=cj3.cell;refine oZ h1 ⟨(G.j "members" Z'),by show 8<1000;decide,_,.refl,?_⟩;obtain⟨g5,s5⟩:=cj3.put (cj.mem ms) Z' h3 lr n1 nr;exact q _ {A with le:=p} Z' (s1.trans (s2.trans ((qO.sub t3).trans s5))) g5.bd
def FM:Fq P w K mg base 1 a.bB (zH a):=by
 refine fq G.bB.toDG vh (λr u=>⟨_,(oX (Ed v0 o9)
 (oY (tT eQ Z' (qF (pj v0)) (rE 1 vh)
 (oY (pJ (pB u (pj U1) pb)
 (oY (Ed U1 o9))
 pE))))),?_⟩)
 rintro ds M Q ⟨A,V,rfl,bd,q⟩
 refine oZ bd.at_ ⟨(G.C "turn" Z'),i' Z' (i' Z' (oZ bd.at_ ⟨Z',by show 8<1000;decide,?_⟩))⟩;obtain⟨b1,s1⟩:=bd.putT (t:=V.t+1);rw[show vP "turn" (.int (V.t+1)) (tJ (.ref V.p) V.h V.t A.ca A.le A.nx A.on A.lo)=tJ (.ref V.p) V.h (V.t+1) A.ca A.le A.nx A.on A.lo from rfl];generalize pq M A.b (.ins a.c (tJ (.ref V.p) V.h (V.t+1) A.ca A.le A.nx A.on A.lo))=M1 at b1 s1 ⊢;refine oZ b1.at_ (i' Z' (i' b1.ca ?_));refine uN (A.cs.map λk=>D.ref k.p) (λpre U M'=>pG a M' A {V with t:=V.t+1,calls:=(V.calls.take pre.length).map pf.tick++V.calls.drop pre.length}/\qO A M A M'/\∃y,U=[ga (.ref A.b),y]) (λ_ _ M' j=>j.1.ca) _ [] _ _ Z' ⟨b1,s1,Fa,Z'⟩ ?_ ?_
 .rintro pre d post e U M' ⟨b2,s2,y,rfl⟩ nx Xv
  have hd:(A.cs.map λk=>D.ref k.p)[pre.length]?=ga d:=by rw[<-e];simp
  rw[dA]at hd;cases ek:A.cs[pre.length]? with
  | none=>rw[ek]at hd;cases hd
  | some k=>
   rw[ek]at hd;have hd:D.ref k.p=d:=dv hd;subst hd;have hi:pre.length<V.calls.length:=by rw[<-bd.len];exact(cZ.mp ek).1
   have ec:V.calls[pre.length]?=ga V.calls[pre.length]:=cY hi;have ed:V.calls.drop pre.length=V.calls[pre.length]::V.calls.drop (pre.length+1):=gP hi;have et:V.calls.take (pre.length+1)=V.calls.take pre.length++[V.calls[pre.length]]:=by rw[fU,ec];rfl
   generalize V.calls[pre.length]=c at ec ed et;have hl:((V.calls.take pre.length).map pf.tick).length=pre.length:=by rw[cW,fg];lia
   have ec2:((V.calls.take pre.length).map pf.tick++V.calls.drop pre.length)[pre.length]?=ga c:=by rw[eL (by rw[hl];exact dq _),hl,gp,ed];rfl
   rw[c9,dM,et]at Xv;have en:((V.calls.take pre.length).map pf.tick++V.calls.drop pre.length).set pre.length c.tick=(V.calls.take pre.length++[c]).map pf.tick++V.calls.drop (pre.length+1):=by rw[iK _ _ (by rw[hl];exact dq _),hl,gp,ed,dI,eY];rfl
   have ci:CI a M' A _ pre.length k c:=⟨b2,ek,ec2⟩;obtain⟨ad,md,h1,h2,h3,h4,n1,n2⟩:=ci.cell;refine oZ h1 (i' Z' ?_);have ht:c.tick=if (c.st=="rings")=Db then{c with si:=c.si+1}else c:=rfl;refine qC (c:=c.st=="rings") (λg=>?_) (λg=>?_)
   .rw[df g]at ht;refine oZ h1 ⟨(G.j "since" Z'),i' Z' (i' Z' (oZ h1 ⟨Z',by show 8<1000;decide,?_⟩))⟩;obtain⟨g5,s5⟩:=ci.put c.tick (by rw[ht]) (by rw[ht];exact h3) (by rw[ht];exact h4) n1 n2;have b5:=g5.bd;unfold yX at b5;rw[en]at b5;rw[ht]at b5 s5;exact Xv _ _ ⟨b5,s2.trans s5,_,Z'⟩
   .rw[de g]at ht;rw[ht,FS ec2]at en;rw[en]at b2;exact Xv _ _ ⟨b2,s2,_,Z'⟩
 .rintro U M' ⟨b2,s2,y,rfl⟩
  rw[cW,bd.len,fP,jB,eN]at b2;exact⟨M',.refl,q M' s2 b2⟩
def qS:Fq P w K mg base 3 a.k (vN a):=by
 refine fq G.k.toDG xW (λr u=>⟨_,(oX (pH (qH (pj v0) (pZ U1)))
 (oX (pF 2 xW (pD U1 o9))
 (oY (pJ (pB u U2 pb)
 (oY (pH (qH (pj v0) (pZ (vg (Ou G) r G.e G.cj G.aq.toDG (pZ (pD U1 o9)))))))
 (oY (pJ (pB u U2 pb)
 (oY (pH (pR v0 G.c.toCls G.bz (Ih G) r (pZ (r6 U1 (sS o9) sR)))))
 (oY (pJ (pB u U2 pb)
 (oY (Po u (pj v0) (pD U1 o9) (pD U1 o9)))
 (oY (pJ (pB u U2 pb)
 (oY (pH (pR v0 G.c.toCls G.bA (MK G) r (rh (pD U1 o9) (pD U1 o9) (pD U1 o9)))))
 (oY (pJ (pB u U2 pb)
 (oY (pH (vK v0 G.c.toCls G.bB (FM G) r)))
 (oY (pJ (pB u U2 (pI (rN pb pb)))
 (oY (R0 (qc u U2 pb) (Rg (pj v0) (pD U1 o9))))
 (oY (pJ (pB u U2 pb)
 (oY (pH (pC (Ke G) r G.aQ (rN (pD (pj v0) (pD U1 o9)) U1))))
 pE)))))))))))))))),?_⟩)
 rintro ds M Q ⟨_,A,V,e,rfl,rfl,bd,lim,ev,q⟩
 have hz:=dP;have ll:=lim.lo;have lc:=lim.ca;have lp:=lim.ps;refine oZ bd.at_ (i' Z' ⟨by show(oa M A.lo).isSome=Db;rw[bd.lo];rfl,i' bd.lo ⟨by rw[cW];lia,?_⟩⟩);have hb:=bd.oo (es:=V.log++[e]);rw[dI]at hb;obtain⟨b1,s1⟩:pG a (pq M A.lo (.lst (V.log.map Ev.d++[e.d]))) A (qI V e)/\qO A M A (pq M A.lo (.lst (V.log.map Ev.d++[e.d]))):=hb;show uo _ _ _ _ (pq M A.lo (.lst (V.log.map Ev.d++[e.d])));generalize pq M A.lo (.lst (V.log.map Ev.d++[e.d]))=M1 at b1 s1 ⊢;have Zv:∀i,i<V.calls.length->∃k c,A.cs[i]?=ga k/\V.calls[i]?=ga c/\c∈V.calls:=λi hi=>by
  have YD:i<A.cs.length:=by rw[bd.len];exact hi
  exact⟨_,_,cY YD,cY hi,ii hi⟩
 have chg:∀(i:Nat) (k:rB) (c:pf) (c':pf) (f:pf->pf),A.cs[i]?=ga k->V.calls[i]?=ga c->f c=c'->pP V e=xm (qI V e) i f->∀(M2:Mp),qO A M1 A M2->pG a M2 A (yX (qI V e) i c')->∃Xr,qz Xr M2/\Q .mC Xr:=λi k c c' f e1 e2 e3 e4 M2 s2 b2=>⟨M2,.refl,q M2 A Z' (s1.trans s2) (by
  rw[e4];unfold xm;rw[show(qI V e).calls=V.calls from rfl,tD e2,e3];exact b2)⟩
 cases e with
 | new n x=>refine oZ b1.at_ (i' Z' ⟨by show(oa M1 A.ca).isSome=Db;rw[b1.ca];rfl,λp hp=>⟨p,x,Z',pK,λM2 wy ad md kp z1 z2 z3 n1 n2 h1 h2 h3 h4=>⟨Z',?_⟩⟩⟩);have sp:=qz.new (c:=.ins a.e []) hp;have s2:qz M1 M2:=λy d hy=>kp y d (FL hy hp) (sp y d hy);refine i' (s2.lst b1.ca) ⟨by rw[cW,b1.len];show V.calls.length<Uf;lia,?_⟩;obtain⟨b3,s3⟩:=b1.nV s2 (c:=xQ x) hp (sp.none z1) (sp.none z2) (sp.none z3) h1 h2 h3 h4 n1 n2;exact⟨_,.refl,q _ (A.add ⟨p,wy⟩) Z' (s1.trans s3) b3⟩
 | leg v=>obtain⟨k,c,ek,ec,hc⟩:=Zv v.i ev;refine oZ b1.at_ ⟨Z',_,⟨Z',Z'⟩,A,qI V (.leg v),k,c,v,Z',⟨b1,ek,ec⟩,lim.le,(lim.cs c hc).1,λM2 s2 b2=>⟨M2,.refl,q M2 A Z' (s1.trans s2) ?_⟩⟩;show pG a M2 A {qI V (.leg v)with mG:=V.mG++[v],calls:=V.calls.modify v.i (·.go v.g)};rw[tD ec];exact b2
 | next z n=>refine oZ b1.at_ (i' Z' (i' b1.nx ⟨by show(sX V.ps).length<Uf;unfold sX;rw[cW];lia,?_⟩));rw[HF];obtain⟨b2,s2⟩:=b1.oQ (ps:=Cp V.ps z n);exact⟨_,.refl,q _ A Z' (s1.trans s2) b2⟩
 | merge i j ms=>obtain⟨hi,hj,hij,_⟩:=ev;obtain⟨ki,ci,eki,eci,hci⟩:=Zv i hi;obtain⟨kj,cj,ekj,ecj,hcj⟩:=Zv j hj;refine oZ b1.at_ ⟨Z',_,⟨Z',Z'⟩,A,qI V (.merge i j ms),i,j,ki,ci,cj,ms,Z',⟨b1,eki,eci⟩,ecj,hij,lim.le,λM2 A2 eb s2 b2=>⟨M2,.refl,q M2 A2 eb (s1.trans s2) ?_⟩⟩;show pG a M2 A2 {qI V (.merge i j ms)with calls:=(V.calls.modify i (·.over "merged")).modify j (·.mem ms),mG:=V.mG.map (rj.to i j)};rw[tD eci,tD (show(V.calls.set i _)[j]?=ga cj by rw[fB hij];exact ecj)];exact b2
 | asks i z ns=>exact⟨oV Z',Z',Z',M1,.refl,q M1 A Z' s1 b1⟩
 | turn=>exact oZ b1.at_ ⟨Z',_,⟨Z',Z'⟩,A,qI V .turn,Z',b1,λM2 s2 b2=>⟨M2,.refl,q M2 A Z' (s1.trans s2) b2⟩⟩
 | sw b i=>
  have hi:i<V.on.length:=ev;obtain⟨b2,s2⟩:=b1.oE (bs:=V.on.set i b);have es:(V.on.map D.bl).set i (.bl b)=(V.on.set i b).map D.bl:=(kS).symm;have ix:D3 (V.on.map D.bl).length (i:Nat)=ga i:=by rw[cW];unfold D3;simp[hi]
  have Xs:∃Xr,qz Xr (pq M1 A.on (.lst ((V.on.map D.bl).set i (.bl b))))/\Q .mC Xr:=by rw[es];exact⟨_,.refl,q _ A Z' (s1.trans s2) b2⟩
  cases b with
  | true=>exact⟨oV Z',Z',Z',oZ b1.at_ (i' Z' (i' b1.on (i' ix Xs)))⟩
  | false=>exact⟨oV Z',Z',Z',oZ b1.at_ (i' Z' (i' b1.on (i' ix Xs)))⟩
 | rings i ps=>obtain⟨k,c,ek,ec,hc⟩:=Zv i ev.1;exact⟨oV Z',Z',Z',oZ b1.at_ (i' Z' (i' b1.ca (i' (qZ ek) ⟨A,qI V _,i,k,c,_,_,Z',⟨b1,ek,ec⟩,(lim.cs c hc).2.1,(lim.cs c hc).2.2,.rings ps,chg i k c _ _ ek ec Z' Z'⟩)))⟩
 | quiet i=>obtain⟨k,c,ek,ec,hc⟩:=Zv i ev;exact⟨oV Z',Z',Z',oZ b1.at_ (i' Z' (i' b1.ca (i' (qZ ek) ⟨A,qI V _,i,k,c,_,_,Z',⟨b1,ek,ec⟩,(lim.cs c hc).2.1,(lim.cs c hc).2.2,.quiet,chg i k c _ _ ek ec Z' Z'⟩)))⟩
 | waits i x=>obtain⟨k,c,ek,ec,hc⟩:=Zv i ev;exact⟨oV Z',Z',Z',oZ b1.at_ (i' Z' (i' b1.ca (i' (qZ ek) ⟨A,qI V _,i,k,c,_,_,Z',⟨b1,ek,ec⟩,(lim.cs c hc).2.1,(lim.cs c hc).2.2,.waits x,chg i k c _ _ ek ec Z' Z'⟩)))⟩
 | talks i ms=>obtain⟨k,c,ek,ec,hc⟩:=Zv i ev.1;exact⟨oV Z',Z',Z',oZ b1.at_ (i' Z' (i' b1.ca (i' (qZ ek) ⟨A,qI V _,i,k,c,_,_,Z',⟨b1,ek,ec⟩,(lim.cs c hc).2.1,(lim.cs c hc).2.2,.talks ms,chg i k c _ _ ek ec Z' Z'⟩)))⟩
 | held i x=>obtain⟨k,c,ek,ec,hc⟩:=Zv i ev;exact⟨oV Z',Z',Z',oZ b1.at_ (i' Z' (i' b1.ca (i' (qZ ek) ⟨A,qI V _,i,k,c,_,_,Z',⟨b1,ek,ec⟩,(lim.cs c hc).2.1,(lim.cs c hc).2.2,.held x,chg i k c _ _ ek ec Z' Z'⟩)))⟩
 | leaves i x=>obtain⟨k,c,ek,ec,hc⟩:=Zv i ev;exact⟨oV Z',Z',Z',oZ b1.at_ (i' Z' (i' b1.ca (i' (qZ ek) ⟨A,qI V _,i,k,c,_,_,Z',⟨b1,ek,ec⟩,(lim.cs c hc).2.1,(lim.cs c hc).2.2,.leaves x,chg i k c _ _ ek ec Z' Z'⟩)))⟩
 | over i w0=>obtain⟨k,c,ek,ec,hc⟩:=Zv i ev;exact⟨oV Z',Z',Z',oZ b1.at_ (i' Z' (i' b1.ca (i' (qZ ek) ⟨A,qI V _,i,k,c,_,_,Z',⟨b1,ek,ec⟩,(lim.cs c hc).2.1,(lim.cs c hc).2.2,.over w0,chg i k c _ _ ek ec Z' Z'⟩)))⟩
noncomputable def Lv:QQQ:=["barred","ring","engaged","left","refused","done","merged"]
def QS(o:Bool)(c:pf):Prop:=(c.st="rings"/\c.ms=[]/\c.hd=Fa/\c.wd=Fa/\(o=Db->c.at_=[])/\(o=pc->c.at_≠[]))\/(o=pc/\((c.st="waits"/\c.ms=[]/\c.hd=Fa/\c.wd=Fa/\c.at_.length=1)\/(c.st="talks"/\(c.ms.length=2\/c.ms.length=3)/\c.hd=Fa/\c.wd=Fa/\c.at_=[])\/
 (∃x,c.st="held"/\c.ms.length=2/\c.hd=ga x/\x∈c.ms/\c.wd=Fa/\c.at_=[])\/(c.st="over"/\c.ms=[]/\c.hd=Fa/\c.at_=[]/\∃w∈Lv,c.wd=ga w)))
structure vT(l:pz)(o:Bool)(c:pf):Prop where
 sh:QS o c
 cr:c.cr∈l.pn
 at_:∀x∈c.at_,x∈l.pn
 ms:∀x∈c.ms,x∈l.pn
 an:c.at_.Nodup
 mn:c.ms.Nodup
 ca:c.cr∉c.at_
 wy:c.way≠[]/\∀z∈c.way,z∈l.nm
def Bo(c:pf)(x:Str):Prop:=c.mS x=Db\/c.mJ x=Db
structure zg(l:pz)(V:qa)(o:Option Nat):Prop where
 ok:∀(i:Nat) c,V.calls[i]?=ga c->vT l (o==ga i) c
 un:∀(i j:Nat) ci cj x,V.calls[i]?=ga ci->V.calls[j]?=ga cj->Bo ci x->Bo cj x->i=j
 ln:∀x∈l.pn,(uQ V x:Int)<=wJ l x
 wt:∀(i j:Nat) ci cj x,V.calls[i]?=ga ci->V.calls[j]?=ga cj->ci.mD x=Db->cj.mD x=Db->i=j
 nx:uk l V
abbrev WF(l:pz)(V:qa):Prop:=zg l V Fa
structure Sz(V:qa)(c n:Nat):Prop where
 lo:V.log.length<=n
 le:V.mG.length<=n
 ca:V.calls.length<=c
 ps:V.ps.length<=n
 cs:∀k∈V.calls,k.way.length<=n/\k.at_.length<=100/\k.ms.length<=100
def Sz.mono{V:qa}{c n c' n':Nat}(h:Sz V c n)(hc:c<=c')(hn:n<=n'):Sz V c' n':=⟨dZ h.lo hn,dZ h.le hn,dZ h.ca hc,dZ h.ps hn,λk hk=>⟨dZ (h.cs k hk).1 hn,(h.cs k hk).2⟩⟩
noncomputable def Ev.nw:Ev->Nat
 | .new _ _=>1
 | _=>0
def L'(ps:T0 (Str×Int))(z:Str)(n:Int):(Cp ps z n).length<=ps.length+1:=by
 unfold Cp;split
 .rw[cW];lia
 .rw[c9];exact dq _
def IG(ss:QQQ)(x:Str):(sm ss x).length<=ss.length:=gH _ _
def Es{α:Type}{f:α->α}{l:List α}{i:Nat}{x:α}(h:x∈l.modify i f):x∈l\/∃y∈l,x=f y:=by
 cases e:l[i]? with
 | none=>rw[kz (by simpa using e)]at h;exact .inl h
 | some c=>
  rw[tD e]at h;rcases List.mem_or_eq_of_mem_set h with g|g
  .exact .inl g
  .exact .inr ⟨c,fk e,g⟩
def Sz.step{V:qa}{c n:Nat}{e:Ev}(h:Sz V c n)(ok:e.ok V):Sz (pP V e) (c+e.nw) (n+1):=by
 have h1:Sz (qI V e) c (n+1):=⟨by show(V.log++[e]).length<=n+1;rw[c9];exact gA h.lo,gN h.le,h.ca,gN h.ps,λk hk=>⟨gN (h.cs k hk).1,(h.cs k hk).2⟩⟩;have md:∀(i:Nat) (f:pf->pf),(∀k∈V.calls,(f k).way=k.way/\(f k).at_.length<=100/\(f k).ms.length<=100)->Sz (xm (qI V e) i f) c (n+1):=λi f hf=>⟨h1.lo,h1.le,by show(V.calls.modify i f).length<=c;rw[fR];exact h.ca,h1.ps,λk hk=>by
  rcases Es hk with g|⟨y,hy,rfl⟩
  .exact h1.cs k g
  .obtain⟨a1,a2,a3⟩:=hf y hy;exact⟨by rw[a1];exact(h1.cs y hy).1,a2,a3⟩⟩
 cases e with
 | new m x=>
  refine⟨h1.lo,h1.le,by show(V.calls++[xQ x]).length<=c+1;rw[c9];exact gA h.ca,h1.ps,λk hk=>?_⟩;rcases dO.mp hk with g|g
  .exact h1.cs k g
  .rw[dh.mp g];exact⟨eU _,eU _,eU _⟩
 | leg v=>
  refine⟨h1.lo,by show(V.mG++[v]).length<=n+1;rw[c9];exact gA h.le,by show(V.calls.modify v.i _).length<=c;rw[fR];exact h.ca,h1.ps,λk hk=>?_⟩;rcases Es (l:=V.calls) hk with g|⟨y,hy,rfl⟩
  .exact h1.cs k g
  .exact⟨by show(y.way++[v.g]).length<=n+1;rw[c9];exact gA (h.cs y hy).1,(h.cs y hy).2⟩
 | asks i z ns=>exact h1
 | next z m=>exact⟨h1.lo,h1.le,h1.ca,dZ (L' _ _ _) (gA h.ps),h1.cs⟩
 | merge i j ms=>
  have m1:=md i (·.over "merged") λk hk=>⟨Z',eU _,eU _⟩;refine⟨h1.lo,by show(V.mG.map _).length<=n+1;rw[cW];exact h1.le,by show((V.calls.modify i _).modify j _).length<=c;rw[fR,fR];exact h.ca,h1.ps,λk hk=>?_⟩;rcases Es (l:=V.calls.modify i (·.over "merged")) hk with g|⟨y,hy,rfl⟩
  .exact m1.cs k g
  .exact⟨(m1.cs y hy).1,(m1.cs y hy).2.1,ok.2.2.2⟩
 | turn=>
  refine⟨h1.lo,h1.le,by show(V.calls.map pf.tick).length<=c;rw[cW];exact h.ca,h1.ps,λk hk=>?_⟩;obtain⟨y,hy,rfl⟩:=dD.mp hk;have e:y.tick.way=y.way/\y.tick.at_=y.at_/\y.tick.ms=y.ms:=by unfold pf.tick;split<;>exact⟨Z',Z',Z'⟩
  rw[e.1,e.2.1,e.2.2];exact h1.cs y hy
 | sw b i=>exact⟨h1.lo,h1.le,h1.ca,h1.ps,h1.cs⟩
 | rings i ps=>exact md i _ λk hk=>⟨Z',ok.2,(h.cs k hk).2.2⟩
 | quiet i=>exact md i _ λk hk=>⟨Z',eU _,(h.cs k hk).2.2⟩
 | waits i x=>exact md i _ λk hk=>⟨Z',by show 1<=100;decide,(h.cs k hk).2.2⟩
 | talks i ms=>exact md i _ λk hk=>⟨Z',eU _,ok.2⟩
 | held i x=>exact md i _ λk hk=>⟨Z',(h.cs k hk).2.1,(h.cs k hk).2.2⟩
 | leaves i x=>exact md i _ λk hk=>⟨Z',dZ (IG _ _) (h.cs k hk).2.1,dZ (IG _ _) (h.cs k hk).2.2⟩
 | over i w=>exact md i _ λk hk=>⟨Z',eU _,eU _⟩
def OW(V:qa)(e:Ev):(pP V e).fo=V.fo:=by cases e<;>rfl
def Rq(V:qa)(e:Ev):(pP V e).p=V.p/\(pP V e).h=V.h/\(pP V e).on.length=V.on.length:=by cases e<;>first|exact⟨Z',Z',Z'⟩|exact⟨Z',Z',ip⟩
structure uC(a:Ad)(M0 M:Mp)(b:lf)(A:tK)(V:qa)(l:pz)(c n:Nat):Prop where
 bd:pG a M A V
 oP:sP a M0 V.p l
 s0:qz M0 M
 fr:∀x∈A.foot,M0 x=Fa
 b:A.b=b
 sz:Sz V c n
 ok:qY l
 on:V.on.length=l.mx.length
variable {M0:Mp}{b:lf}{A':tK}{V':qa}{l:pz}{n:Nat}
section
variable {c:Nat}
def uC.at_(h:uC a M0 M b A V l c n):M b=ga (.ins a.c (tJ (.ref V.p) V.h V.t A.ca A.le A.nx A.on A.lo)):=h.b ▸ h.bd.at_
def uC.sub(h:uC a M0 M b A V l c n)(s:qz M M'):uC a M0 M' b A V l c n:=⟨h.bd.sub s,h.oP,h.s0.trans s,h.fr,h.b,h.sz,h.ok,h.on⟩
def uC.pl(h:uC a M0 M b A V l c n):sP a M V.p l:=h.oP.sub h.s0
def uC.mono(h:uC a M0 M b A V l c n){c' n':Nat}(hc:c<=c')(hn:n<=n'):uC a M0 M b A V l c' n':=⟨h.bd,h.oP,h.s0,h.fr,h.b,h.sz.mono hc hn,h.ok,h.on⟩
def uC.lim(h:uC a M0 M b A V l c n)(hc:c<=1000000)(hn:n<9000000):WM V:=⟨iC h.sz.lo (by lia),iC h.sz.le (by lia),dZ h.sz.ca hc,iC h.sz.ps (by lia),λk hk=>⟨iC (h.sz.cs k hk).1 (by lia),(h.sz.cs k hk).2⟩⟩
def uC.rd(h:uC a M0 M b A V l c n)(hc:c<=1000000){o:Option Nat}(wf:zg l V o):Rd a M A V l:=⟨h.bd,dZ h.sz.ca hc,h.pl,h.ok,h.on,λk hk=>by
 obtain⟨i,hi,e⟩:=gY hk;exact⟨(wf.ok i k (by rw[cY hi,e])).ms,(h.sz.cs k hk).2.2⟩⟩
def uC.call(h:uC a M0 M b A V l c n){i:Nat}{v:pf}(e:V.calls[i]?=ga v):∃k,CI a M A V i k v:=by
 have hi:i<A.cs.length:=by rw[h.bd.len];exact(cZ.mp e).1
 exact⟨A.cs[i],h.bd,cY hi,e⟩
def uC.after(h:uC a M0 M b A V l c n){e:Ev}(ok:e.ok V)(eb:A'.b=A.b)(st:qO A M A' M')(bd:pG a M' A' (pP V e)):uC a M0 M' b A' (pP V e) l (c+e.nw) (n+1):=by
 obtain⟨p1,p2,p3⟩:=Rq V e;refine⟨bd,p1 ▸ h.oP,λx d hx=>st.1 x d (λz=>?_) (h.s0 x d hx),λx hx=>?_,eb.trans h.b,h.sz.step ok,h.ok,p3.trans h.on⟩
 .rw[h.fr x z]at hx;cases hx
 .rcases st.2.1 x hx with z|z
  .exact h.fr x z
  .exact h.s0.none z
end
def GG(l:pz)(V:qa)(c:Str):vf->Prop
 | .rings z ps=>z∈l.nm/\ps≠[]/\ps=xx l V c z
 | .breaks z=>∃x,x=c/\Ii l V x c z=Db
 | .waits z=>z∈l.pn/\z≠c/\Aq V z=pc
 | .ring ns=>ns≠[]
 | _=>True
def GY{V:qa}{c z:Str}:(∀x∈xx l V c z,x∈um l V c z/\x∈l.mv z)/\(xx l V c z).length<=(l.mv z).length:=by
 have hr:∀x∈um l V c z,x∈l.mv z:=λx hx=>(fE.mp hx).1;unfold xx;split
 .refine⟨λx hx=>?_,?_⟩
  .have hx:=(fE.mp (kg hx)).2;have hx:=qM.mp hx;exact⟨hx,hr x hx⟩
  .cases e:(uT (l.mv z) (zM V z)).filter λx=>hasS (um l V c z) x with
   | nil=>exact eU _
   | cons y r=>
    have hy:y∈uT (l.mv z) (zM V z):=(fE.mp (by rw[e];exact dH)).1;have hy:y∈l.mv z:=by
     unfold uT at hy;rcases dO.mp hy with q|q
     .exact kh q
     .exact kg q
    rw[fg];have:=List.length_pos_of_mem hy;lia
 .exact⟨λx hx=>⟨hx,hr x hx⟩,gH _ _⟩
def OZ{l:pz}{V:qa}{c z:Str}(hz:z∈l.nm):GG l V c (HI l V c z):=by
 unfold HI;split
 .trivial
 .rename_i x r e;exact⟨hz,fH _ _,e.symm⟩
structure wH(l:pz)(V:qa)(c:Str)(n:Nat)(st:sO)(r:vf×sO):Prop where
 e:GG l V c r.1
 len:r.2.length<=st.length+n
 nm:∀s∈r.2,s∈st\/s.1∈l.nm
 wy:∀ns,r.1=.ring ns->∀z∈ns,z∈l.nm
theorem x8{V:qa}{c:Str}(ok:qY l):∀(n:Nat) (z:Str) (way:QQQ) (st:sO),z∈l.nm->(∀x∈way,x∈l.nm)->wH l V c n st (wM l V c n z way st)
 | 0,z,way,st,_,_=>⟨trivial,dq _,λs hs=>.inl hs,λns h=>by cases h⟩
 | n+1,z,way,st,hz,hw=>by
  unfold wM;by_cases h:hasS way z=Db
  .rw[df h];refine⟨?_,by show st.length<=_;lia,λs hs=>.inl hs,λns e y hy=>?_⟩
   .have h1:way.findIdx (·==z)<way.length:=List.findIdx_lt_length_of_exists ⟨z,qM.mp h,ft z⟩;show way.drop _≠[];intro g;have:=eI List.length g;rw[gf]at this;simp only[dN]at this;lia
   .cases e;exact hw y (kh hy)
  rw[de h];have sn:∀(fs:T0 Nat),∀s∈st++[(z,fs)],s∈st\/s.1∈l.nm:=λfs s hs=>by
   rcases dO.mp hs with g|g
   .exact .inl g
   .rw[dh.mp g];exact .inr hz
  have sl:∀fs:T0 Nat,(st++[(z,fs)]).length=st.length+1:=λfs=>by rw[c9];rfl
  cases hf:DX l V c z with
  | nil=>refine⟨OZ hz,by show(st++[(z,[])]).length<=_;rw[sl];lia,sn [],λns e=>?_⟩;have e:HI l V c z=.ring ns:=e;unfold HI at e;split at e<;>cases e
  | cons i r=>
   obtain⟨w,ew,X0⟩:=FO (l:=l) (V:=V) (f:=AS l V c z) (i:=i) (by show i∈DX l V c z;rw[hf];exact dH);dsimp only;rw[ew];dsimp only[Option.elim];have stop:∀e:vf,GG l V c e->(∀ns,e≠.ring ns)->wH l V c (n+1) st (e,st++[(z,i::r)]):=λe he XN=>⟨he,by show(st++[(z,i::r)]).length<=_;rw[sl];lia,sn _,λns g=>absurd g (XN ns)⟩
   have Yu:∀y,Jj z w.2=.inr y->wH l V c (n+1) st (wM l V c n y (way++[z]) (st++[(z,i::r)])):=λy hy=>by
    have hr:=x8 (V:=V) (c:=c) ok n y (way++[z]) (st++[(z,i::r)]) (BF ok (qQ ew) hy) λx hx=>by
     rcases dO.mp hx with g|g
     .exact hw x g
     .rw[dh.mp g];exact hz
    refine⟨hr.e,by have:=hr.len;rw[sl]at this;lia,λs hs=>?_,hr.wy⟩;rcases hr.nm s hs with g|g
    .exact sn _ s g
    .exact .inr g
   cases hv:w.2 with
   | bar x ns=>exact stop _ trivial λns g=>by cases g
   | shut x ns=>exact stop _ trivial λns g=>by cases g
   | wait x=>
    rw[hv]at X0;have hf2:(if (!(z==x)||(c==x))=Db then pc else xX l V c z&&!(Aq V z))=Db:=X0;have hx:xU l.pn x:=by have:=ok.wo w (qQ ew);rw[hv]at this;exact this
    by_cases g:(!(z==x)||(c==x))=Db
    .rw[df g]at hf2;cases hf2
    rw[de g]at hf2;simp only[hG,gM,ic,jo,dY]at g hf2;have ezx:=ZB g.1;subst ezx;exact stop _ ⟨qM.mp hx,λy=>g.2 (by rw[y];exact ft _),hf2.2⟩ λns g=>by cases g
   | breaks x=>
    rw[hv]at X0;refine stop _ ⟨x,?_,?_⟩ λns g=>by cases g
    .have X0:Ii l V x c z=Db:=X0;unfold Ii at X0;by_cases g:(!(c==x)||(z==x))=Db
     .rw[df g]at X0;cases X0
     .simp only[hG,gM,ic,jo]at g;exact(ZB g.1).symm
    .exact X0
   | always x y=>exact Yu y (by rw[hv];rfl)
   | night x y f m=>exact Yu y (by rw[hv];rfl)
   | busy x y=>exact Yu y (by rw[hv];rfl)
   | silent x y m=>exact Yu y (by rw[hv];rfl)
def GL{V:qa}{x c z:Str}(h:Ii l V x c z=Db):∃j k,vw V z=ga j/\V.calls[j]?=ga k/\k.st="talks"/\z∈k.ms/\k.ms.length=2/\z≠c:=by
 unfold Ii at h;by_cases g:(!(c==x)||(z==x))=Db
 .rw[df g]at h;cases h
 rw[de g]at h;simp only[hG,gM,ic,jo]at g;by_cases g2:(!(hasS l.pn z)||!(xX l V c z))=Db
 .rw[df g2]at h;cases h
 rw[de g2]at h;cases e:vw V z with
 | none=>rw[e]at h;cases h
 | some j=>obtain⟨hj,ht,_⟩:=gS.mp e;rw[e]at h;have h:((V.calls[j]?).elim pc λk=>(k.ms.length==2)&&HD l x k.ms)=Db:=h;rw[cY hj]at h;have h:((V.calls[j].ms.length==2)&&HD l x V.calls[j].ms)=Db:=h;unfold pf.mI at ht;rw[dY]at h ht;refine⟨j,V.calls[j],Z',cY hj,ZB ht.1,qM.mp ht.2,ZB h.1,λy=>?_⟩;rw[y]at g;have:=ZB g.1;rw[this,ft]at g;exact absurd Z' g.2
noncomputable def pf.bare(c:pf):pf:={c with way:=[]}
def tj(V V':qa):Prop:=V'.calls.map pf.bare=V.calls.map pf.bare
def tj.at_{V V':qa}(h:tj V V'){i:Nat}{c:pf}(e:V.calls[i]?=ga c):∃c',V'.calls[i]?=ga c'/\c'.bare=c.bare:=by
 have:=eI (·[i]?) h;simp only[dA,e]at this;cases e':V'.calls[i]? with
 | none=>rw[e']at this;cases this
 | some c'=>rw[e']at this;exact⟨c',Z',dv this⟩
def zd(f:pf->Bool)(hf:∀c,f c.bare=f c)(cs:List pf):(cs.map pf.bare).findIdx? f=cs.findIdx? f:=by rw[h9];congr 1;funext c;exact hf c
def tj.mV{V V':qa}(h:tj V V')(z:Str):vw V' z=vw V z:=by unfold vw;rw[<-zd _ (λ_=>rfl) V'.calls,h,zd _ (λ_=>rfl)]
def tj.ends{V V':qa}(h:tj V V')(i:Nat)(e:vf):rT l V' i e=rT l V i e:=by
 cases e with
 | breaks z=>
  unfold rT;dsimp only;rw[h.mV];have key:∀j:Nat,(V'.calls[j]?).map pf.bare=(V.calls[j]?).map pf.bare:=λj=>by
   have:=eI (·[j]?) h
   simpa only [dA]using this
  have ki:=key i;cases vw V z with
  | none=>rfl
  | some j=>
   have kj:=key j;cases e1:V.calls[i]? with
   | none=>rw[e1]at ki;rw[show V'.calls[i]?=Fa by cases q:V'.calls[i]? with|none=>rfl|some _=>rw[q]at ki;cases ki]
   | some c=>
    rw[e1]at ki;cases e2:V'.calls[i]? with
    | none=>rw[e2]at ki;cases ki
    | some c'=>
     rw[e2]at ki;have k1:c'.cr=c.cr:=by have kb:c'.bare=c.bare:=dv ki;exact show c'.bare.cr=c.bare.cr by rw[kb]
     have k2:(V'.calls[j]?).elim [] pf.ms=(V.calls[j]?).elim [] pf.ms:=by
      cases e3:V.calls[j]? with
      | none=>rw[e3]at kj;rw[show V'.calls[j]?=Fa by cases q:V'.calls[j]? with|none=>rfl|some _=>rw[q]at kj;cases kj]
      | some d=>
       rw[e3]at kj;cases e4:V'.calls[j]? with
       | none=>rw[e4]at kj;cases kj
       | some d'=>rw[e4]at kj;exact show d'.bare.ms=d.bare.ms by rw[show d'.bare=d.bare from dv kj]
     dsimp only;rw[k1,k2]
 | _=>rfl
def tj.trans{V V1 V2:qa}(h:tj V V1)(g:tj V1 V2):tj V V2:=Eq.trans g h
def uJ(V:qa)(v:rj):tj V (pP V (.leg v)):=by
 show(V.calls.modify v.i (·.go v.g)).map pf.bare=V.calls.map pf.bare;cases e:V.calls[v.i]? with
 | none=>rw[kz (by simpa using e)]
 | some c=>rw[tD e,kS,show(c.go v.g).bare=c.bare from rfl,FS (by rw[dA,e];rfl)]
def D6(V:qa)(i:Nat)(z:Str)(ns:T0 Nat):tj V (pP V (.asks i z ns)):=rfl
def tj.len{V V':qa}(h:tj V V'):V'.calls.length=V.calls.length:=by
 have:=eI List.length h
 rwa [cW,cW]at this
noncomputable def GP:Option Str->sO->Option Str
 | o,[]=>o
 | _,(z,_)::r=>GP (ga z) r
noncomputable def Ud(i:Nat)(z:Str)(fs:T0 Nat):Option Str->T0 Ev
 | none=>[.asks i z fs]
 | some y=>[.leg ⟨i,y,z,y⟩,.asks i z fs]
theorem yL(i:Nat)(z:Str)(fs:T0 Nat):∀(st:sO) (o:Option Str),qT i o (st++[(z,fs)])=qT i o st++Ud i z fs (GP o st)
 | [],none=>rfl
 | [],ga _=>rfl
 | (y,gs)::r,none=>by show .asks i y gs::qT i (ga y) (r++[(z,fs)])=_;rw[yL i z fs r];rfl
 | (y,gs)::r,ga u=>by show .leg ⟨i,u,y,u⟩::.asks i y gs::qT i (ga y) (r++[(z,fs)])=_;rw[yL i z fs r];rfl
theorem BS(z:Str)(fs:T0 Nat):∀(st:sO) (o:Option Str),GP o (st++[(z,fs)])=ga z
 | [],_=>rfl
 | _::r,_=>BS z fs r _
theorem ux(i:Nat):∀(st:sO) (o:Option Str) (V:qa),tj V (qA V (qT i o st))
 | [],_,V=>rfl
 | (y,gs)::r,Fa,V=>(D6 V i y gs).trans (ux i r (ga y) _)
 | (y,gs)::r,ga u,V=>((uJ V ⟨i,u,y,u⟩).trans (D6 _ i y gs)).trans (ux i r (ga y) _)
def PJ(a:Ad):rb:=λds M Q=>Lk λM0 b A V l c n i st r=>ds=[.ref b,.int ((i:Nat):Int),.ref r]/\uC a M0 M b A V l c n/\c<=1000000/\n<=8000000/\st.length<=100/\i<V.calls.length/\oa M r=ga (rf st)/\r∉A.foot/\∀M' A',uC a M0 M' b A' (qA V (qT i Fa st)) l c (n+2*st.length)->qO A M A' M'->Q .mC M'
def L5(a:Ad):rb:=λds M Q=>Lk λM0 b A V l c n i z ps=>ds=[.ref b,.int ((i:Nat):Int),.str z,names ps]/\uC a M0 M b A V l c n/\c<=1000000/\n<=8000000/\i<V.calls.length/\z∈l.nm/\ps≠[]/\(∀x∈ps,x∈l.mv z)/\ps.length<=100/\∀M' A',uC a M0 M' b A' (qA V (rT l V i (.rings z ps))) l c (n+2)->qO A M A' M'->Q .mC M'
def D0(l:pz)(V:qa)(i:Nat):vf->Prop
 | .rings z ps=>z∈l.nm/\ps≠[]/\(∀x∈ps,x∈l.mv z)/\ps.length<=100
 | .breaks z=>∃j k,vw V z=ga j/\V.calls[j]?=ga k/\i≠j/\k.ms.length=2
 | _=>True
def LX(a:Ad):rb:=λds M Q=>UL λM0 b A V l c n i z=>ds=[.ref b,.int ((i:Nat):Int),.str z]/\uC a M0 M b A V l c n/\c<=1000000/\n<=8000000/\i<V.calls.length/\D0 l V i (.breaks z)/\∀M' A',uC a M0 M' b A' (qA V (rT l V i (.breaks z))) l c (n+2)->qO A M A' M'->Q .mC M'
def Js(a:Ad):rb:=λds M Q=>UL λM0 b A V l c n i e=>ds=[.ref b,.int ((i:Nat):Int),vf.d e]/\uC a M0 M b A V l c n/\c<=1000000/\n<=8000000/\i<V.calls.length/\D0 l V i e/\∀M' A',uC a M0 M' b A' (qA V (rT l V i e)) l c (n+2)->qO A M A' M'->Q .mC M'
def Pv(a:Ad):rb:=λds M Q=>UL λM0 b A V l c n i k=>ds=[.ref b,.int ((i:Nat):Int)]/\uC a M0 M b A V l c n/\c<=1000000/\n<=7000000/\zg l V (ga i)/\V.calls[i]?=ga k/\∀M' A',uC a M0 M' b A' (qA V (uU l V i)) l c (n+30)->qO A M A' M'->Q .mC M'
def NR(a:Ad):rb:=λds M Q=>UL λM0 b A V l c n y z=>ds=[.ref b,.str y,.str z]/\uC a M0 M b A V l c n/\c<1000000/\n<=6000000/\zg l (qA V [.new V.calls.length y,.leg ⟨V.calls.length,y,z,y⟩]) (ga V.calls.length)/\∀M' A',uC a M0 M' b A' (qA V (EG l V y z)) l (c+1) (n+32)->qO A M A' M'->Q .mC M'
def Me{st:sO}{pre post:T0 D}{d:D}(e:pre++d::post=rf st):∃z fs,st[pre.length]?=ga (z,fs)/\d=.tup [.str z,xE fs]/\st.take (pre.length+1)=st.take pre.length++[(z,fs)]:=by
 have h:(rf st)[pre.length]?=ga d:=by rw[<-e];simp
 unfold rf at h;rw[dA]at h;cases q:st[pre.length]? with
 | none=>rw[q]at h;cases h
 | some s=>rw[q]at h;refine⟨s.1,s.2,Z',(dv h).symm,?_⟩;rw[fU,q];rfl
noncomputable def WC:Option Str->D
 | none=>.mC
 | some x=>.str x
def PZ{ss:QQQ}{x:Str}(h:ss.getLast?=ga x):wF (ss.map D.str) (-1)=ga (.str x):=by
 have hp:0<ss.length:=by cases ss with|nil=>cases h|cons _ _=>exact mf _
 unfold wF;have e:D3 (ss.map D.str).length (-1)=ga (ss.length - 1):=by
  rw[cW];unfold D3;have:¬((-1:Int)>=0):=by decide
  simp;lia
 rw[e];show(ss.map D.str)[ss.length - 1]?=_;rw[dA,<-jt,h];rfl
def KP(ds:T0 D):L3.uM ds Fa (ga (-1:Int))=ds.dropLast:=by
 unfold L3.uM;have e:HT.sW ds.length ds.length (ga (-1:Int))=ds.length - 1:=by show(if (-1:Int)<0 then((-1:Int)+(ds.length:Int)).toNat else min (-1:Int).toNat ds.length)=ds.length - 1;rw[df (by decide)];lia
 rw[e,HT.BL,j3,kK,List.dropLast_eq_take]
def Ot:Fq P w K mg base 4 a.a1 (PJ a):=by
 refine fq G.a1.toDG tP (λr u=>⟨_,(oX (pF 3 tP rQ)
 (oY (tT eQ Z' (qF U2) (ue (n:=2) Z' (qh (rE 4 tP) (qh (rE 5 tP) sU)))
 (oX (pJ (pB u U3 rQ)
 (oY (pH (pR v0 G.c.toCls G.k (qS G) r (pZ (pI (pV pb (pV U1 (rh U3 v4 U3))))))))
 pE)
 (oX (pH (pR v0 G.c.toCls G.k (qS G) r (pZ (pI (pV pb (rh U1 v4 v5))))))
 (oY (pF 3 tP v4))))))),?_⟩)
 rintro ds M Q ⟨M0,b,A,V,l,c,n,i,st,r,rfl,cu,hc,hn,XJ,hi,lr,nf,q⟩
 refine i' lr (uN (rf st) (λpre U M'=>(∃A',uC a M0 M' b A' (qA V (qT i Fa (st.take pre.length))) l c (n+2*pre.length)/\qO A M A' M')/\∃y4 y5,U=[ga (.ref b),ga (.int ((i:Nat):Int)),ga (.ref r),ga (WC (GP Fa (st.take pre.length))),y4,y5]) (λpre U M' j=>?_) _ [] _ _ Z' ⟨⟨A,cu,.refl⟩,Fa,Fa,Z'⟩ ?_ ?_)
 .obtain⟨⟨A',c1,X4⟩,_⟩:=j;exact sj (X4.1 r _ nf (pN lr))
 .rintro pre d post e U M' ⟨⟨A',c1,X4⟩,y4,y5,rfl⟩ nx Xv
  obtain⟨z,fs,es,rfl,et⟩:=Me e;have hp:pre.length<100:=dQ (cZ.mp es).1 XJ;rw[c9,dM,et,yL,BS]at Xv;have len:∀es,tj V (qA V es)->i<(qA V es).calls.length:=λes h=>by rw[h.len];exact hi
  have Yz:=len _ (ux i (st.take pre.length) Fa V);generalize hV:qA V (qT i Fa (st.take pre.length))=V1 at c1 Yz;rw[rA,hV]at Xv;refine⟨Z',?_⟩;dsimp only[rG,xt,BU];have asks:∀(M2:Mp) (A2:tK) (V2:qa) (m:Nat) (y3:Option D),m<9000000->uC a M0 M2 b A2 V2 l c m->qO A M A2 M2->(∀M3 A3,uC a M0 M3 b A3 (pP V2 (.asks i z fs)) l c (m+1)->qO A M A3 M3->nx [ga (.ref b),ga (.int ((i:Nat):Int)),ga (.ref r),ga (.str z),ga (.str z),ga (xE fs)] M3)->Aa (M2 b) λC fs'=>fs'.lookup ("apply":Str)=Fa/\∃sp,(C=a.c/\sp=vN a)/\4<=Uf/\sp [.ref b,.tup [.str "asks",.int ((i:Nat):Int),.str z,xE fs]] M2 λ_ M3=>nx [ga (.ref b),ga (.int ((i:Nat):Int)),ga (.ref r),ga (.str z),ga (.str z),ga (xE fs)] M3:=λM2 A2 V2 m y3 hm c2 s2 k=>oZ c2.at_ ⟨Z',_,⟨Z',Z'⟩,by rw[dP];decide,b,A2,V2,.asks i z fs,Z',c2.b,c2.bd,c2.lim hc hm,trivial,λM3 A3 eb s3 bd=>k M3 A3 (c2.after trivial eb s3 bd) (s2.trans s3)⟩;cases hl:GP Fa (st.take pre.length)with
  | none=>rw[hl]at Xv;refine asks M' A' V1 _ Fa (by lia) c1 X4 λM3 A3 c3 s3=>Xv _ _ ⟨⟨A3,c3.mono (dq _) (by lia),s3⟩,_,_,Z'⟩
  | some y=>rw[hl]at Xv;refine oZ c1.at_ ⟨Z',_,⟨Z',Z'⟩,oV Z',b,A',V1,.leg ⟨i,y,z,y⟩,Z',c1.b,c1.bd,c1.lim hc (by lia),Yz,λM2 A2 eb s2 bd=>?_⟩;have c2:=c1.after (e:=.leg ⟨i,y,z,y⟩) Yz eb s2 bd;refine asks M2 A2 _ _ Fa (by lia) c2 (X4.trans s2) λM3 A3 c3 s3=>Xv _ _ ⟨⟨A3,c3.mono (dq _) (by lia),s3⟩,_,_,Z'⟩
 .rintro U M' ⟨⟨A',c1,X4⟩,_⟩
  have hl:(rf st).length=st.length:=by unfold rf;rw[cW]
  rw[hl,fP]at c1;exact⟨M',.refl,q M' A' c1 X4⟩
def L4:Fq P w K mg base 4 a.a2 (L5 a):=by
 refine fq G.a2.toDG uz (λr u=>⟨_,(oX (pJ (pB u (pR (pj v0) G.h.toCls G.aJ (xB G) r (pZ U2)) pb)
 (oX (pF 4 uz (pR (pj v0) G.h.toCls G.V (uj G) r (pZ U2)))
 (oX (pF 5 uz (pQ (pQ (xJ v4 (pZ (pD U3 o9))) o9) (pM qm Z' G.g ql (pZ v4))))
 (oY (pH (pR v0 G.c.toCls G.k (qS G) r (pZ (pI (rh pb U2 v5))))))))
 pE)
 (oY (pH (pR v0 G.c.toCls G.k (qS G) r (pZ (pI (rh pb U1 U3))))))),?_⟩)
 rintro ds M Q ⟨M0,b,A,V,l,c,n,i,z,ps,rfl,cu,hc,hn,hi,hz,XN,hm,hps,q⟩
 obtain⟨ph,gr,ws,YZ,pr,gd,rs,i1,_⟩:=cu.pl;have pl:=cu.pl;obtain⟨x,ps',rfl⟩:=gc XN;obtain⟨⟨pne,_⟩,_⟩:=cu.ok.of hz;refine TH (t:=Qb _ _ _) (λU M'=>(∃A',uC a M0 M' b A' (qA V (if (l.mE z=="turns")=Db then[.next z (P8 (l.mv z) x)]else[])) l c (n+1)/\qO A M A' M')/\∃y1 y2,U=[ga (.ref b),ga (.int ((i:Nat):Int)),ga (.str z),ga (names (x::ps')),y1,y2]) (λnx h=>?_) ?_
 .refine oZ cu.at_ (i' Z' (oZ i1 ⟨Z',_,⟨Z',Z'⟩,V.p,z,l,Z',pl,?_⟩));refine qC (c:=l.mE z=="turns") (λg=>?_) (λg=>?_)
  .rw[df g]at h;refine oZ cu.at_ (i' Z' (oZ i1 ⟨Z',_,⟨Z',Z'⟩,V.p,z,l,Z',pl,λp hp=>?_⟩));obtain⟨M1,e0,t,lp⟩:=uW (ds:=(l.mv z).map D.str) hp;rw[<-e0];have cu':=cu.sub t;have st0:qO A M A M1:=.sub t;have ej:=Em x (l.mv z) (hm x dH);have lpos:0<(l.mv z).length:=fu.mpr pne;have el:(((l.mv z).map D.str).length:Int)=(l.mv z).length:=by rw[cW]
   refine⟨by show(oa M1 p).isSome=Db;rw[lp];rfl,i' (zw _ _) (i' lp ⟨Z',qp _,i' ej (i' lp ⟨by rw[el];lia,?_⟩)⟩)⟩;rw[el];refine oZ cu'.at_ ⟨Z',_,⟨Z',Z'⟩,oV Z',b,A,V,.next z (P8 (l.mv z) x),Z',cu'.b,cu'.bd,cu'.lim hc (by lia),trivial,λM2 A2 eb st Y0=>?_⟩;exact h _ _ ⟨⟨A2,cu'.after (e:=.next z (P8 (l.mv z) x)) trivial eb st Y0,st0.trans st⟩,_,_,Z'⟩
  .rw[de g]at h;exact h _ _ ⟨⟨A,cu.mono (dq _) (by lia),.refl⟩,_,_,Z'⟩
 rintro U M1 ⟨⟨A1,c1,X4⟩,y1,y2,rfl⟩
 have q:∀M' A',uC a M0 M' b A' (qA V ((if (l.mE z=="turns")=Db then[.next z (P8 (l.mv z) x)]else[])++[.rings i (x::ps')])) l c (n+2)->qO A M A' M'->Q .mC M':=q;rw[rA]at q;have Yz:i<(qA V (if (l.mE z=="turns")=Db then[.next z (P8 (l.mv z) x)]else[])).calls.length:=by
  split
  .exact hi
  .exact hi
 generalize qA V (if (l.mE z=="turns")=Db then[.next z (P8 (l.mv z) x)]else[])=V1 at c1 q Yz;refine oZ c1.at_ ⟨Z',_,⟨Z',Z'⟩,oV Z',b,A1,V1,.rings i (x::ps'),Z',c1.b,c1.bd,c1.lim hc (by lia),⟨Yz,hps⟩,λM2 A2 eb XM Y0=>?_⟩;exact⟨M2,.refl,q M2 A2 (c1.after (e:=.rings i (x::ps')) ⟨Yz,hps⟩ eb XM Y0) (X4.trans XM)⟩
def KO:Fq P w K mg base 4 a.a3 (LX a):=by
 refine fq G.a3.toDG xO (λr u=>⟨_,(oX (pF 3 xO (pR v0 G.c.toCls G.R (yz G) r (pZ U2)))
 (oX (pF 4 xO (pQ (qe uH Z' G.F ub (pZ (pj (pD (pj v0) U3)))) (pI (pZ (pj (pD (pj v0) U1))))))
 (oY (pH (pR v0 G.c.toCls G.k (qS G) r (pZ (pI (pV pb (rh U1 U3 v4))))))))),?_⟩)
 rintro ds M Q ⟨M0,b,A,V,l,c,n,i,z,rfl,cu,hc,hn,hi,⟨j,k,ej,ek,Yn,Zu⟩,q⟩
 have hz:=dP;have ei:V.calls[i]?=ga V.calls[i]:=cY hi;generalize V.calls[i]=ci at ei;obtain⟨ka,qi⟩:=cu.call ei;obtain⟨kb,qj⟩:=cu.call ek;obtain⟨ad,md,h1,h2,h3,h4,_⟩:=qi.cell;obtain⟨ad',md',g1,g2,g3,g4,_⟩:=qj.cell;have hee:rT l V i (.breaks z)=[.merge i j (k.ms++[ci.cr])]:=by unfold rT;dsimp only;rw[ej,ei];dsimp only;rw[ek];rfl
 rw[hee]at q;have ok:(Ev.merge i j (k.ms++[ci.cr])).ok V:=⟨hi,(cZ.mp ek).1,Yn,by rw[c9,Zu];show 3<=100;decide⟩;refine oZ cu.at_ ⟨Z',_,⟨Z',Z'⟩,A,V,z,by rw[cu.b],cu.bd,dZ cu.sz.ca hc,?_⟩;rw[show Ao V z=.int (j:Nat)from by unfold Ao;rw[ej];rfl];refine oZ cu.at_ (i' Z' (i' Z' (i' cu.bd.ca (i' (qZ qj.e1) (oZ g1 (i' Z' (i' g4 ?_)))))));refine oZ cu.at_ (i' Z' (i' Z' (i' cu.bd.ca (i' (qZ qi.e1) (oZ h1 (i' Z' ⟨oV Z',?_⟩))))));refine⟨(by intro y;rw[List.map_eq_nil_iff]at y;rw[y]at Zu;cases Zu),(by rw[cW,Zu];show 2+1<=Uf;lia),?_⟩;rw[show k.ms.map D.str++[D.str ci.cr]=(k.ms++[ci.cr]).map D.str by rw[dI];rfl];refine oZ cu.at_ ⟨Z',_,⟨Z',Z'⟩,oV Z',b,A,V,.merge i j (k.ms++[ci.cr]),Z',cu.b,cu.bd,cu.lim hc (by lia),ok,λM2 A2 eb XM Y0=>?_⟩;exact⟨M2,.refl,q M2 A2 ((cu.after ok eb XM Y0).mono (dq _) (by lia)) XM⟩
def OE:Fq P w K mg base 5 a.a4 (Js a):=by
 refine fq G.a4.toDG xy (λr u=>⟨_,(oX (pF 3 xy (pD U2 o9))
 (oY (pJ (pB u U3 pb)
 (oY (pH (pC (L4 G) r G.a2 (pV v0 (rh U1 (pD U2 o9) (pD U2 o9))))))
 (oY (pJ (pB u U3 pb)
 (oY (pH (pR v0 G.c.toCls G.k (qS G) r (pZ (pI (rh pb U1 (pD U2 o9)))))))
 (oY (pJ (pB u U3 pb)
 (oY (pH (pC (KO G) r G.a3 (rh v0 U1 (pD U2 o9)))))
 (oY (pH (pR v0 G.c.toCls G.k (qS G) r (pZ (pI (rh pb U1 U3))))))))))))),?_⟩)
 rintro ds M Q ⟨M0,b,A,V,l,c,n,i,e,rfl,cu,hc,hn,hi,he,q⟩
 have one:∀(ev:Ev) (ok:ev.ok V),ev.nw=0->rT l V i e=[ev]->∀M2 A2,A2.b=A.b->qO A M A2 M2->pG a M2 A2 (pP V ev)->∃Xr,qz Xr M2/\Q .mC Xr:=λev ok h0 h1 M2 A2 eb XM Y0=>by rw[h1]at q;have c2:=cu.after ok eb XM Y0;rw[h0]at c2;exact⟨M2,.refl,q M2 A2 (c2.mono (dq _) (by lia)) XM⟩
 cases e with
 | rings z ps=>exact⟨M0,b,A,V,l,c,n,i,z,ps,Z',cu,hc,hn,hi,he.1,he.2.1,he.2.2.1,he.2.2.2,λM' A' c1 st=>⟨M',.refl,q M' A' c1 st⟩⟩
 | waits z=>exact oZ cu.at_ ⟨Z',_,⟨Z',Z'⟩,oV Z',b,A,V,.waits i z,Z',cu.b,cu.bd,cu.lim hc (by lia),hi,one (.waits i z) hi Z' Z'⟩
 | breaks z=>exact⟨M0,b,A,V,l,c,n,i,z,Z',cu,hc,hn,hi,he,λM' A' c1 st=>⟨M',.refl,q M' A' c1 st⟩⟩
 | engaged z=>exact oZ cu.at_ ⟨Z',_,⟨Z',Z'⟩,oV Z',b,A,V,.over i "engaged",Z',cu.b,cu.bd,cu.lim hc (by lia),hi,one (.over i "engaged") hi Z' Z'⟩
 | barred=>exact oZ cu.at_ ⟨Z',_,⟨Z',Z'⟩,oV Z',b,A,V,.over i "barred",Z',cu.b,cu.bd,cu.lim hc (by lia),hi,one (.over i "barred") hi Z' Z'⟩
 | ring ns=>exact oZ cu.at_ ⟨Z',_,⟨Z',Z'⟩,oV Z',b,A,V,.over i "ring",Z',cu.b,cu.bd,cu.lim hc (by lia),hi,one (.over i "ring") hi Z' Z'⟩
def HZ{V:qa}{i:Nat}{k:pf}{e:vf}(ok:qY l)(wf:zg l V (ga i))(hk:V.calls[i]?=ga k)(h:GG l V k.cr e):D0 l V i e:=by
 cases e with
 | rings z ps=>obtain⟨hz,XN,rfl⟩:=h;have h1:=(GY (l:=l) (V:=V) (c:=k.cr) (z:=z));have h2:=(ok.of hz).1.2.1;exact⟨hz,XN,λx hx=>(h1.1 x hx).2,by have:=h1.2;lia⟩
 | breaks z=>
  obtain⟨x,rfl,hb⟩:=h;obtain⟨j,d,e1,e2,e3,e4,e5,_⟩:=GL hb;refine⟨j,d,e1,e2,λy=>?_,e5⟩;subst y;rw[hk]at e2;cases e2;have sh:=(wf.ok i k hk).sh;rw[show(ga i==ga i)=Db from ft _]at sh;rcases sh with g|g
  .rw[g.1]at e3;exact absurd e3 (by decide)
  .cases g.1
 | _=>trivial
def Ja:Fq P w K mg base 9 a.ac (Pv a):=by
 refine fq G.ac.toDG wc (λr u=>⟨_,(oX (pF 2 wc (pD (pj v0) U1))
 (oX (pF 3 wc (pC (Lz G) r G.aV (pV v0 (rh (pj U2) (pD (pj U2) (Fg o9)) (r6 (pj U2) sR (sS (Fg o9)))))))
 (oX (pF 4 wc (pD U3 o9))
 (oX (pF 5 wc (pD U3 o9))
 (oX (pH (pC (Ot G) r G.a1 (rh v0 U1 v5)))
 (oX (pJ (W3.b3 (yR (pB u (pD v4 o9) pb) (yk (pB u (pM qm Z' G.g ql (pZ v5)) o9))))
 (oX (pF 6 wc (pD (pD v5 (Fg o9)) o9))
 (oY (pH (pR v0 G.c.toCls G.k (qS G) r (pZ (pI (pV pb (pV U1 (rh v6 (pD (pD v4 o9) o9) v6)))))))))
 pE)
 (oY (pH (pC (OE G) r G.a4 (rh v0 U1 v4)))))))))),?_⟩)
 rintro ds M Q ⟨M0,b,A,V,l,c,n,i,k,rfl,cu,hc,hn,wf,hk,q⟩
 obtain⟨ka,ci⟩:=cu.call hk;obtain⟨ad,md,h1,h2,h3,h4,n1,n2⟩:=ci.cell;have Yd:=wf.ok i k hk;have hi:=(cZ.mp hk).1;obtain⟨z,hz⟩:∃z,k.way.getLast?=ga z:=by
  cases e:k.way.getLast? with
  | none=>exact absurd (gk.mp e) Yd.wy.1
  | some z=>exact⟨z,Z'⟩
 have Yt:z∈l.nm:=Yd.wy.2 z (ik hz);have hdn:∀x∈k.way.dropLast,x∈l.nm:=λx hx=>Yd.wy.2 x (il _ hx);have hwl:=(cu.sz.cs k (qQ hk)).1;have hev:uU l V i=qT i Fa (ut l V k.cr z k.way.dropLast).2++(sH i (ut l V k.cr z k.way.dropLast).2 (ut l V k.cr z k.way.dropLast).1++rT l V i (ut l V k.cr z k.way.dropLast).1):=by
  unfold uU;rw[hk];have:k.way.getLastD Str.empty=z:=by rw[gQ,hz];rfl
  dsimp only[Option.elim];rw[this]
 rw[hev]at q;have ro:wH l V k.cr (l.nm.length+1) [] (ut l V k.cr z k.way.dropLast):=x8 cu.ok _ _ _ _ Yt hdn;have rl:=ro.len;have eo:=HZ cu.ok wf hk ro.e;have nl:l.nm.length<=11:=by have p8:=cu.ok.p8;have g3:=cu.ok.g3;unfold pz.nm pz.pn pz.gn;rw[c9,cW,cW];lia
 have re:=ro.e;refine TH (t:=Dl _ _) (λU M'=>M=M'/\U=[ga (.ref b),ga (.int ((i:Nat):Int)),ga (.ref ka.p),Fa,Fa,Fa,Fa]) (λnx0 h=>oZ cu.at_ (i' Z' (i' Z' (i' ci.bd.ca (i' (qZ ci.e1) (h _ _ ⟨Z',Z'⟩)))))) ?_
 rintro U _ ⟨rfl,rfl⟩
 refine TH (t:=Dl _ _) (λU M'=>qz M M'/\∃r,M r=Fa/\oa M' r=ga (rf (ut l V k.cr z k.way.dropLast).2)/\U=[ga (.ref b),ga (.int ((i:Nat):Int)),ga (.ref ka.p),ga (.tup [(ut l V k.cr z k.way.dropLast).1.d,.ref r]),Fa,Fa,Fa]) (λnx0 h=>?_) ?_
 .refine oZ h1 (i' Z' (oZ h1 (i' Z' (i' h2 (i' (PZ hz) (oZ h1 (i' Z' (i' h2 λp hp=>?_))))))));rw[show L3.uM (k.way.map D.str) Fa (ga (-1:Int))=k.way.dropLast.map D.str from(KP _).trans (List.map_dropLast).symm];have t:=qz.new (c:=.lst (k.way.dropLast.map D.str)) hp;have lp:=@pA M p (k.way.dropLast.map D.str);refine⟨A,V,l,k.cr,z,p,k.way.dropLast,by rw[cu.b],(cu.rd hc wf).sub t,Yt,wf.nx,lp,by rw[List.length_dropLast];lia,λr M' s hr lr=>?_⟩;exact h _ _ ⟨t.trans s,r,t.none hr,lr,Z'⟩
 rintro U M1 ⟨s1,r,hr,lr,rfl⟩
 generalize ut l V k.cr z k.way.dropLast=R at lr ro rl eo re q;obtain⟨e,st⟩:=R;have cu1:=cu.sub s1;have rl:st.length<=0+(l.nm.length+1):=rl;refine⟨M0,b,A,V,l,c,n,i,st,r,Z',cu1,hc,by lia,by lia,hi,lr,cu.bd.nN hr,λM2 A2 c2 XM=>?_⟩;have same:=ux i st Fa V;have YD:i<(qA V (qT i Fa st)).calls.length:=by rw[same.len];exact hi
 have Z4:oa M2 r=ga (rf st):=sj (XM.1 r _ (cu.bd.nN hr) (pN lr));rw[rA,rA]at q;have hee:=λV' (h:tj V V')=>h.ends (l:=l) i e;have hat:∀V',tj V V'->D0 l V' i e:=λV' h=>by
  cases e with
  | breaks z'=>obtain⟨j,d,a1,a2,a3,a4⟩:=eo;obtain⟨d',b1,b2⟩:=h.at_ a2;exact⟨j,d',by rw[h.mV];exact a1,b1,a3,by rw[show d'.ms=d.ms from show d'.bare.ms=d.bare.ms by rw[b2]];exact a4⟩
  | rings _ _=>exact eo
  | _=>trivial
 generalize qA V (qT i Fa st)=V2 at c2 YD same q;have Yv:∀(M3:Mp) (A3:tK) (V3:qa),uC a M0 M3 b A3 V3 l c (n+2*st.length+1)->qO A M A3 M3->tj V V3->i<V3.calls.length->V3=qA V2 (sH i st e)->Js a [.ref b,.int ((i:Nat):Int),e.d] M3 λ_ M'=>∃Xr,qz Xr M'/\Q .mC Xr:=λM3 A3 V3 c3 s3 Yw hi3 e3=>⟨M0,b,A3,V3,l,c,_,i,e,Z',c3,hc,by lia,hi3,hat V3 Yw,λM4 A4 c4 s4=>⟨M4,.refl,q M4 A4 (by
  rw[<-e3];rw[hee V3 Yw]at c4;exact c4.mono (dq _) (by lia)) (s3.trans s4)⟩⟩
 have c2':=c2.mono (dq c) (show n+2*st.length<=n+2*st.length+1 by lia);have YL:=(qO.sub s1 (A:=A)).trans XM;cases e with
 | ring ns=>
  obtain⟨x,ns',rfl⟩:=gc (show ns≠[]from re);refine i' Z4 ?_;cases hl:st.getLast? with
  | none=>have:st=[]:=gk.mp hl;subst this;exact Yv M2 A2 V2 c2' YL same YD Z'
  | some s0=>
   have Zf:0<st.length:=by cases st with|nil=>cases hl|cons _ _=>exact mf _
   have hd:decide ((0:Int)<((rf st).length:Int))=Db:=dS (by unfold rf;rw[cW];lia);refine yQ (c:=decide ((0:Int)<((rf st).length:Int))) hd ?_;have hat1:wF (rf st) (-1)=ga (.tup [.str s0.1,xE s0.2]):=by
    unfold wF;have e1:D3 (rf st).length (-1)=ga (st.length - 1):=by unfold rf;rw[cW];unfold D3;simp;lia
    rw[e1];show(rf st)[st.length - 1]?=_;unfold rf;rw[dA,<-jt,hl];rfl
   have hrv:sH i st (.ring (x::ns'))=[.leg ⟨i,s0.1,x,s0.1⟩]:=by unfold sH;dsimp only;rw[hl];rfl
   rw[hrv]at Yv;refine i' Z4 (i' hat1 ?_);refine oZ c2.at_ ⟨Z',_,⟨Z',Z'⟩,i' (zw _ _) ⟨oV Z',b,A2,V2,.leg ⟨i,s0.1,x,s0.1⟩,Z',c2.b,c2.bd,c2.lim hc (by lia),YD,λM3 A3 eb X8 bd3=>?_⟩⟩;have Yw:=same.trans (uJ V2 ⟨i,s0.1,x,s0.1⟩);exact Yv M3 A3 _ (c2.after (e:=.leg ⟨i,s0.1,x,s0.1⟩) YD eb X8 bd3) (YL.trans X8) Yw (by rw[Yw.len];exact hi) Z'
 | rings z' ps=>exact Yv M2 A2 V2 c2' YL same YD Z'
 | waits z'=>exact Yv M2 A2 V2 c2' YL same YD Z'
 | breaks z'=>exact Yv M2 A2 V2 c2' YL same YD Z'
 | engaged z'=>exact Yv M2 A2 V2 c2' YL same YD Z'
 | barred=>exact Yv M2 A2 V2 c2' YL same YD Z'
def LW:Fq P w K mg base 10 a.a5 (NR a):=by
 refine fq G.a5.toDG zG (λr u=>⟨_,(oX (pF 3 zG (pM qm Z' G.g ql (pZ (pj v0))))
 (oX (pH (pR v0 G.c.toCls G.k (qS G) r (pZ (pI (rh pb U3 U1)))))
 (oX (pH (pR v0 G.c.toCls G.k (qS G) r (pZ (pI (pV pb (pV U3 (rh U1 U2 U1)))))))
 (oY (pH (pC (Ja G) r G.ac (rN v0 U3))))))),?_⟩)
 rintro ds M Q ⟨M0,b,A,V,l,c,n,y,z,rfl,cu,hc,hn,wf,q⟩
 have lc:((A.cs.map λk=>D.ref k.p).length:Int)=(V.calls.length:Nat):=by rw[cW,cu.bd.len]
 refine oZ cu.at_ (i' Z' (i' cu.bd.ca ?_));rw[lc];refine oZ cu.at_ ⟨Z',_,⟨Z',Z'⟩,oV Z',b,A,V,.new V.calls.length y,Z',cu.b,cu.bd,cu.lim (by lia) (by lia),trivial,λM1 A1 eb1 X4 bd1=>?_⟩;have c1:=cu.after (e:=.new V.calls.length y) trivial eb1 X4 bd1;have ok2:(Ev.leg ⟨V.calls.length,y,z,y⟩).ok (pP V (.new V.calls.length y)):=by show V.calls.length<(V.calls++[xQ y]).length;rw[c9];exact fG _
 refine oZ c1.at_ ⟨Z',_,⟨Z',Z'⟩,oV Z',b,A1,_,.leg ⟨V.calls.length,y,z,y⟩,Z',c1.b,c1.bd,c1.lim (by show c+1<=_;lia) (by lia),ok2,λM2 A2 eb2 XM Y0=>?_⟩;have c2:=c1.after ok2 eb2 XM Y0;obtain⟨k,hk⟩:∃k,(qA V [.new V.calls.length y,.leg ⟨V.calls.length,y,z,y⟩]).calls[V.calls.length]?=ga k:=by
  have:V.calls.length<(qA V [.new V.calls.length y,.leg ⟨V.calls.length,y,z,y⟩]).calls.length:=by show V.calls.length<((V.calls++[xQ y]).modify _ _).length;rw[fR];exact ok2
  exact⟨_,cY this⟩
 refine⟨M0,b,A2,_,l,c+1,n+2,V.calls.length,k,Z',c2,by lia,by lia,wf,hk,λM3 A3 c3 X8=>⟨M3,.refl,q M3 A3 ?_ (X4.trans (XM.trans X8))⟩⟩;unfold EG;rw[rA];exact c3.mono (dq _) (by lia)
def FH(V:qa)(x:Str):D:=Gq (uq V x)
abbrev DI:=J9 FH
def Lo(a:Ad):rb:=λds M Q=>GH λA V l x z=>ds=[.ref A.b,.str x,.str z]/\Rd a M A V l/\x∈l.pn/\Q (Gq (Ga l V x z)) M
inductive vG(a:Ad)(M:Mp)(L:QXQ):List rB->List pf->Prop
 | nil:vG a M L [] []
 | cons (k:rB) (c:pf) (ks:List rB) (cs:List pf) (h:rP a M L k c) (r:vG a M L ks cs):vG a M L (k::ks) (c::cs)
def sF.nf(w:Str)(m:Nat):Prop:=((w="answer"\/w="hang"\/w="hold"\/w="back")/\m=1)\/((w="hand"\/w="join")/\m=2)
def LP(a:Ad):rb:=λds M Q=>KA λwd x r L ks cs=>ds=[.str wd,.str x,.ref r]/\oa M r=ga (List.map (λk:rB=>D.ref k.p) ks)/\vG a M L ks cs/\sF.nf wd cs.length/\Q (.bl (IC wd x cs)) M
def I0(a:Ad):rb:=λds M Q=>KA λA V l wd x ns=>ds=[.ref A.b,.str wd,.str x,.tup (List.map D.int ns)]/\Rd a M A V l/\x∈l.pn/\sF.nf wd ns.length/\Q (Gq (K0 l V wd x ns)) M
def SH(a:Ad):rb:=λds M Q=>Co λA V b i=>ds=[.ref A.b,.str (Vk b),.int i]/\pG a M A V/\Q (Gq (Pb V b i)) M
def HR(a:Ad):rb:=λds M Q=>Co λA V l e=>ds=[.ref A.b,sF.d e]/\Rd a M A V l/\e.mT/\Q (Gq (wD l V e)) M
def WT(m:Nat):D->D
 | .int i=>.bl (zP m i)
 | _=>.bl pc
noncomputable def W0(A:tK):D->D
 | .int i=>(A.cs[i.toNat]?).elim .mC λk=>.ref k.p
 | _=>.mC
theorem Q8{V:qa}(bd:pG a M A V):∀{ns:T0 Int},ns.all (zP V.calls.length)=Db->∃ks,vG a M (A.lists++V.fo) ks (tG V ns)/\(ns.map D.int).map (W0 A)=ks.map (λk:rB=>D.ref k.p)/\(tG V ns).length=ns.length/\∀i∈ns,∃k,0<=i/\A.cs[i.toNat]?=ga k
 | [],_=>⟨[],.nil,Z',Z',λi hi=>by cases hi⟩
 | i::r,h=>by
  rw[gv,dY]at h;obtain⟨ks,h1,h2,h3,h4⟩:=Q8 bd h.2;have hh:(decide (0<=i)&&decide (i<V.calls.length))=Db:=h.1;rw[dY,eE,eE]at hh;have hi:i.toNat<V.calls.length:=by lia
  have hk:i.toNat<A.cs.length:=by rw[bd.len];exact hi
  have e1:A.cs[i.toNat]?=ga A.cs[i.toNat]:=cY hk;have e2:V.calls[i.toNat]?=ga V.calls[i.toNat]:=cY hi;have ec:tG V (i::r)=V.calls[i.toNat]::tG V r:=by unfold tG;rw[List.filterMap_cons_some (f:=λi:Int=>V.calls[i.toNat]?) e2]
  rw[ec];refine⟨A.cs[i.toNat]::ks,.cons _ _ _ _ (bd.cs _ _ _ e1 e2) h1,?_,eI Nat.succ h3,λj hj=>?_⟩
  .rw[d6,d6,h2];show(A.cs[i.toNat]?).elim _ _::_=_;rw[e1];rfl
  .rcases dz.mp hj with rfl|hj
   .exact⟨_,hh.1,e1⟩
   .exact h4 j hj
def vG.sub(h:vG a M L ks cs)(s:qz M M'):vG a M' L ks cs:=by
 induction h with
 | nil=>exact .nil
 | cons k c ks cs h r ih=>exact .cons k c ks cs (h.sub s) ih
def Tq{bs:T0 Bool}{i:Int}(h:zP bs.length i=Db):wF (bs.map D.bl) i=ga (.bl (bs.getD i.toNat pc)):=by
 have hh:(decide (0<=i)&&decide (i<bs.length))=Db:=h;rw[dY,eE,eE]at hh;obtain⟨n,rfl⟩:=eB hh.1;have hn:n<bs.length:=by lia
 refine uZ ?_;rw[dA,cY hn];show ga (D.bl bs[n])=ga (.bl (bs.getD n pc));rw[gI,cY hn];rfl
def DS:Fq P w K mg base 4 a.ab (DI a):=by
 refine fq G.ab.toDG yY (λr u=>⟨_,(oX (pJ (pB u (pR v0 G.c.toCls G.bC (Lp G) r (pZ U1)) rQ)
 (oY (pk pb))
 pE)
 (oX (pJ (pB u (pR v0 G.c.toCls G.bD (HA G) r (pZ U1)) rQ)
 (oY (pk pb))
 pE)
 (oY (pk rQ)))),?_⟩)
 rintro ds M Q ⟨A,V,x,rfl,bd,hk,q⟩
 unfold FH uq at q;refine oZ bd.at_ ⟨Z',_,⟨Z',Z'⟩,A,V,x,Z',bd,hk,?_⟩;unfold Ly;cases e:Ei V x with
 | some j=>rw[e]at q;exact⟨M,.refl,q⟩
 | none=>
  rw[e]at q;refine oZ bd.at_ ⟨Z',_,⟨Z',Z'⟩,A,V,x,Z',bd,hk,?_⟩;unfold Vt;cases e:I9 V x with
  | some j=>rw[e]at q;exact⟨M,.refl,q⟩
  | none=>rw[e]at q;exact⟨M,.refl,q⟩
def NC:Fq P w K mg base 5 a.aW (Lo a):=by
 refine fq G.aW.toDG wA (λr u=>⟨_,(oX (pJ (pB u U2 (vK (pj v0) G.h.toCls G.aj (yx G) r))
 (oY (pk pb))
 pE)
 (oX (pF 3 wA (pC (DS G) r G.ab (rN v0 U1)))
 (oX (pJ (W3.b3 (yR (pB u U3 rQ) (yk (vS (ur (pR v0 G.c.toCls G.S (yJ G) r (pZ U1)))))))
 (oY (pk pb))
 pE)
 (oY (pk U3))))),?_⟩)
 rintro ds M Q ⟨A,V,l,x,z,rfl,rd,hx,q⟩
 obtain⟨ph,gr,ws,YZ,pr,gd,rs,i1,_⟩:=rd.pl;have p8:=rd.ok.p8;have g3:=rd.ok.g3;unfold Ga at q;refine oZ rd.bd.at_ (i' Z' (oZ i1 ⟨Z',_,⟨Z',Z'⟩,V.p,l,Z',rd.pl,by lia,by lia,λp hp=>i' pA ⟨Z',qp _,?_⟩⟩));obtain⟨M1,e0,t,_⟩:=uW (ds:=l.nm.map D.str) hp;rw[<-e0];have X5:=rd.sub t;show if (!(inD (.str z) (l.nm.map D.str)))=Db then _ else _
 rw[sf];refine qC (c:=!(hasS l.nm z)) (λg=>?_) (λg=>?_)
 .rw[df (by simpa using g)]at q;exact⟨M,t,q⟩
 rw[de (by simpa using g)]at q;refine⟨A,V,x,Z',X5.bd,X5.k,?_⟩;unfold FH;cases e:uq V x with
 | some w0=>rw[e]at q;exact⟨M,t,q⟩
 | none=>
  rw[e]at q;refine oZ X5.bd.at_ ⟨Z',_,⟨Z',Z'⟩,A,V,l,x,Z',X5,hx,?_⟩;refine qC (c:=!(tN l V x)) (λg=>?_) (λg=>?_)
  .rw[g]at q;exact⟨M,t,q⟩
  .rw[show(!(tN l V x))=pc from dG.mpr g]at q;exact⟨M,t,q⟩
def K4:Fq P w K mg base 3 a.aX (LP a):=by
 refine fq G.aX.toDG NH (λr u=>⟨_,(oX (pJ (pB u v0 pb)
 (oY (pk (qc u U1 (pj (pD U2 o9)))))
 pE)
 (oX (pJ (pB u v0 pb)
 (oY (pk (pR (pD U2 o9) G.e.toCls G.bG (K3 G) r (pZ U1))))
 pE)
 (oX (pJ (pB u v0 pb)
 (oY (pk (pR (pD U2 o9) G.e.toCls G.av (Gh G) r (pZ U1))))
 pE)
 (oX (pJ (pB u v0 pb)
 (oY (pk (qc u (pj (pD U2 o9)) U1)))
 pE)
 (oY (pk (sN (qc u (pj (pD U2 o9)) U1) (sv (pR (pD U2 o9) G.e.toCls G.av (Gh G) r (pZ U1)))))))))),?_⟩)
 rintro ds M Q ⟨wd,x,r,L,ks,cs,rfl,lr,ZS,hw,q⟩
 cases ZS with
 | nil=>rcases hw with⟨_,h⟩|⟨_,h⟩<;>cases h
 | cons k c ks cs hc Yb=>
 obtain⟨ad,md,h1,h2,h3,h4,_⟩:=id hc;have a0:=zw (.ref k.p) (ks.map λk:rB=>D.ref k.p);have hold:∀K:DK,K (.bl (c.hd==ga x)) M->Option.elim (za M 9 (Gq c.hd) (.str x)) False λb=>K (.bl b) M:=λK hK=>by
  cases e:c.hd with
  | none=>rw[e]at hK;exact hK
  | some y=>rw[e]at hK;exact hK
 rcases hw with⟨rfl|rfl|rfl|rfl,h⟩|⟨hw,h⟩
 .exact i' lr (i' a0 (oZ h1 (i' Z' (DU h3 ⟨M,.refl,q⟩))))
 .exact i' lr (i' a0 (oZ h1 ⟨Z',_,⟨Z',Z'⟩,L,k,c,x,Z',hc,M,.refl,q⟩))
 .exact i' lr (i' a0 (oZ h1 ⟨Z',_,⟨Z',Z'⟩,L,k,c,x,Z',hc,M,.refl,q⟩))
 .exact i' lr (i' a0 (oZ h1 (i' Z' (hold _ ⟨M,.refl,q⟩))))
 .cases Yb with
  | nil=>cases h
  | cons k' d ks cs hd _=>
   obtain⟨ad',md',f1,_⟩:=id hd;have a1:wF (.ref k.p::.ref k'.p::ks.map λk:rB=>D.ref k.p) 1=ga (.ref k'.p):=uZ (j:=1) Z';have qq:Q (.bl ((c.hd==ga x)&&d.mL x)) M:=by
    rcases hw with rfl|rfl
    .exact q
    .exact q
   rcases hw with rfl|rfl
   all_goals
    refine i' lr (i' a0 (oZ h1 (i' Z' ?_)));cases e:c.hd with
    | none=>rw[e]at qq;exact⟨M,.refl,qq⟩
    | some y=>
     rw[e]at qq;have qq:Q (.bl ((y==x)&&d.mL x)) M:=qq;refine qC (c:=y==x) (λg=>?_) (λg=>?_)
     .rw[g,eK]at qq;exact i' lr (i' a1 (oZ f1 ⟨Z',_,⟨Z',Z'⟩,L,k',d,x,Z',hd,M,.refl,qq⟩))
     .rw[show(y==x)=pc from dG.mpr g,eR]at qq;exact⟨M,.refl,qq⟩
def Qi:Fq P w K mg base 5 a.aY (I0 a):=by
 refine fq G.aY.toDG tH (λr u=>⟨_,(oX (pJ (vS (ur (pM (Ft Z') Z' G.bR EH (pZ (qE Z' (ya (ix:=[Fa,ga 0]) (N':=["number","board"])) (qF U3) (qv 0) rM (tY u o9 v0 (pM qm Z' G.g ql (pZ (pj U1)))))))))
 (oY (pk pb))
 pE)
 (oX (uu (i:=4) tH.nd Z' (Or.inl Z') Z' (ya (ix:=[Fa,ga 0]) (N':=["number","board"])) (qF U3) (qv 0) rM (pD (pj U1) v0))
 (oX (pJ (vS (ur (pC (K4 G) r G.aX (rh U1 U2 v4))))
 (oY (pk pb))
 pE)
 (oX (pJ (pB u U1 (pI (rN pb pb)))
 (oY (pk rQ))
 pE)
 (oX (pF 5 tH (pC (DS G) r G.ab (rN v0 U2)))
 (oX (pJ (W3.b3 (yR (pB u v5 rQ) (yR (ur (pR (pD v4 o9) G.e.toCls G.ar (FY G) r (pZ U2))) (yk (vS (ur (pR v0 G.c.toCls G.S (yJ G) r (pZ U2))))))))
 (oY (pk pb))
 pE)
 (oY (pk v5)))))))),?_⟩)
 rintro ds M Q ⟨A,V,l,wd,x,ns,rfl,rd,hx,hw,q⟩
 have hz:=dP;have Z5:ns.length<=2:=by rcases hw with⟨_,h⟩|⟨_,h⟩<;>lia
 have lca:((A.cs.map λk=>D.ref k.p).length:Int)=V.calls.length:=by rw[cW,rd.bd.len]
 unfold K0 at q;refine ra (f:=WT V.calls.length) trivial _ [] _ (by rw[cW];simp only[dN];lia) (λd hd k hk=>?_) λp hp=>?_
 .obtain⟨i,_,rfl⟩:=dD.mp hd;have hk:k (.bl (decide (0<=i)&&decide (i<V.calls.length))) M:=hk;refine qC (c:=decide (0<=i)) (λg=>?_) (λg=>?_)
  .rw[g,eK]at hk;refine oZ rd.bd.at_ (i' Z' (i' rd.bd.ca ?_));rw[lca];exact hk
  .rw[show decide (0<=i)=pc from dG.mpr g,eR]at hk;exact hk
 have em:[]++(ns.map D.int).map (WT V.calls.length)=ns.map λi=>D.bl (zP V.calls.length i):=by rw[d9,d4];rfl
 rw[em];have t:=qz.new (c:=.lst (ns.map λi=>D.bl (zP V.calls.length i))) hp;refine i' pA (i' (yd (zP V.calls.length) ns) ?_);have X5:=rd.sub t;generalize pq M p (.lst (ns.map λi=>D.bl (zP V.calls.length i)))=M1 at t X5 ⊢;rw[zL];refine qC (c:=!(ns.all (zP V.calls.length))) (λg=>?_) (λYr=>?_)
 .rw[df (by simpa using g)]at q;exact⟨M,t,q⟩
 have Yr:ns.all (zP V.calls.length)=Db:=by simpa using Yr
 rw[de (by rw[Yr];exact Bool.noConfusion)]at q;obtain⟨ks,hks,eks,lcs,Zm⟩:=Q8 X5.bd Yr;refine ra (f:=W0 A) trivial _ [] _ (by rw[cW];simp only[dN];lia) (λd hd k0 hk=>?_) λp2 Xx=>?_
 .obtain⟨i,hi,rfl⟩:=dD.mp hd;obtain⟨k,i0,e1⟩:=Zm i hi;obtain⟨n,rfl⟩:=eB i0;have e1:A.cs[n]?=ga k:=e1;have hk:k0 ((A.cs[n]?).elim .mC λk=>.ref k.p) M1:=hk;rw[e1]at hk;exact oZ X5.bd.at_ (i' Z' (i' Z' (i' X5.bd.ca (i' (qZ e1) hk))))
 rw[d9,eks];obtain⟨M2,e0,t2,l2⟩:=uW (ds:=ks.map λk:rB=>D.ref k.p) Xx;rw[<-e0];have ZN:=X5.sub t2;have s2:=t.trans t2;have hks:=hks.sub t2;generalize tG V ns=cs at hks lcs q;refine⟨wd,x,p2,_,ks,cs,Z',l2,hks,by rw[lcs];exact hw,?_⟩;refine qC (c:=!IC wd x cs) (λg=>?_) (λg=>?_)
 .rw[df (by simpa using g)]at q;exact⟨M,s2,q⟩
 rw[de (by simpa using g)]at q;have two:∀wd:Str,(wd=="answer"||wd=="back")=Db->Q (Gq (if ((uq V x).isNone&&(cs.head?.elim pc (λc=>c.mD x)&&!(tN l V x)))=Db then ga "full" else uq V x)) M->cs.length=1->DI a [.ref A.b,.str x] M2 λdue M3=>uo (Qb (QH (b3 (k3 .Is (v3 5) (c3 .mC))) (QH (b3 (Ay "waits_with" (λD s=>D=a.e/\s=vv a) (i3 (v3 4) (c3 (.int 0))) (ua (v3 2) vt))) (T8 (b3 (Ay "is_free" (λD s=>D=a.c/\s=xg a) (v3 0) (ua (v3 2) vt)))))) (SR (c3 (.str "full"))) WR) (SR (v3 5)) {nx:=λ_ M'=>∃Xr,qz Xr M'/\Q .mC Xr,rt:=λd M'=>∃Xr,qz Xr M'/\Q d Xr} [ga (.ref A.b),ga (.str wd),ga (.str x),ga (.tup (ns.map D.int)),ga (.ref p2),ga due] M3:=λwd _ q hl=>by
  cases hks with
  | nil=>cases hl
  | cons k c ks cs hc _=>
  have q:Q (Gq (if ((uq V x).isNone&&(c.mD x&&!(tN l V x)))=Db then ga "full" else uq V x)) M:=q;obtain⟨ad,md,h1,_⟩:=id hc;refine⟨A,V,x,Z',ZN.bd,ZN.k,?_⟩;unfold FH;cases e:uq V x with
  | some w0=>rw[e]at q;exact⟨M,s2,q⟩
  | none=>
   rw[e]at q;refine i' l2 (i' (zw _ _) (oZ h1 ⟨Z',_,⟨Z',Z'⟩,_,k,c,x,Z',hc,?_⟩));refine qC (c:=c.mD x) (λg1=>?_) (λg1=>?_)
   .rw[g1]at q;refine oZ ZN.bd.at_ ⟨Z',_,⟨Z',Z'⟩,A,V,l,x,Z',ZN,hx,?_⟩;refine qC (c:=!(tN l V x)) (λg=>?_) (λg=>?_)
    .rw[g]at q;exact⟨M,s2,q⟩
    .rw[show(!(tN l V x))=pc from dG.mpr g]at q;exact⟨M,s2,q⟩
   .rw[show c.mD x=pc from dG.mpr g1]at q;exact⟨M,s2,q⟩
 rcases hw with⟨rfl|rfl|rfl|rfl,h⟩|⟨rfl|rfl,h⟩
 .exact⟨oV Z',Z',Z',two "answer" Z' q (lcs.trans h)⟩
 .exact⟨oV Z',Z',Z',M,s2,q⟩
 .exact⟨oV Z',Z',Z',M,s2,q⟩
 .exact⟨oV Z',Z',Z',two "back" Z' q (lcs.trans h)⟩
 .exact⟨oV Z',Z',Z',M,s2,q⟩
 .exact⟨oV Z',Z',Z',M,s2,q⟩
def SW:Fq P w K mg base 1 a.aZ (SH a):=by
 refine fq G.aZ.toDG y9 (λr u=>⟨_,(oX (pJ (vS (FU u o9 U2 (pM qm Z' G.g ql (pZ (pj v0)))))
 (oY (pk pb))
 pE)
 (oX (pJ (pB u (pD (pj v0) U2) (qc u U1 pb))
 (oY (pk pb))
 pE)
 (oY (pk rQ)))),?_⟩)
 rintro ds M Q ⟨A,V,b,i,rfl,bd,q⟩
 unfold Pb at q;have Zm:zP V.on.length i=(decide (0<=i)&&decide (i<V.on.length)):=rfl;have lon:((V.on.map D.bl).length:Int)=V.on.length:=by rw[cW]
 have no:zP V.on.length i=pc->Q (.str "wish") M:=λh=>by rw[df h]at q;exact q
 have yes:zP V.on.length i=Db->Q (Gq (if (V.on.getD i.toNat pc==b)=Db then ga "wish" else Fa)) M:=λh=>by rw[h,de Bool.noConfusion]at q;exact q
 refine qC (c:=decide (0<=i)) (λg0=>?_) (λg0=>⟨M,.refl,no (by rw[Zm,show decide (0<=i)=pc from dG.mpr g0];rfl)⟩);refine oZ bd.at_ (i' Z' (i' bd.on ?_));rw[lon];refine qC (c:=!(decide (i<(V.on.length:Int)))) (λg1=>⟨M,.refl,no (by rw[Zm,g0,show decide (i<(V.on.length:Int))=pc by simpa using g1];rfl)⟩) (λg1=>?_);have h:zP V.on.length i=Db:=by rw[Zm,g0,show decide (i<(V.on.length:Int))=Db by simpa using g1];rfl
 have q:=yes h;refine oZ bd.at_ (i' Z' (i' Z' (i' bd.on (i' (Tq h) ?_))));have es:(Vk b=="on")=b:=by cases b<;>rfl
 show if (V.on.getD i.toNat pc==(Vk b=="on"))=Db then _ else _
 rw[es];refine qC (λg=>?_) (λg=>?_)
 .rw[df g]at q;exact⟨M,.refl,q⟩
 .rw[de g]at q;exact⟨M,.refl,q⟩
def Hm:Fq P w K mg base 6 a.a0 (HR a):=by
 refine fq G.a0.toDG BZ (λr u=>⟨_,(oX (pF 2 BZ (pD U1 o9))
 (oX (pJ (pB u U2 pb)
 (oY (pk rQ))
 pE)
 (oX (pJ (pB u U2 (pI (rN pb pb)))
 (oY (pk (pC (SW G) r G.aZ (rh v0 U2 (pD U1 o9)))))
 pE)
 (oX (pJ (pB u (pD U1 o9) (vK (pj v0) G.h.toCls G.L (su G) r))
 (oY (pk pb))
 pE)
 (oX (pJ (pB u U2 pb)
 (oY (pk (pC (NC G) r G.aW (rh v0 (pD U1 o9) (pD U1 o9)))))
 pE)
 (oY (pk (pC (Qi G) r G.aY (pV v0 (rh U2 (pD U1 o9) (r6 U1 (sS o9) sR))))))))))),?_⟩)
 rintro ds M Q ⟨A,V,l,e,rfl,rd,hf,q⟩
 obtain⟨ph,gr,ws,YZ,pr,gd,rs,i1,_⟩:=rd.pl;have p8:=rd.ok.p8;cases e with
 | turn=>exact⟨M,.refl,q⟩
 | sw b i=>
  cases b with
  | true=>exact⟨oV Z',Z',Z',A,V,Db,i,Z',rd.bd,M,.refl,q⟩
  | false=>exact⟨oV Z',Z',Z',A,V,pc,i,Z',rd.bd,M,.refl,q⟩
 | call x z=>
  have q:Q (Gq (if hasS l.pn x=pc then ga "name" else Ga l V x z)) M:=q;refine⟨oV Z',Z',Z',?_⟩;refine oZ rd.bd.at_ (i' Z' (oZ i1 ⟨Z',_,⟨Z',Z'⟩,V.p,l,Z',rd.pl,by lia,λp Xx=>i' pA ⟨Z',qp _,?_⟩⟩));obtain⟨M1,e0,t,_⟩:=uW (ds:=l.pn.map D.str) Xx;rw[<-e0];have X5:=rd.sub t;show if (!(inD (.str x) (l.pn.map D.str)))=Db then _ else _
  rw[sf];refine qC (c:=!(hasS l.pn x)) (λg=>?_) (λg=>?_)
  .rw[df (by simpa using g)]at q;exact⟨M,t,q⟩
  .have g:hasS l.pn x=Db:=by simpa using g
   rw[g,de Bool.noConfusion]at q;exact⟨A,V,l,x,z,Z',X5,qM.mp g,M,t,q⟩
 | num wd x ns=>
  have q:Q (Gq (if hasS l.pn x=pc then ga "name" else K0 l V wd x ns)) M:=q;have hf:sF.nf wd ns.length:=hf;have key:∀(M1:Mp),qz M M1->if (!(inD (.str x) (l.pn.map D.str)))=Db then(∃Xr,qz Xr M1/\Q (.str "name") Xr)else I0 a [.ref A.b,.str wd,.str x,.tup (ns.map D.int)] M1 λd M'=>∃Xr,qz Xr M'/\Q d Xr:=λM1 t=>by
   rw[sf];refine qC (c:=!(hasS l.pn x)) (λg=>?_) (λg=>?_)
   .rw[df (by simpa using g)]at q;exact⟨M,t,q⟩
   .have g:hasS l.pn x=Db:=by simpa using g
    rw[g,de Bool.noConfusion]at q;exact⟨A,V,l,wd,x,ns,Z',rd.sub t,qM.mp g,hf,M,t,q⟩
  have one:ns.length=1->∃i,ns=[i]:=List.length_eq_one_iff.mp;have two:ns.length=2->∃i j,ns=[i,j]:=λh=>by
   match ns,h with
   | [i,j],_=>exact⟨i,j,Z'⟩
  rcases id hf with⟨rfl|rfl|rfl|rfl,h⟩|⟨rfl|rfl,h⟩
  .obtain⟨i,rfl⟩:=one h;exact⟨oV Z',Z',Z',oZ rd.bd.at_ (i' Z' (oZ i1 ⟨Z',_,⟨Z',Z'⟩,V.p,l,Z',rd.pl,by lia,λp Xx=>i' pA ⟨Z',qp _,key _ (.new Xx)⟩⟩))⟩
  .obtain⟨i,rfl⟩:=one h;exact⟨oV Z',Z',Z',oZ rd.bd.at_ (i' Z' (oZ i1 ⟨Z',_,⟨Z',Z'⟩,V.p,l,Z',rd.pl,by lia,λp Xx=>i' pA ⟨Z',qp _,key _ (.new Xx)⟩⟩))⟩
  .obtain⟨i,rfl⟩:=one h;exact⟨oV Z',Z',Z',oZ rd.bd.at_ (i' Z' (oZ i1 ⟨Z',_,⟨Z',Z'⟩,V.p,l,Z',rd.pl,by lia,λp Xx=>i' pA ⟨Z',qp _,key _ (.new Xx)⟩⟩))⟩
  .obtain⟨i,rfl⟩:=one h;exact⟨oV Z',Z',Z',oZ rd.bd.at_ (i' Z' (oZ i1 ⟨Z',_,⟨Z',Z'⟩,V.p,l,Z',rd.pl,by lia,λp Xx=>i' pA ⟨Z',qp _,key _ (.new Xx)⟩⟩))⟩
  .obtain⟨i,j,rfl⟩:=two h;exact⟨oV Z',Z',Z',oZ rd.bd.at_ (i' Z' (oZ i1 ⟨Z',_,⟨Z',Z'⟩,V.p,l,Z',rd.pl,by lia,λp Xx=>i' pA ⟨Z',qp _,key _ (.new Xx)⟩⟩))⟩
  .obtain⟨i,j,rfl⟩:=two h;exact⟨oV Z',Z',Z',oZ rd.bd.at_ (i' Z' (oZ i1 ⟨Z',_,⟨Z',Z'⟩,V.p,l,Z',rd.pl,by lia,λp Xx=>i' pA ⟨Z',qp _,key _ (.new Xx)⟩⟩))⟩
def Dk(V:qa)(x:Str):Prop:=∀c∈V.calls,¬Bo c x
def E8{V:qa}(h:uq V x=Fa):Dk V x:=by
 unfold uq at h;cases e1:Ei V x with
 | some j=>rw[e1]at h;cases h
 | none=>
  cases e2:I9 V x with
  | some j=>rw[e1,e2]at h;cases h
  | none=>
   intro c hc g;have h1:=ju.mp e1 c hc;have h2:=ju.mp e2 c hc;rcases g with g|g
   .rw[h1]at g;cases g
   .rw[h2]at g;cases g
def sD{c:pf}(h:c.st="rings"){x:Str}:Bo c x↔x=c.cr:=by unfold Bo pf.mS pf.mJ pf.mI;rw[h];simp(decide:=true)
def D8{c:pf}(h:c.st="waits"){x:Str}:Bo c x↔x=c.cr:=by unfold Bo pf.mS pf.mJ pf.mI;rw[h];simp(decide:=true)
def tw{c:pf}(h:c.st="talks"){x:Str}:Bo c x↔x∈c.ms:=by unfold Bo pf.mS pf.mJ pf.mI;rw[h,<-qM];simp(decide:=true)
def Cd{c:pf}(h:c.st="held"){x:Str}:Bo c x↔x∈c.ms/\c.hd≠ga x:=by unfold Bo pf.mS pf.mJ;rw[h,<-qM];simp(decide:=true)
def Gz{c:pf}(h:c.st="over"){x:Str}:¬Bo c x:=by unfold Bo pf.mS pf.mJ pf.mI;rw[h];simp(decide:=true)
def sC{c:pf}(h:c.st="rings"){x:Str}:c.hasB x=Db↔x=c.cr\/x∈c.at_:=by unfold pf.hasB;rw[h,<-qM];simp(decide:=true)
def DW{c:pf}(h:c.st="waits"){x:Str}:c.hasB x=Db↔x=c.cr:=by unfold pf.hasB;rw[h];simp(decide:=true)
def sL{c:pf}(h:c.st="talks"\/c.st="held"){x:Str}:c.hasB x=Db↔x∈c.ms:=by unfold pf.hasB;rw[<-qM];rcases h with h|h<;>(rw[h];simp(decide:=true))
def Gf{c:pf}(h:c.st="over"){x:Str}:c.hasB x=pc:=by unfold pf.hasB;rw[h];simp(decide:=true)
def rY{c:pf}{x:Str}:c.mD x=Db↔c.st="waits"/\x∈c.at_:=by unfold pf.mD;rw[dY,fj,qM]
theorem Fy{α:Type}(f:α->Bool):∀{l:List α} {i:Nat} {c:α} (c':α),l[i]?=ga c->((l.set i c').filter f).length+(if f c=Db then 1 else 0)=(l.filter f).length+(if f c'=Db then 1 else 0)
 | [],_,_,_,h=>by simp at h
 | x::r,0,c,c',h=>by cases h;rw[List.set_cons_zero,gW,gW];split<;>split<;>simp
 | x::r,i+1,c,c',h=>by
  have ih:=Fy f (l:=r) (i:=i) (c:=c) c' (by simpa using h);rw[kQ,gW,gW];split
  .rw[eA,eA];lia
  .exact ih
def zg.set{V V':qa}{o o':Option Nat}{i:Nat}{c c':pf}(h:zg l V o)(e:V'.calls=V.calls.set i c')(hc:V.calls[i]?=ga c)(ho:∀j,j≠i->(o==ga j)=(o'==ga j))(ok:vT l (o'==ga i) c')(he:∀x,Bo c' x->Bo c x\/Dk V x)(hu:∀x,c'.hasB x=Db->c.hasB x=Db\/(uQ V x:Int)<wJ l x)(hw:∀x,c'.mD x=Db->c.mD x=Db\/Aq V x=pc)(nx:uk l V'):zg l V' o':=by
 have si:∀{j:Nat} {d:pf},V'.calls[j]?=ga d->(j=i/\d=c')\/(j≠i/\V.calls[j]?=ga d):=λ{j d} g=>by rw[e]at g;exact(Fk g).imp (λg=>⟨g.1,g.2.1⟩) id
 have key:∀(j:Nat) cj x,j≠i->V.calls[j]?=ga cj->Bo c' x->Bo cj x->False:=λj cj x hj e1 g1 g2=>by
  rcases he x g1 with z|z
  .exact hj (h.un j i cj c x e1 hc g2 z)
  .exact z cj (qQ e1) g2
 have keyw:∀(j:Nat) cj x,j≠i->V.calls[j]?=ga cj->c'.mD x=Db->cj.mD x=Db->False:=λj cj x hj e1 g1 g2=>by
  rcases hw x g1 with z|z
  .exact hj (h.wt j i cj c x e1 hc g2 z)
  .unfold Aq at z;exact absurd g2 (by rw[kX.mp z cj (qQ e1)|>dG.mpr];exact Bool.noConfusion)
 refine⟨λj d g=>?_,λm n cm cn x e1 e2 g1 g2=>?_,λx hx=>?_,λm n cm cn x e1 e2 g1 g2=>?_,nx⟩
 .rcases si g with⟨rfl,rfl⟩|⟨hj,g⟩
  .exact ok
  .rw[<-ho j hj];exact h.ok j d g
 .rcases si e1 with⟨rfl,rfl⟩|⟨hm,e1⟩<;>rcases si e2 with⟨rfl,rfl⟩|⟨hn,e2⟩
  .rfl
  .exact(key n cn x hn e2 g1 g2).elim
  .exact(key m cm x hm e1 g2 g1).elim
  .exact h.un m n cm cn x e1 e2 g1 g2
 .have cs:=Fy (λk:pf=>k.hasB x) c' hc;have hl:=h.ln x hx;unfold uQ at hl ⊢;rw[e];by_cases g:c'.hasB x=Db
  .rw[df g]at cs;rcases hu x g with z|z
   .rw[df z]at cs;lia
   .unfold uQ at z;lia
  .rw[de g]at cs;lia
 .rcases si e1 with⟨rfl,rfl⟩|⟨hm,e1⟩<;>rcases si e2 with⟨rfl,rfl⟩|⟨hn,e2⟩
  .rfl
  .exact(keyw n cn x hn e2 g1 g2).elim
  .exact(keyw m cm x hm e1 g2 g1).elim
  .exact h.wt m n cm cn x e1 e2 g1 g2
def zg.add{V V':qa}{c':pf}(h:WF l V)(e:V'.calls=V.calls++[c'])(ok:vT l Db c')(he:∀x,Bo c' x->Dk V x)(hu:∀x,c'.hasB x=Db->(uQ V x:Int)<wJ l x)(hw:∀x,c'.mD x=pc)(nx:uk l V'):zg l V' (ga V.calls.length):=by
 have si:∀{j:Nat} {d:pf},V'.calls[j]?=ga d->(j=V.calls.length/\d=c')\/(j≠V.calls.length/\V.calls[j]?=ga d):=λ{j d} g=>by
  rw[e]at g;by_cases z:j<V.calls.length
  .rw[eV z]at g;exact .inr ⟨by lia,g⟩
  .have:=(cZ.mp g).1;rw[c9,dM]at this;have z:j=V.calls.length:=by lia
   subst z;rw[eL (dq _)]at g;simp only[gp,iF,jn]at g;exact .inl ⟨Z',g.symm⟩
 refine⟨λj d g=>?_,λm n cm cn x e1 e2 g1 g2=>?_,λx hx=>?_,λm n cm cn x e1 e2 g1 g2=>?_,nx⟩
 .rcases si g with⟨rfl,rfl⟩|⟨hj,g⟩
  .rw[ft];exact ok
  .rw[show(ga V.calls.length==ga j)=pc by simpa using dX hj];exact h.ok j d g
 .rcases si e1 with⟨rfl,rfl⟩|⟨hm,e1⟩<;>rcases si e2 with⟨rfl,rfl⟩|⟨hn,e2⟩
  .rfl
  .exact(he x g1 cn (qQ e2) g2).elim
  .exact(he x g2 cm (qQ e1) g1).elim
  .exact h.un m n cm cn x e1 e2 g1 g2
 .have hl:=h.ln x hx;unfold uQ at hl ⊢;rw[e,jf,c9,gW];split
  .rename_i g;have:=hu x g;unfold uQ at this;simp only[iT,dM];lia
  .simp only[iT,dN];lia
 .rcases si e1 with⟨rfl,rfl⟩|⟨hm,e1⟩<;>rcases si e2 with⟨rfl,rfl⟩|⟨hn,e2⟩
  .rfl
  .rw[hw x]at g1;cases g1
  .rw[hw x]at g2;cases g2
  .exact h.wt m n cm cn x e1 e2 g1 g2
noncomputable def pf.core(c:pf):pf:={c with way:=[],si:=0}
def xV(V V':qa):Prop:=V'.calls.map pf.core=V.calls.map pf.core
def xV.at_{V V':qa}(h:xV V V'){i:Nat}{c':pf}(e:V'.calls[i]?=ga c'):∃c,V.calls[i]?=ga c/\c'.core=c.core:=by
 have:=eI (·[i]?) h;simp only[dA,e]at this;cases e':V.calls[i]? with
 | none=>rw[e']at this;cases this
 | some c=>rw[e']at this;exact⟨c,Z',dv this⟩
def xV.used{V V':qa}(h:xV V V')(x:Str):uQ V' x=uQ V x:=by
 have key:∀cs:List pf,(cs.filter (·.hasB x)).length=((cs.map pf.core).filter (·.hasB x)).length:=λcs=>by rw[hJ,cW];rfl
 unfold uQ;rw[key,h,<-key]
def xV.wf{V V':qa}{o:Option Nat}(h:xV V V')(wf:zg l V o)(hw:∀(i:Nat) c',V'.calls[i]?=ga c'->c'.way≠[]/\∀z∈c'.way,z∈l.nm)(nx:uk l V'):zg l V' o:=by
 refine⟨λi c' e=>?_,λi j ci cj x e1 e2 g1 g2=>?_,λx hx=>by rw[h.used];exact wf.ln x hx,λi j ci cj x e1 e2 g1 g2=>?_,nx⟩
 .obtain⟨c,ec,ee⟩:=h.at_ e;have k:=wf.ok i c ec;have k1:c'.at_=c.at_:=show c'.core.at_=c.core.at_ by rw[ee]
  have k2:c'.ms=c.ms:=show c'.core.ms=c.core.ms by rw[ee]
  have k3:c'.cr=c.cr:=show c'.core.cr=c.core.cr by rw[ee]
  exact⟨by show QS _ c'.core;rw[ee];exact k.sh,by rw[k3];exact k.cr,by rw[k1];exact k.at_,by rw[k2];exact k.ms,by rw[k1];exact k.an,by rw[k2];exact k.mn,by rw[k1,k3];exact k.ca,hw i c' e⟩
 .obtain⟨di,a1,a2⟩:=h.at_ e1;obtain⟨dj,b1,b2⟩:=h.at_ e2;exact wf.un i j di dj x a1 b1 (by show Bo di.core x;rw[<-a2];exact g1) (by show Bo dj.core x;rw[<-b2];exact g2)
 .obtain⟨di,a1,a2⟩:=h.at_ e1;obtain⟨dj,b1,b2⟩:=h.at_ e2;exact wf.wt i j di dj x a1 b1 (by show di.core.mD x=Db;rw[<-a2];exact g1) (by show dj.core.mD x=Db;rw[<-b2];exact g2)
def tj.core{V V':qa}(h:tj V V'):xV V V':=by have:=eI (List.map pf.core) h;rw[d4,d4]at this;exact this
def DV(V:qa):xV V (pP V .turn):=by show(V.calls.map pf.tick).map pf.core=V.calls.map pf.core;rw[d4];refine fN λc _=>?_;show(pf.tick c).core=c.core;unfold pf.tick;split<;>rfl
def Bh{V:qa}(wf:WF l V):WF l (pP V .turn):=(DV V).wf wf (λi c' e=>by
 have e:(V.calls.map pf.tick)[i]?=ga c':=e;rw[dA]at e;cases q:V.calls[i]? with
 | none=>rw[q]at e;cases e
 | some c=>
  rw[q]at e;have e:c.tick=c':=dv e;have hw:c.tick.way=c.way:=by unfold pf.tick;split<;>rfl
  rw[<-e,hw];exact(wf.ok i c q).wy) wf.nx
def U8{V:qa}{b:Bool}{i:Nat}(wf:WF l V):WF l (pP V (.sw b i)):=⟨wf.ok,wf.un,wf.ln,wf.wt,wf.nx⟩
def En{V:qa}{o:Option Nat}{i:Nat}{z:Str}{ns:T0 Nat}(wf:zg l V o):zg l (pP V (.asks i z ns)) o:=⟨wf.ok,wf.un,wf.ln,wf.wt,wf.nx⟩
def HX{V:qa}{o:Option Nat}{v:rj}(wf:zg l V o)(hz:v.g∈l.nm):zg l (pP V (.leg v)) o:=(uJ V v).core.wf wf (λi c' e=>by
 have e:(V.calls.modify v.i (·.go v.g))[i]?=ga c':=e;rw[gR]at e;cases q:V.calls[i]? with
 | none=>rw[q]at e;cases e
 | some c=>
  rw[q]at e;have k:=(wf.ok i c q).wy;have e:(if v.i=i then c.go v.g else c)=c':=dv e;by_cases g:v.i=i
  .rw[df g]at e;rw[<-e];refine⟨by show c.way++[v.g]≠[];simp,λz hz'=>?_⟩;rcases dO.mp (show z∈c.way++[v.g]from hz')with y|y
   .exact k.2 z y
   .rw[dh.mp y];exact hz
  .rw[de g]at e;rw[<-show c=c' from e];exact k) wf.nx
theorem B5{o:Option Nat}(i:Nat):∀(st:sO) (q:Option Str) {V:qa},zg l V o->(∀s∈st,s.1∈l.nm)->zg l (qA V (qT i q st)) o
 | [],_,V,wf,_=>wf
 | (y,gs)::r,Fa,V,wf,h=>B5 i r (ga y) (En wf) λs hs=>h s (dF _ hs)
 | (y,gs)::r,ga u,V,wf,h=>B5 i r (ga y) (En (HX wf (h _ dH))) λs hs=>h s (dF _ hs)
def rm{V:qa}{i:Nat}{c:pf}{f:pf->pf}(h:V.calls[i]?=ga c):(xm V i f).calls=V.calls.set i (f c):=by unfold xm;rw[tD h]
def Bk{i:Nat}:∀j,j≠i->((ga i:Option Nat)==ga j)=((Fa:Option Nat)==ga j):=λj hj=>by rw[show((ga i:Option Nat)==ga j)=pc by simpa using dX hj];rfl
def Vi{V:qa}{i:Nat}{c:pf}(wf:zg l V (ga i))(hc:V.calls[i]?=ga c):c.st="rings"/\c.ms=[]/\c.hd=Fa/\c.wd=Fa/\c.at_=[]:=by
 have sh:=(wf.ok i c hc).sh;rw[ft]at sh;rcases sh with g|g
 .exact⟨g.1,g.2.1,g.2.2.1,g.2.2.2.1,g.2.2.2.2.1 Z'⟩
 .cases g.1
def PP{c:pf}{o:Bool}{w:Str}(k:vT l o c)(hw:w∈Lv):vT l pc (c.over w):=⟨.inr ⟨Z',.inr (.inr (.inr ⟨Z',Z',Z',Z',w,hw,Z'⟩))⟩,k.cr,(λx hx=>by cases hx),(λx hx=>by cases hx),eJ,eJ,(λhx=>by cases hx),k.wy⟩
def wW{V V':qa}{o:Option Nat}{i:Nat}{c:pf}{w:Str}(wf:zg l V o)(hc:V.calls[i]?=ga c)(ho:o=Fa\/o=ga i)(hw:w∈Lv)(e:V'.calls=V.calls.set i (c.over w))(nx:uk l V'):WF l V':=
 wf.set e hc (λj hj=>by rcases ho with rfl|rfl;rfl;exact Bk j hj) (PP (wf.ok i c hc) hw) (λx g=>(Gz Z' g).elim) (λx g=>by rw[Gf (c:=c.over w) Z']at g;cases g) (λx g=>by have:=(rY.mp g).1;exact absurd this (show("over":Str)≠"waits" by decide)) nx
def HL{l:pz}{V:qa}{c z:Str}(h:(l.mv z).Nodup):(xx l V c z).Nodup:=by
 unfold xx;split
 .cases(uT (l.mv z) (zM V z)).filter λx=>hasS (um l V c z) x with
  | nil=>exact eJ
  | cons y r=>exact dR.mpr ⟨dW,eJ⟩
 .exact h.sublist fY
def Lw(ps:T0 (Str×Int))(z:Str)(n:Int)(y:Str):(Cp ps z n).find? (λp=>decide (p.1=y))=if y=z then ga (z,n)else ps.find? λp=>decide (p.1=y):=by
 unfold Cp;by_cases h:ps.any (λp=>decide (p.1=z))=Db
 .rw[df h];induction ps with
  | nil=>cases h
  | cons p r ih=>
   rw[d6,eW,eW];by_cases hp:p.1=z
   .rw[df hp];by_cases hy:y=z
    .rw[df hy,hy];simp[hp]
    .rw[de hy];have n1:decide (p.1=y)=pc:=eD (λq=>hy (q.symm.trans hp));simp only[n1];by_cases hr:r.any (λp=>decide (p.1=z))=Db
     .have:=ih hr;rw[de hy]at this;exact this
     .have hr:∀q∈r,¬q.1=z:=λq hq g=>hr (fQ.mpr ⟨q,hq,dS g⟩);rw[show r.map (λp=>if p.1=z then(p.1,n)else p)=r from(fN λq hq=>de (hr q hq)).trans (jb _)]
   .rw[de hp];have hr:r.any (λp=>decide (p.1=z))=Db:=by
     rw[gb,hG]at h;rcases h with g|g
     .exact absurd (fM g) hp
     .exact g
    have ih:=ih hr;by_cases hy:y=z
    .rw[df hy]at ih ⊢;have n1:decide (p.1=y)=pc:=eD (λq=>hp (q.trans hy));simp only[n1];exact ih
    .rw[de hy]at ih ⊢;cases decide (p.1=y)with
     | true=>rfl
     | false=>exact ih
 .rw[de h,lj];have hr:∀q∈ps,¬q.1=z:=λq hq g=>h (fQ.mpr ⟨q,hq,dS g⟩);by_cases hy:y=z
  .subst hy;rw[df Z',gi.mpr λq hq=>by simpa using hr q hq,Option.none_or];simp
  .rw[de hy,eW,eD (λq:z=y=>hy q.symm)];simp
def NL{V:qa}{z:Str}{n:Int}(h:uk l V)(h0:0<=n)(h1:n<=((l.mv z).length:Int)):uk l (pP V (.next z n)):=λy hy ht=>by
 show ∃v,(Cp V.ps z n).find? _=ga v/\_;rw[Lw];by_cases e:y=z
 .subst e;rw[df Z'];exact⟨_,Z',h0,h1⟩
 .rw[de e];exact h y hy ht
def Fp{V:qa}(h:tN l V x=Db):(uQ V x:Int)<wJ l x:=fM h
def KH{V V':qa}{o:Option Nat}{i:Nat}{c:pf}{w x:Str}(wf:zg l V o)(hc:V.calls[i]?=ga c)(e:V'.calls=V.calls.set i (c.over w))(hx:Bo c x):Dk V' x:=λd hd g=>by
 rw[e]at hd;obtain⟨j,hj,ed⟩:=gY hd;have ej:(V.calls.set i (c.over w))[j]?=ga d:=by rw[cY hj,ed]
 rcases Fk ej with⟨_,rfl,_⟩|⟨XN,ej⟩
 .exact Gz Z' g
 .exact XN (wf.un j i d c x ej hc g hx)
def Kl{V V':qa}{i:Nat}{c:pf}{w x:Str}(hc:V.calls[i]?=ga c)(e:V'.calls=V.calls.set i (c.over w))(hx:c.hasB x=Db):uQ V' x+1=uQ V x:=by
 have:=Fy (λk:pf=>k.hasB x) (c.over w) hc;unfold uQ;rw[e];simp only[hx,iY,Gf (c:=c.over w) Z']at this
 simpa using this
def GO{V V':qa}{o:Option Nat}{i j:Nat}{c d:pf}{ms:QQQ}(wf:zg l V o)(ho:o=Fa\/o=ga i)(hc:V.calls[i]?=ga c)(hd:V.calls[j]?=ga d)(Yn:i≠j)(e:V'.calls=(V.calls.set i (c.over "merged")).set j (d.mem ms))(nx:uk l V')(dt:d.st="talks")(m1:ms.Nodup)(m2:ms.length=2\/ms.length=3)(m3:∀x∈ms,x∈d.ms\/(Bo c x/\c.hasB x=Db))(m4:∀x∈ms,x∈l.pn):WF l V':=by
 have e1:(xm V i (·.over "merged")).calls=V.calls.set i (c.over "merged"):=rm hc;have w1:WF l (xm V i (·.over "merged")):=wW wf hc ho (by decide) e1 wf.nx;have hd1:(xm V i (·.over "merged")).calls[j]?=ga d:=by rw[e1,fB Yn];exact hd
 have kd:=w1.ok j d hd1;have kd':d.hd=Fa/\d.wd=Fa/\d.at_=[]:=by
  rcases kd.sh with g|⟨_,g|g|⟨_,g⟩|g⟩
  .rw[dt]at g;exact absurd g.1 (by decide)
  .rw[dt]at g;exact absurd g.1 (by decide)
  .exact⟨g.2.2.1,g.2.2.2.1,g.2.2.2.2⟩
  .rw[dt]at g;exact absurd g.1 (by decide)
  .rw[dt]at g;exact absurd g.1 (by decide)
 refine w1.set (c':=d.mem ms) (by rw[e,e1]) hd1 (λ_ _=>rfl) ⟨.inr ⟨Z',.inr (.inl ⟨dt,m2,kd'.1,kd'.2.1,kd'.2.2⟩)⟩,kd.cr,kd.at_,m4,kd.an,m1,kd.ca,kd.wy⟩ (λx g=>?_) (λx g=>?_) (λx g=>?_) nx
 .have g:=(tw (c:=d.mem ms) dt).mp g;rcases m3 x g with y|y
  .exact .inl ((tw dt).mpr y)
  .exact .inr (KH wf hc e1 y.1)
 .have g:=(sL (c:=d.mem ms) (.inl dt)).mp g;rcases m3 x g with y|y
  .exact .inl ((sL (.inl dt)).mpr y)
  .have:=Kl hc e1 y.2;have:=wf.ln x (m4 x g);exact .inr (by lia)
 .have:=(rY.mp g).1;rw[show(d.mem ms).st="talks" from dt]at this;exact absurd this (by decide)
def S4{V V1:qa}{i:Nat}{c:pf}{e:vf}(ok:qY l)(wf:zg l V1 (ga i))(same:xV V V1)(hc:V1.calls[i]?=ga c)(he:GG l V c.cr e):WF l (qA V1 (rT l V1 i e)):=by
 obtain⟨p1,p2,p3,p4,p5⟩:=Vi wf hc;have k:=wf.ok i c hc;have hi:=(cZ.mp hc).1;cases e with
 | rings z ps=>
  obtain⟨hz,XN,rfl⟩:=he;obtain⟨⟨q1,q2,q3,q4⟩,_⟩:=ok.of hz;obtain⟨r1,r2⟩:=GY (l:=l) (V:=V) (c:=c.cr) (z:=z);generalize hps:xx l V c.cr z=ps at XN r1 r2;have Xs:∀V2:qa,V2.calls=V1.calls->uk l V2->WF l (pP V2 (.rings i ps)):=λV2 e2 nx=>by
   have e3:(pP V2 (.rings i ps)).calls=V1.calls.set i (c.ring ps):=by show(xm (qI V2 _) i _).calls=_;rw[rm (c:=c) (by show V2.calls[i]?=_;rw[e2];exact hc)];show V2.calls.set i _=_;rw[e2]
   have free:∀x∈ps,tN l V x=Db/\x≠c.cr:=λx hx=>by have h:=(fE.mp (r1 x hx).1).2;simp only[dY,gM]at h;exact⟨h.2,by simpa using h.1⟩
   refine wf.set e3 hc Bk ⟨.inl ⟨Z',p2,p3,p4,(λh=>by cases h),λ_=>XN⟩,k.cr,λx hx=>q4 x (r1 x hx).2,k.ms,by rw[<-hps];exact HL q3,k.mn,λhx=>(free _ hx).2 Z',k.wy⟩ (λx g=>?_) (λx g=>?_) (λx g=>?_) nx
   .exact .inl ((sD p1).mpr ((sD (c:=c.ring ps) Z').mp g))
   .rcases(sC (c:=c.ring ps) Z').mp g with y|y
    .exact .inl ((sC p1).mpr (.inl y))
    .refine .inr ?_;rw[same.used];exact Fp (free x y).1
   .exact absurd (rY.mp g).1 (show("rings":Str)≠"waits" by decide)
  show WF l (qA V1 ((if (l.mE z=="turns")=Db then _ else _)++[.rings i ps]));rw[rA];by_cases ht:(l.mE z=="turns")=Db
  .rw[df ht];have lp:0<(l.mv z).length:=fu.mpr q1;refine Xs _ Z' (NL wf.nx (eP _ (by lia)) (Int.le_of_lt (eO _ (by lia))))
  .rw[de ht];exact Xs V1 Z' wf.nx
 | waits z=>
  obtain⟨hz,XN,hw⟩:=he;have e3:(pP V1 (.waits i z)).calls=V1.calls.set i (c.wait z):=rm (V:=qI V1 _) hc;have hw1:Aq V1 z=pc:=by
   unfold Aq at hw ⊢;have key:∀cs:List pf,cs.any (·.mD z)=(cs.map pf.core).any (·.mD z):=λcs=>by rw[jF];rfl
   rw[key,same,<-key];exact hw
  refine wf.set e3 hc Bk ⟨.inr ⟨Z',.inl ⟨Z',p2,p3,p4,Z'⟩⟩,k.cr,λx hx=>by rw[dh.mp hx];exact hz,k.ms,dR.mpr ⟨dW,eJ⟩,k.mn,λhx=>XN (dh.mp hx).symm,k.wy⟩ (λx g=>?_) (λx g=>?_) (λx g=>?_) wf.nx
  .exact .inl ((sD p1).mpr ((D8 (c:=c.wait z) Z').mp g))
  .exact .inl ((sC p1).mpr (.inl ((DW (c:=c.wait z) Z').mp g)))
  .have:=(rY.mp g).2;rw[dh.mp this];exact .inr hw1
 | breaks z=>
  obtain⟨x,rfl,hb⟩:=he;obtain⟨j,d0,t1,t2,t3,t4,t5,t6⟩:=GL hb;have ht:vw V1 z=ga j:=by
   rw[<-t1];unfold vw;have key:∀cs:List pf,cs.findIdx? (·.mI z)=(cs.map pf.core).findIdx? (·.mI z):=λcs=>by rw[h9];rfl
   rw[key,same,<-key]
  obtain⟨d,ed,ec⟩:∃d,V1.calls[j]?=ga d/\d.core=d0.core:=by
   have:=eI (·[j]?) same;simp only[dA,t2]at this;cases q:V1.calls[j]? with
   | none=>rw[q]at this;cases this
   | some d=>rw[q]at this;exact⟨d,Z',dv this⟩
  have ds:d.st="talks":=by rw[show d.st=d0.st from show d.core.st=d0.core.st by rw[ec]];exact t3
  have dm:d.ms=d0.ms:=show d.core.ms=d0.core.ms by rw[ec]
  have Yn:i≠j:=λy=>by subst y;rw[hc]at ed;cases ed;rw[p1]at ds;exact absurd ds (by decide)
  have hee:rT l V1 i (.breaks z)=[.merge i j (d.ms++[c.cr])]:=by unfold rT;dsimp only;rw[ht,hc];dsimp only;rw[ed];rfl
  rw[hee];have ncr:c.cr∉d.ms:=λy=>Yn (wf.un i j c d c.cr hc ed ((sD p1).mpr Z') ((tw ds).mpr y));have kd:=wf.ok j d ed;refine GO (V':=pP V1 (.merge i j (d.ms++[c.cr]))) (ms:=d.ms++[c.cr]) wf (.inr Z') hc ed Yn ?_ wf.nx ds ?_ (.inr ?_) (λx hx=>?_) (λx hx=>?_)
  .show(V1.calls.modify i _).modify j _=_;rw[tD hc,tD (show(V1.calls.set i _)[j]?=ga d by rw[fB Yn];exact ed)]
  .refine gq.mpr ⟨kd.mn,dR.mpr ⟨dW,eJ⟩,λx hx y hy q=>ncr ?_⟩;rw[dh.mp hy]at q;rw[<-q];exact hx
  .rw[c9,dm,t5];rfl
  .rcases dO.mp hx with y|y
   .exact .inl y
   .rw[dh.mp y];exact .inr ⟨(sD p1).mpr Z',(sC p1).mpr (.inl Z')⟩
  .rcases dO.mp hx with y|y
   .exact kd.ms x y
   .rw[dh.mp y];exact k.cr
 | engaged z=>exact wW (V':=pP V1 (.over i "engaged")) wf hc (.inr Z') (by decide) (rm (V:=qI V1 _) hc) wf.nx
 | barred=>exact wW (V':=pP V1 (.over i "barred")) wf hc (.inr Z') (by decide) (rm (V:=qI V1 _) hc) wf.nx
 | ring ns=>exact wW (V':=pP V1 (.over i "ring")) wf hc (.inr Z') (by decide) (rm (V:=qI V1 _) hc) wf.nx
def Q7{V:qa}{i:Nat}{k:pf}(ok:qY l)(wf:zg l V (ga i))(hk:V.calls[i]?=ga k):WF l (qA V (uU l V i)):=by
 have Yd:=wf.ok i k hk;unfold uU;rw[hk];dsimp only[Option.elim];obtain⟨z,hz⟩:∃z,k.way.getLast?=ga z:=by
  cases e:k.way.getLast? with
  | none=>exact absurd (gk.mp e) Yd.wy.1
  | some z=>exact⟨z,Z'⟩
 rw[show k.way.getLastD Str.empty=z by rw[gQ,hz];rfl];have ro:wH l V k.cr (l.nm.length+1) [] (ut l V k.cr z k.way.dropLast):=x8 ok _ _ _ _ (Yd.wy.2 z (ik hz)) λx hx=>Yd.wy.2 x (il _ hx);generalize ut l V k.cr z k.way.dropLast=R at ro;obtain⟨e,st⟩:=R;have snm:∀s∈st,s.1∈l.nm:=λs hs=>(ro.nm s hs).elim (λh=>by cases h) id;have w1:=B5 i st Fa wf snm;have X2:=ux i st Fa V;rw[rA,rA];dsimp only;have Xs:∀V1:qa,zg l V1 (ga i)->tj V V1->WF l (qA V1 (rT l V i e)):=λV1 w s=>by
  rw[<-s.ends];obtain⟨c',e1,e2⟩:=s.at_ hk;have hcr:c'.cr=k.cr:=show c'.bare.cr=k.bare.cr by rw[e2]
  exact S4 ok w s.core e1 (by rw[hcr];exact ro.e)
 cases e with
 | ring ns=>
  obtain⟨x,ns',rfl⟩:=gc (show ns≠[]from ro.e);cases hl:st.getLast? with
  | none=>rw[show sH i st (.ring (x::ns'))=[]by unfold sH;dsimp only;rw[hl];rfl];exact Xs _ w1 X2
  | some s0=>rw[show sH i st (.ring (x::ns'))=[.leg ⟨i,s0.1,x,s0.1⟩]by unfold sH;dsimp only;rw[hl];rfl];exact Xs _ (HX (v:=⟨i,s0.1,x,s0.1⟩) w1 (ro.wy _ Z' x dH)) (X2.trans (uJ _ _))
 | rings _ _=>exact Xs _ w1 X2
 | waits _=>exact Xs _ w1 X2
 | breaks _=>exact Xs _ w1 X2
 | engaged _=>exact Xs _ w1 X2
 | barred=>exact Xs _ w1 X2
def E5{V:qa}{y z:Str}(wf:WF l V)(hy:y∈l.pn)(hz:z∈l.nm)(hi:Dk V y)(hf:tN l V y=Db):zg l (qA V [.new V.calls.length y,.leg ⟨V.calls.length,y,z,y⟩]) (ga V.calls.length):=by
 have e:(qA V [.new V.calls.length y,.leg ⟨V.calls.length,y,z,y⟩]).calls=V.calls++[(xQ y).go z]:=by show(V.calls++[xQ y]).modify V.calls.length _=_;rw[tD (c:=xQ y) (by rw[eL (dq _),gp];rfl),iK _ _ (dq _),gp];rfl
 refine wf.add e ⟨.inl ⟨Z',Z',Z',Z',λ_=>rfl,(λh=>by cases h)⟩,hy,(λx h=>by cases h),(λx h=>by cases h),eJ,eJ,(λh=>by cases h),fH _ _,λx h=>by rw[dh.mp h];exact hz⟩ (λx h=>?_) (λx h=>?_) (λx=>?_) wf.nx
 .rw[(sD (c:=(xQ y).go z) Z').mp h];exact hi
 .rcases(sC (c:=(xQ y).go z) Z').mp h with g|g
  .rw[g];exact Fp hf
  .cases g
 .cases q:((xQ y).go z).mD x with
  | false=>rfl
  | true=>exact absurd (rY.mp q).1 (show("rings":Str)≠"waits" by decide)
def Hw{V:qa}{y z:Str}:∃k,(qA V [.new V.calls.length y,.leg ⟨V.calls.length,y,z,y⟩]).calls[V.calls.length]?=ga k:=by
 have:V.calls.length<(qA V [.new V.calls.length y,.leg ⟨V.calls.length,y,z,y⟩]).calls.length:=by show V.calls.length<((V.calls++[xQ y]).modify _ _).length;rw[fR,c9];exact fG _
 exact⟨_,cY this⟩
def Bg{V:qa}{i:Nat}{c:pf}{x y:Str}{fs:T0 Nat}(wf:WF l V)(hc:V.calls[i]?=ga c)(hs:c.st="rings")(hy:y∈l.nm):zg l (qA V [.asks i x fs,.quiet i,.leg ⟨i,x,y,x⟩]) (ga i):=by
 refine HX (v:=⟨i,x,y,x⟩) ?_ hy;have k:=wf.ok i c hc;have w1:WF l (pP V (.asks i x fs)):=En wf;have sh:c.ms=[]/\c.hd=Fa/\c.wd=Fa:=by
  rcases k.sh with g|⟨_,g|g|⟨_,g⟩|g⟩
  .exact⟨g.2.1,g.2.2.1,g.2.2.2.1⟩
  all_goals(rw[hs]at g;exact absurd g.1 (by decide))
 refine w1.set (i:=i) (c:=c) (c':=c.mX) (rm (V:=qI (pP V (.asks i x fs)) _) hc) hc (λj hj=>(Bk j hj).symm) ?_ (λx g=>.inl ?_) (λx g=>.inl ?_) (λx g=>?_) wf.nx
 .rw[ft];exact⟨.inl ⟨hs,sh.1,sh.2.1,sh.2.2,λ_=>rfl,(λh=>by cases h)⟩,k.cr,(λx h=>by cases h),k.ms,eJ,k.mn,(λh=>by cases h),k.wy⟩
 .exact(sD hs).mpr ((sD (c:=c.mX) hs).mp g)
 .rcases(sC (c:=c.mX) hs).mp g with y|y
  .exact(sC hs).mpr (.inl y)
  .cases y
 .have:=(rY.mp g).1;rw[show c.mX.st="rings" from hs]at this;exact absurd this (by decide)
inductive Vz(l:pz)(V:qa)(i:Nat):List Nat->Prop
 | no:Vz l V i []
 | on (c:pf) (k:Nat) (r:List Nat) (b:Bool) (x y:Str) (n:Int):V.calls[i]?=ga c->c.st="rings"->l.mx[k]?=ga (b,.silent x y n)->c.way.getLast?=ga x->y∈l.nm->Vz l V i (k::r)
def ED{V:qa}(ok:qY l):Vz l V i (ym l V i):=by
 unfold ym;cases e:V.calls[i]? with
 | none=>exact .no
 | some c=>
  dsimp only[Option.elim];by_cases hs:(c.st=="rings")=Db
  .rw[df hs];cases q:Ic l V (F4 c)with
   | nil=>exact .no
   | cons k r=>
    obtain⟨⟨b,w⟩,e1,e2⟩:=FO (i:=k) (by rw[q];exact dH);cases w with
    | silent x y n=>unfold F4 at e2;rw[dY,fj]at e2;exact .on c k r b x y n e (ZB hs) e1 e2.1 (BF ok (fk e1) (z:=Str.empty) Z')
    | _=>cases e2
  .rw[de hs];exact .no
def yh{l:pz}{V:qa}{i k:Nat}{r:T0 Nat}{b:Bool}{x y:Str}{n:Int}(h:l.mx[k]?=ga (b,.silent x y n)):sJ l V i (k::r)=[.asks i x (k::r),.quiet i,.leg ⟨i,x,y,x⟩]++uU l (qA V [.asks i x (k::r),.quiet i,.leg ⟨i,x,y,x⟩]) i:=by unfold sJ;simp only[List.head?_cons,lK,h]
def Bp{V:qa}{i:Nat}{c:pf}{x y:Str}{fs:T0 Nat}(h:V.calls[i]?=ga c):(qA V [.asks i x fs,.quiet i,.leg ⟨i,x,y,x⟩]).calls[i]?=ga (c.mX.go y):=by show((V.calls.modify i pf.mX).modify i _)[i]?=_;rw[gR,gR,h];simp
def Ew{V:qa}(ok:qY l)(wf:WF l V):WF l (qA V (sJ l V i (ym l V i))):=by
 have d:=ED (V:=V) (i:=i) ok;generalize ym l V i=fs at d;cases d with
 | no=>exact wf
 | on c k r b x y n hc hs hk hw hy=>rw[yh hk,rA];exact Q7 ok (Bg wf hc hs hy) (Bp hc)
theorem Fv(ok:qY l):∀(is:T0 Nat) {V:qa},WF l V->WF l (qA V (qN l is V))
 | [],_,wf=>wf
 | i::r,V,wf=>by unfold qN;rw[rA];exact Fv ok r (Ew ok wf)
theorem DL(l:pz)(i:Nat):∀(is:T0 Nat) (V:qa),qN l (is++[i]) V=qN l is V++sJ l (qA V (qN l is V)) i (ym l (qA V (qN l is V)) i)
 | [],V=>by show sJ l V i _++[]=[]++_;rw[eN];rfl
 | j::r,V=>by show sJ l V j _++qN l (r++[i]) _=(sJ l V j _++qN l r _)++_;rw[DL l i r,eY,show qN l (j::r) V=sJ l V j (ym l V j)++qN l r (qA V (sJ l V j (ym l V j)))from Z',rA]
def tO{x y:Str}:y∈sm ss x↔y∈ss/\y≠x:=by unfold sm;rw[fE,gM,fW]
theorem xA{x:Str}:∀{ss:QQQ},ss.Nodup->x∈ss->(sm ss x).length+1=ss.length
 | [],_,h=>by cases h
 | y::r,nd,h=>by
  have nd:=dR.mp nd;unfold sm;rw[gW];by_cases e:y=x
  .subst e;rw[show(!(y==y))=pc by simp,de (by decide),ky.mpr λz hz=>by
    have:z≠y:=λq=>nd.1 (q ▸ hz)
    simpa using this]
   rfl
  .have h:x∈r:=by
    rcases dz.mp h with q|q
    .exact absurd q.symm e
    .exact q
   rw[df (by simpa using e)];have:=xA nd.2 h;unfold sm at this;rw[eA,eA,this]
def P7{V:qa}{i:Nat}{c:pf}{x:Str}(wf:WF l V)(hc:V.calls[i]?=ga c)(hl:c.m8 x=Db):WF l (qA V (tZ V x i)):=by
 have k:=wf.ok i c hc;unfold tZ;rw[hc];dsimp only[Option.elim];by_cases h1:c.mJ x=Db
 .rw[df h1];exact wW (V':=pP V (.over i "left")) wf hc (.inl Z') (by decide) (rm (V:=qI V _) hc) wf.nx
 .rw[de h1];have e1:(pP V (.leaves i x)).calls=V.calls.set i (c.drop x):=rm (V:=qI V _) hc;by_cases h2:hasS c.at_ x=Db
  .rw[df h2];by_cases h3:sm c.at_ x=[]
   .rw[df h3];refine wW (V':=pP (pP V (.leaves i x)) (.over i "refused")) wf hc (.inl Z') (by decide) (w:="refused") ?_ wf.nx;have h4:(pP V (.leaves i x)).calls[i]?=ga (c.drop x):=by rw[e1,fC (cZ.mp hc).1]
    show(xm (qI (pP V (.leaves i x)) _) i _).calls=_;rw[rm (V:=qI (pP V (.leaves i x)) _) h4];show(pP V (.leaves i x)).calls.set i _=_;rw[e1,jC];rfl
   .rw[de h3];have hs:c.st="rings"/\c.ms=[]/\c.hd=Fa/\c.wd=Fa:=by
     rcases k.sh with g|⟨_,g|g|⟨_,g⟩|g⟩
     .exact⟨g.1,g.2.1,g.2.2.1,g.2.2.2.1⟩
     .exfalso;have:=xA k.an (qM.mp h2);rw[g.2.2.2.2]at this;exact h3 (gw.mp (by lia))
     .rw[g.2.2.2.2]at h2;cases h2
     .rw[g.2.2.2.2.2]at h2;cases h2
     .rw[g.2.2.2.1]at h2;cases h2
    refine wf.set (V':=pP V (.leaves i x)) (c':=c.drop x) e1 hc (λ_ _=>rfl) ⟨.inl ⟨hs.1,by show sm c.ms x=[];rw[hs.2.1];rfl,hs.2.2.1,hs.2.2.2,(λh=>by cases h),λ_=>h3⟩,k.cr,λy hy=>k.at_ y (tO.mp hy).1,λy hy=>k.ms y (tO.mp hy).1,k.an.sublist fY,k.mn.sublist fY,λhy=>k.ca (tO.mp hy).1,k.wy⟩ (λy g=>?_) (λy g=>?_) (λy g=>?_) wf.nx
    .exact .inl ((sD hs.1).mpr ((sD (c:=c.drop x) hs.1).mp g))
    .refine .inl ((sC hs.1).mpr (((sC (c:=c.drop x) hs.1).mp g).imp id λh=>(tO.mp h).1))
    .have:=(rY.mp g).1;rw[show(c.drop x).st="rings" from hs.1]at this;exact absurd this (by decide)
  .rw[de h2];by_cases h3:2<c.ms.length
   .rw[df h3];have hx:x∈c.ms:=by unfold pf.m8 at hl;rw[dG.mpr h1,dG.mpr h2,fJ,fJ]at hl;exact qM.mp hl
    have hs:c.st="talks"/\c.ms.length=3/\c.hd=Fa/\c.wd=Fa/\c.at_=[]:=by
     rcases k.sh with g|⟨_,g|g|⟨_,g⟩|g⟩
     .rw[g.2.1]at h3;cases h3
     .rw[g.2.1]at h3;cases h3
     .exact⟨g.1,g.2.1.elim (λq=>by lia) id,g.2.2⟩
     .omega
     .rw[g.2.1]at h3;cases h3
    have dl:=xA k.mn hx;refine wf.set (V':=pP V (.leaves i x)) (c':=c.drop x) e1 hc (λ_ _=>rfl) ⟨.inr ⟨Z',.inr (.inl ⟨hs.1,.inl (by show(sm c.ms x).length=2;lia),hs.2.2.1,hs.2.2.2.1,by show sm c.at_ x=[];rw[hs.2.2.2.2];rfl⟩)⟩,k.cr,λy hy=>k.at_ y (tO.mp hy).1,λy hy=>k.ms y (tO.mp hy).1,k.an.sublist fY,k.mn.sublist fY,λhy=>k.ca (tO.mp hy).1,k.wy⟩ (λy g=>?_) (λy g=>?_) (λy g=>?_) wf.nx
    .exact .inl ((tw hs.1).mpr (tO.mp ((tw (c:=c.drop x) hs.1).mp g)).1)
    .exact .inl ((sL (.inl hs.1)).mpr (tO.mp ((sL (c:=c.drop x) (.inl hs.1)).mp g)).1)
    .have:=(rY.mp g).1;rw[show(c.drop x).st="talks" from hs.1]at this;exact absurd this (by decide)
   .rw[de h3];exact wW (V':=pP V (.over i "done")) wf hc (.inl Z') (by decide) (rm (V:=qI V _) hc) wf.nx
def Kq{V:qa}{i:Nat}{c:pf}(wf:WF l V)(hc:V.calls[i]?=ga c)(hx:hasS c.at_ x=Db)(hi:Dk V x)(hf:c.mD x=Db->tN l V x=Db):WF l (pP V (.talks i [c.cr,x])):=by
 have k:=wf.ok i c hc;have hx:=qM.mp hx;have XN:c.cr≠x:=λq=>k.ca (q ▸ hx);have hs:(c.st="rings"\/c.st="waits")/\c.wd=Fa:=by
  rcases k.sh with g|⟨_,g|g|⟨_,g⟩|g⟩
  .exact⟨.inl g.1,g.2.2.2.1⟩
  .exact⟨.inr g.1,g.2.2.2.1⟩
  .rw[g.2.2.2.2]at hx;cases hx
  .rw[g.2.2.2.2.2]at hx;cases hx
  .rw[g.2.2.2.1]at hx;cases hx
 have ec:Bo c c.cr/\c.hasB c.cr=Db:=by
  rcases hs.1 with g|g
  .exact⟨(sD g).mpr Z',(sC g).mpr (.inl Z')⟩
  .exact⟨(D8 g).mpr Z',(DW g).mpr Z'⟩
 refine wf.set (V':=pP V (.talks i [c.cr,x])) (c':=c.mV [c.cr,x]) (rm (V:=qI V _) hc) hc (λ_ _=>rfl) ⟨.inr ⟨Z',.inr (.inl ⟨Z',.inl Z',Z',hs.2,Z'⟩)⟩,k.cr,(λy h=>by cases h),(λy h=>?_),eJ,?_,(λh=>by cases h),k.wy⟩ (λy g=>?_) (λy g=>?_) (λy g=>?_) wf.nx
 .rcases dz.mp h with g|g
  .rw[g];exact k.cr
  .rw[dh.mp g];exact k.at_ x hx
 .exact dR.mpr ⟨λh=>XN (dh.mp h),dR.mpr ⟨dW,eJ⟩⟩
 .rcases dz.mp ((tw (c:=c.mV [c.cr,x]) Z').mp g)with h|h
  .rw[h];exact .inl ec.1
  .rw[dh.mp h];exact .inr hi
 .rcases dz.mp ((sL (c:=c.mV [c.cr,x]) (.inl Z')).mp g)with h|h
  .rw[h];exact .inl ec.2
  .rw[dh.mp h];rcases hs.1 with q|q
   .exact .inl ((sC q).mpr (.inr hx))
   .exact .inr (Fp (hf (rY.mpr ⟨q,hx⟩)))
 .exact absurd (rY.mp g).1 (show("talks":Str)≠"waits" by decide)
def wB{c:pf}{x:Str}:c.mL x=Db↔c.st="talks"/\x∈c.ms/\c.ms.length=2:=by unfold pf.mL pf.mI;rw[dY,dY,fj,qM,fj,and_assoc]
def L8{c:pf}(k:vT l pc c)(h:c.st="talks"):c.hd=Fa/\c.wd=Fa/\c.at_=[]:=by
 rcases k.sh with g|⟨_,g|g|⟨_,g⟩|g⟩
 .rw[h]at g;exact absurd g.1 (by decide)
 .rw[h]at g;exact absurd g.1 (by decide)
 .exact g.2.2
 .rw[h]at g;exact absurd g.1 (by decide)
 .rw[h]at g;exact absurd g.1 (by decide)
def FG{c:pf}{x:Str}(k:vT l pc c)(h:c.hd=ga x):c.st="held"/\c.ms.length=2/\x∈c.ms/\c.wd=Fa/\c.at_=[]:=by
 rcases k.sh with g|⟨_,g|g|⟨y,g⟩|g⟩
 .rw[h]at g;cases g.2.2.1
 .rw[h]at g;cases g.2.2.1
 .rw[h]at g;cases g.2.2.1
 .have e:=g.2.2.1;rw[h]at e;cases e;exact⟨g.1,g.2.1,g.2.2.2⟩
 .rw[h]at g;cases g.2.2.1
def Pf{V:qa}{i:Nat}{c:pf}{x:Str}(wf:WF l V)(hc:V.calls[i]?=ga c)(hx:c.mL x=Db):WF l (pP V (.held i x)):=by
 have k:=wf.ok i c hc;obtain⟨h1,h2,h3⟩:=wB.mp hx;obtain⟨s1,s2,s3⟩:=L8 k h1;refine wf.set (V':=pP V (.held i x)) (c':=c.hold x) (rm (V:=qI V _) hc) hc (λ_ _=>rfl) ⟨.inr ⟨Z',.inr (.inr (.inl ⟨x,Z',h3,Z',h2,s2,s3⟩))⟩,k.cr,k.at_,k.ms,k.an,k.mn,k.ca,k.wy⟩ (λy g=>.inl ?_) (λy g=>.inl ?_) (λy g=>?_) wf.nx
 .exact(tw h1).mpr ((Cd (c:=c.hold x) Z').mp g).1
 .exact(sL (.inl h1)).mpr ((sL (c:=c.hold x) (.inr Z')).mp g)
 .exact absurd (rY.mp g).1 (show("held":Str)≠"waits" by decide)
def O6{V:qa}{i:Nat}{c:pf}{x:Str}(wf:WF l V)(hc:V.calls[i]?=ga c)(hx:c.hd=ga x)(hi:Dk V x):WF l (pP V (.talks i c.ms)):=by
 have k:=wf.ok i c hc;obtain⟨h1,h2,h3,h4,h5⟩:=FG k hx;refine wf.set (V':=pP V (.talks i c.ms)) (c':=c.mV c.ms) (rm (V:=qI V _) hc) hc (λ_ _=>rfl) ⟨.inr ⟨Z',.inr (.inl ⟨Z',.inl h2,Z',h4,Z'⟩)⟩,k.cr,(λy h=>by cases h),k.ms,eJ,k.mn,(λh=>by cases h),k.wy⟩ (λy g=>?_) (λy g=>.inl ?_) (λy g=>?_) wf.nx
 .have g:=(tw (c:=c.mV c.ms) Z').mp g;by_cases e:y=x
  .rw[e];exact .inr hi
  .exact .inl ((Cd h1).mpr ⟨g,λq=>e (dv (q.symm.trans hx))⟩)
 .exact(sL (.inr h1)).mpr ((sL (c:=c.mV c.ms) (.inl Z')).mp g)
 .exact absurd (rY.mp g).1 (show("talks":Str)≠"waits" by decide)
def DO{c:pf}{x:Str}(nd:c.ms.Nodup)(h2:c.ms.length=2)(hx:x∈c.ms):qr c x∈c.ms/\qr c x≠x:=by
 have dl:=xA nd hx;obtain⟨y,r,e⟩:=List.exists_cons_of_length_pos (show 0<(sm c.ms x).length by lia);have hm:y∈sm c.ms x:=by rw[e];exact dH
 unfold qr;rw[e];exact tO.mp hm
def EY{V:qa}{i j:Nat}{c d:pf}{w x:Str}(wf:WF l V)(hc:V.calls[i]?=ga c)(hd:V.calls[j]?=ga d)(h1:c.hd=ga x)(h2:d.mL x=Db):i≠j/\WF l (pP V (.merge i j (if (w=="hand")=Db then[qr c x,qr d x]else[x,qr c x,qr d x]))):=by
 have k:=wf.ok i c hc;have kd:=wf.ok j d hd;obtain⟨c1,c2,c3,c4,c5⟩:=FG k h1;obtain⟨d1,d2,d3⟩:=wB.mp h2;obtain⟨a1,a2⟩:=DO k.mn c2 c3;obtain⟨b1,b2⟩:=DO kd.mn d3 d2;have Yn:i≠j:=λq=>by subst q;rw[hc]at hd;cases hd;rw[c1]at d1;exact absurd d1 (by decide)
 refine⟨Yn,?_⟩;have ea:Bo c (qr c x):=(Cd c1).mpr ⟨a1,λq=>a2 (dv (q.symm.trans h1))⟩;have ab:qr c x≠qr d x:=λq=>Yn (wf.un i j c d _ hc hd ea (by rw[q];exact(tw d1).mpr b1));generalize hms:(if (w=="hand")=Db then[qr c x,qr d x]else[x,qr c x,qr d x])=ms;have mm:∀y∈ms,y=x\/y=qr c x\/y=qr d x:=λy hy=>by
  rw[<-hms]at hy;split at hy
  .rcases dz.mp hy with g|g
   .exact .inr (.inl g)
   .exact .inr (.inr (dh.mp g))
  .rcases dz.mp hy with g|g
   .exact .inl g
   .rcases dz.mp g with g|g
    .exact .inr (.inl g)
    .exact .inr (.inr (dh.mp g))
 have n2:[qr c x,qr d x].Nodup:=dR.mpr ⟨λh=>ab (dh.mp h),dR.mpr ⟨dW,eJ⟩⟩;refine GO (V':=pP V (.merge i j ms)) (ms:=ms) wf (.inl Z') hc hd Yn ?_ wf.nx d1 ?_ ?_ (λy hy=>?_) (λy hy=>?_)
 .show(V.calls.modify i _).modify j _=_;rw[tD hc,tD (show(V.calls.set i _)[j]?=ga d by rw[fB Yn];exact hd)]
 .rw[<-hms];split
  .exact n2
  .refine dR.mpr ⟨λh=>?_,n2⟩;rcases dz.mp h with g|g
   .exact a2 g.symm
   .exact b2 (dh.mp g).symm
 .rw[<-hms];split
  .exact .inl Z'
  .exact .inr Z'
 .rcases mm y hy with g|g|g
  .rw[g];exact .inl d2
  .rw[g];exact .inr ⟨ea,(sL (.inr c1)).mpr a1⟩
  .rw[g];exact .inl b1
 .rcases mm y hy with g|g|g
  .rw[g];exact k.ms x c3
  .rw[g];exact k.ms _ a1
  .rw[g];exact kd.ms _ b1
def Sn{V:qa}{i:Int}(h:zP V.calls.length i=Db):∃c,V.calls[i.toNat]?=ga c:=by unfold zP at h;rw[dY,eE,eE]at h;exact⟨_,cY (by lia)⟩
def E6{V:qa}{b:Bool}(h:(if ((uq V x).isNone&&b)=Db then ga ("full":Str)else uq V x)=Fa):uq V x=Fa/\b=pc:=by
 cases e:uq V x with
 | some w=>rw[e]at h;cases h
 | none=>
  rw[e]at h;cases b with
  | true=>cases h
  | false=>exact⟨Z',Z'⟩
inductive DP(l:pz)(V:qa)(x:Str):Str->List Int->Prop
 | answer (i:Int) (c:pf):0<=i->V.calls[i.toNat]?=ga c->hasS c.at_ x=Db->Dk V x->(c.mD x=Db->tN l V x=Db)->DP l V x "answer" [i]
 | hang (i:Int) (c:pf):0<=i->V.calls[i.toNat]?=ga c->c.m8 x=Db->DP l V x "hang" [i]
 | hold (i:Int) (c:pf):0<=i->V.calls[i.toNat]?=ga c->c.mL x=Db->DP l V x "hold" [i]
 | back (i:Int) (c:pf):0<=i->V.calls[i.toNat]?=ga c->c.hd=ga x->Dk V x->DP l V x "back" [i]
 | two (w:Str) (i j:Int) (c d:pf):0<=i->0<=j->w="hand"\/w="join"->V.calls[i.toNat]?=ga c->V.calls[j.toNat]?=ga d->c.hd=ga x->d.mL x=Db->DP l V x w [i,j]
def Cg{V:qa}{w x:Str}(f:(sF.num w x ns).mT)(h:wD l V (.num w x ns)=Fa):x∈l.pn/\DP l V x w ns:=by
 have hp:hasS l.pn x=Db:=by
  cases q:hasS l.pn x with
  | true=>rfl
  | false=>unfold wD at h;dsimp only at h;rw[df q]at h;cases h
 refine⟨qM.mp hp,?_⟩;unfold wD at h;dsimp only at h;rw[de (by rw[hp];decide)]at h;unfold K0 at h;cases q1:ns.all (zP V.calls.length)with
 | false=>rw[df q1]at h;cases h
 | true=>
 rw[de (by rw[q1];decide)]at h;cases q2:IC w x (tG V ns)with
 | false=>rw[df q2]at h;cases h
 | true=>
 rw[de (by rw[q2];decide)]at h;have z:∀i∈ns,0<=i/\∃c,V.calls[i.toNat]?=ga c:=λi hi=>by have g:=eX.mp q1 i hi;refine⟨?_,Sn g⟩;unfold zP at g;rw[dY,eE]at g;exact g.1
 rcases f with⟨fw,fl⟩|⟨fw,fl⟩
 .match ns,fl with
  | [i],_=>
   obtain⟨hi,c,hc⟩:=z i dH;have ec:tG V [i]=[c]:=by unfold tG;rw[fX,hc];rfl
   rw[ec]at h q2;rcases fw with rfl|rfl|rfl|rfl
   .rw[de (by decide)]at h;obtain⟨h1,h2⟩:=E6 h;refine .answer i c hi hc q2 (E8 h1) λhw=>?_;have h2:(c.mD x&&!(tN l V x))=pc:=h2;rw[hw]at h2
    simpa using h2
   .exact .hang i c hi hc q2
   .exact .hold i c hi hc q2
   .rw[de (by decide)]at h;exact .back i c hi hc (ZB q2) (E8 (E6 h).1)
 .match ns,fl with
  | [i,j],_=>
   obtain⟨hi,c,hc⟩:=z i dH;obtain⟨hj,d,hd⟩:=z j (dF _ dH);have ec:tG V [i,j]=[c,d]:=by unfold tG;rw[fX,hc];dsimp only;rw[fX,hd];rfl
   rw[ec]at q2;have q3:((c.hd==ga x)&&d.mL x)=Db:=by rcases fw with rfl|rfl<;>exact q2
   rw[dY]at q3;exact .two w i j c d hi hj fw hc hd (ZB q3.1) q3.2
def Bj{V:qa}{y z:Str}(h:wD l V (.call y z)=Fa):y∈l.pn/\z∈l.nm/\Dk V y/\tN l V y=Db:=by
 unfold wD at h;dsimp only at h;cases q:hasS l.pn y with
 | false=>rw[df q]at h;cases h
 | true=>
 rw[de (by rw[q];decide)]at h;unfold Ga at h;cases q1:hasS l.nm z with
 | false=>rw[df q1]at h;cases h
 | true=>
 rw[de (by rw[q1];decide)]at h;obtain⟨h1,h2⟩:=E6 h;exact⟨qM.mp q,qM.mp q1,E8 h1,by simpa using h2⟩
def UV{V:qa}{b:Bool}{i:Int}(h:wD l V (.sw b i)=Fa):0<=i/\i.toNat<V.on.length:=by
 unfold wD Pb at h;dsimp only at h;cases q:zP V.on.length i with
 | false=>rw[df q]at h;cases h
 | true=>unfold zP at q;rw[dY,eE,eE]at q;lia
def va{V:qa}{w x:Str}{i:Nat}{c:pf}(h:V.calls[i]?=ga c):yI V w x i=if (w=="answer")=Db then .talks i [c.cr,x]else if (w=="hold")=Db then .held i x else .talks i c.ms:=by unfold yI;rw[h];rfl
def Ct{V:qa}{w x:Str}{i j:Nat}{c d:pf}(h:V.calls[i]?=ga c)(g:V.calls[j]?=ga d):CO V w x i j=.merge i j (if (w=="hand")=Db then[qr c x,qr d x]else[x,qr c x,qr d x]):=by unfold CO;rw[h,g];rfl
def UW{V:qa}{e:sF}(ok:qY l)(wf:WF l V)(f:e.mT)(h:wD l V e=Fa):WF l (qA V (vm l V e)):=by
 cases e with
 | call y z=>obtain⟨h1,h2,h3,h4⟩:=Bj h;obtain⟨k,hk⟩:=Hw (V:=V) (y:=y) (z:=z);show WF l (qA V (_++uU l _ _));rw[rA];exact Q7 ok (E5 wf h1 h2 h3 h4) hk
 | turn=>exact Fv ok _ (Bh wf)
 | sw b i=>exact U8 wf
 | num w x ns=>
  obtain⟨_,n⟩:=Cg f h;cases n with
  | answer i c hi hc h1 h2 h3=>show WF l (pP V (yI V "answer" x i.toNat));rw[va hc];exact Kq wf hc h1 h2 h3
  | hang i c hi hc h1=>exact P7 wf hc h1
  | hold i c hi hc h1=>show WF l (pP V (yI V "hold" x i.toNat));rw[va hc];exact Pf wf hc h1
  | back i c hi hc h1 h2=>show WF l (pP V (yI V "back" x i.toNat));rw[va hc];exact O6 wf hc h1 h2
  | two _ i j c d hi hj hw hc hd h1 h2=>show WF l (pP V (CO V w x i.toNat j.toNat));rw[Ct hc hd];exact(EY wf hc hd h1 h2).2
def Oc(a:Ad):rb:=λds M Q=>Lk λM0 b A V l c n x i k=>ds=[.ref b,.str x,.int ((i:Nat):Int)]/\uC a M0 M b A V l c n/\c<=1000000/\n<=7000000/\V.calls[i]?=ga k/\∀M' A',uC a M0 M' b A' (qA V (tZ V x i)) l c (n+2)->qO A M A' M'->Q .mC M'
def PR(a:Ad):rb:=λds M Q=>KA λA V l L k c=>ds=[.ref A.b,.ref (rB.p k)]/\Rd a M A V l/\rP a M L k c/\Q (xE (Ic l V (F4 c))) M
def Pm(a:Ad):rb:=λds M Q=>Lk λM0 b A V l c n i k r=>ds=[.ref b,.int ((i:Nat):Int),xE (k::r)]/\uC a M0 M b A V l c n/\c<=1000000/\n<=6900000/\WF l V/\Vz l V i (k::r)/\∀M' A',uC a M0 M' b A' (qA V (sJ l V i (k::r))) l c (n+33)->qO A M A' M'->Q .mC M'
def P9(a:Ad):rb:=λds M Q=>Tx λM0 b A V l c n=>ds=[.ref b]/\uC a M0 M b A V l c n/\c<=10000/\n<=6000000/\WF l V/\∀M' A',uC a M0 M' b A' (qA V (Fc l V)) l c (n+1+33*c)->qO A M A' M'->Q .mC M'
def Te{a:Ad}{M:Mp}{c:pf}{v:Wi}{r:lf}{Q:DK}(h:M r=ga (.ins (v.cls a) v.ny))(hk:rP a M L k c)(q:Q (.bl (F4 c v)) M):Nc a v [.ref r,.ref k.p] M Q:=by
 cases v with
 | silent x y n=>exact⟨r,L,k,c,Z',h,hk,q⟩
 | _=>exact⟨_,_,Z',q⟩
def OP:Fq P w K mg base 4 a.a6 (Oc a):=by
 refine fq G.a6.toDG B6 (λr u=>⟨_,(oX (pF 3 B6 (pD (pj v0) U2))
 (oY (pJ (ur (pR U3 G.e.toCls G.U (Bx G) r (pZ U1)))
 (oY (pH (pR v0 G.c.toCls G.k (qS G) r (pZ (pI (rh pb U2 pb))))))
 (oY (pJ (pB u U1 (pj U3))
 (oX (pH (pR v0 G.c.toCls G.k (qS G) r (pZ (pI (rh pb U2 U1)))))
 (oY (pJ (pB u (pM qm Z' G.g ql (pZ (pj U3))) o9)
 (oY (pH (pR v0 G.c.toCls G.k (qS G) r (pZ (pI (rh pb U2 pb))))))
 pE)))
 (oY (pJ (pB u (pM qm Z' G.g ql (pZ (pj U3))) o9)
 (oY (pH (pR v0 G.c.toCls G.k (qS G) r (pZ (pI (rh pb U2 U1))))))
 (oY (pH (pR v0 G.c.toCls G.k (qS G) r (pZ (pI (rh pb U2 pb))))))))))))),?_⟩)
 rintro ds M Q ⟨M0,b,A,V,l,cc,n,x,i,c,rfl,cu,ZQ,hn,hc,q⟩
 obtain⟨ka,ci⟩:=cu.call hc;obtain⟨ad,md,h1,h2,h3,h4,n1,n2⟩:=ci.cell;have hi:=(cZ.mp hc).1;refine oZ cu.at_ (i' Z' (i' Z' (i' ci.bd.ca (i' (qZ ci.e1) ?_))));refine oZ h1 ⟨Z',_,⟨Z',Z'⟩,_,ka,c,x,Z',ci.cell,?_⟩;unfold tZ at q;rw[hc]at q;dsimp only[Option.elim]at q;have over:∀(w0:Str),(∀M' A',uC a M0 M' b A' (qA V [.over i w0]) l cc (n+2)->qO A M A' M'->Q .mC M')->∀(M1:Mp) (A1:tK),A1.b=A.b->qO A M A1 M1->pG a M1 A1 (pP V (.over i w0))->∃Xr,qz Xr M1/\Q .mC Xr:=λw0 q M1 A1 eb st bd=>⟨M1,.refl,q M1 A1 ((cu.after (e:=.over i w0) hi eb st bd).mono (dq _) (by lia)) st⟩;refine qC (c:=c.mJ x) (λg=>?_) (λg=>?_)
 .rw[df g]at q;exact oZ cu.at_ ⟨Z',_,⟨Z',Z'⟩,oV Z',b,A,V,.over i "left",Z',cu.b,cu.bd,cu.lim ZQ (by lia),hi,over "left" q⟩
 rw[de g]at q;refine oZ h1 (i' Z' (i' h3 ⟨Z',qp _,?_⟩));show if inD (.str x) (c.at_.map D.str)=Db then _ else _
 rw[sf];refine qC (c:=hasS c.at_ x) (λg2=>?_) (λg2=>?_)
 .rw[df g2]at q;refine oZ cu.at_ ⟨Z',_,⟨Z',Z'⟩,oV Z',b,A,V,.leaves i x,Z',cu.b,cu.bd,cu.lim ZQ (by lia),hi,λM1 A1 eb st bd=>?_⟩;have c1:=cu.after (e:=.leaves i x) hi eb st bd;have ZS:(pP V (.leaves i x)).calls=V.calls.set i (c.drop x):=rm (V:=qI V _) hc;have hc1:(pP V (.leaves i x)).calls[i]?=ga (c.drop x):=by rw[ZS,fC hi]
  obtain⟨ad',md',g1,Z2,g3,g4,_⟩:=c1.bd.cs i ka _ (st.2.2.1 i ka ci.e1) hc1;have le0:((((c.drop x).at_.map D.str).length:Int)==0)=decide (sm c.at_ x=[]):=by rw[cW,gm,fj,eE];show((sm c.at_ x).length:Int)=0↔_;rw[<-gw];lia
  refine oZ g1 (i' Z' (i' g3 ?_));refine qC (c:=(((c.drop x).at_.map D.str).length:Int)==0) (λg5=>?_) (λg5=>?_)
  .rw[le0,eE]at g5;rw[df g5]at q;have Yz:i<(pP V (.leaves i x)).calls.length:=(cZ.mp hc1).1;refine oZ c1.at_ ⟨Z',_,⟨Z',Z'⟩,oV Z',b,A1,_,.over i "refused",Z',c1.b,c1.bd,c1.lim ZQ (by lia),Yz,λM2 A2 eb2 XM Y0=>?_⟩;exact⟨M2,.refl,q M2 A2 (c1.after (e:=.over i "refused") Yz eb2 XM Y0) (st.trans XM)⟩
  .rw[le0,eE]at g5;rw[de g5]at q;exact⟨M1,.refl,q M1 A1 (c1.mono (dq _) (by lia)) st⟩
 .rw[de g2]at q;refine oZ h1 (i' Z' (i' h4 ?_));have lm:decide ((2:Int)<((c.ms.map D.str).length:Int))=decide (2<c.ms.length):=by rw[cW,gm,eE,eE];lia
  refine qC (c:=decide ((2:Int)<((c.ms.map D.str).length:Int))) (λg3=>?_) (λg3=>?_)
  .rw[lm,eE]at g3;rw[df g3]at q;refine oZ cu.at_ ⟨Z',_,⟨Z',Z'⟩,oV Z',b,A,V,.leaves i x,Z',cu.b,cu.bd,cu.lim ZQ (by lia),hi,λM1 A1 eb st bd=>?_⟩;exact⟨M1,.refl,q M1 A1 ((cu.after (e:=.leaves i x) hi eb st bd).mono (dq _) (by lia)) st⟩
  .rw[lm,eE]at g3;rw[de g3]at q;exact oZ cu.at_ ⟨Z',_,⟨Z',Z'⟩,oV Z',b,A,V,.over i "done",Z',cu.b,cu.bd,cu.lim ZQ (by lia),hi,over "done" q⟩
def OK:Fq P w K mg base 2 a.a7 (PR a):=by
 refine fq G.a7.toDG yu (λr u=>⟨_,(oX (pF 2 yu (pj (pj v0)))
 (oY (pk (qe uH Z' G.F ub (pZ (qE Z' (ya (ix:=[Fa,Fa,ga 2,ga 1]) (N':=["i","on","wishes","call"])) (uY Z' G.bO (pZ (pj v0))) (ue (n:=2) Z' (qh (qv 0) (qh (qv 1) sU))) (vU (W3.b3 (yR (ur U1) (yk (ur (E7 (R:=GM a) (pD U2 v0) (Vp G) (r.mono (by first|decide|lia)) (pZ U3))))))) v0)))))),?_⟩)
 rintro ds M Q ⟨A,V,l,L,k,c,rfl,rd,hk,q⟩
 obtain⟨ph,gr,ws,YZ,pr,gd,rs,i1,i2,i3,i4,i5,i6,i7,i8⟩:=rd.pl;refine oZ rd.bd.at_ (i' Z' (oZ i1 (i' Z' ?_)));refine oZ rd.bd.at_ (i' Z' (i' rd.bd.on ?_));refine Ip (rest:=[ga (.ref ws),ga (.ref k.p)]) rd.on rd.ok.w16 rd.bd.on (λi w0 ew y kk hkk=>?_) λp hp=>i' pA ⟨M,.new hp,q⟩;obtain⟨r,e1,e2⟩:=Br i8 ew;exact i' i4 (i' e1 (oZ e2 ⟨by cases w0.2<;>rfl,_,⟨w0.2,Z',Z'⟩,Te e2 hk hkk⟩))
def Qv:Fq P w K mg base 10 a.a8 (Pm a):=by
 refine fq G.a8.toDG CD (λr u=>⟨_,(oX (pF 3 CD (BJ (R:=LA a) (pD (pj (pj v0)) (pD U2 o9)) (RP G) (r.mono (by first|decide|lia))))
 (oX (pH (pR v0 G.c.toCls G.k (qS G) r (pZ (pI (pV pb (rh U1 (pD U3 o9) U2))))))
 (oX (pH (pR v0 G.c.toCls G.k (qS G) r (pZ (pI (rN pb U1)))))
 (oX (pH (pR v0 G.c.toCls G.k (qS G) r (pZ (pI (pV pb (pV U1 (rh (pD U3 o9) (pD U3 o9) (pD U3 o9))))))))
 (oY (pH (pC (Ja G) r G.ac (rN v0 U1)))))))),?_⟩)
 rintro ds M Q ⟨M0,b,A,V,l,c,n,i,k,r,rfl,cu,hc,hn,wf,du,q⟩
 obtain⟨ph,gr,ws,YZ,pr,gd,rs,i1,i2,i3,i4,i5,i6,i7,i8⟩:=cu.pl;cases du with
 | on k0 _ _ b0 x y m hk hs hw hl hy=>
  have hi:=(cZ.mp hk).1;rw[yh hw]at q;rw[rA]at q;obtain⟨r0,e1,e2⟩:=Br i8 hw;refine oZ cu.at_ (i' Z' (oZ i1 (i' Z' (i' (zw _ _) (i' i4 (i' e1 (oZ e2 ⟨Z',_,⟨⟨.silent x y m,Z'⟩,Z'⟩,r0,.silent x y m,Z',e2,?_⟩)))))));refine oZ cu.at_ ⟨Z',_,⟨Z',Z'⟩,oV Z',b,A,V,.asks i x (k::r),Z',cu.b,cu.bd,cu.lim hc (by lia),trivial,λM1 A1 eb1 X4 bd1=>?_⟩;have c1:=cu.after (e:=.asks i x (k::r)) trivial eb1 X4 bd1;refine oZ c1.at_ ⟨Z',_,⟨Z',Z'⟩,oV Z',b,A1,_,.quiet i,Z',c1.b,c1.bd,c1.lim hc (by lia),hi,λM2 A2 eb2 XM Y0=>?_⟩;have c2:=c1.after (e:=.quiet i) hi eb2 XM Y0;have YD:i<(pP (pP V (.asks i x (k::r))) (.quiet i)).calls.length:=by show i<(V.calls.modify i pf.mX).length;rw[fR];exact hi
  refine oZ c2.at_ ⟨Z',_,⟨Z',Z'⟩,oV Z',b,A2,_,.leg ⟨i,x,y,x⟩,Z',c2.b,c2.bd,c2.lim hc (by lia),YD,λM3 A3 eb3 X8 bd3=>?_⟩;have c3:=c2.after (e:=.leg ⟨i,x,y,x⟩) YD eb3 X8 bd3;exact⟨M0,b,A3,_,l,c,n+3,i,_,Z',c3,hc,by lia,Bg wf hk hs hy,Bp hk,λM4 A4 c4 st4=>⟨M4,.refl,q M4 A4 (c4.mono (dq _) (by lia)) (X4.trans (XM.trans (X8.trans st4)))⟩⟩
def Pz:Fq P w K mg base 11 a.a9 (P9 a):=by
 refine fq G.a9.toDG tE (λr u=>⟨_,(oX (pH (pR v0 G.c.toCls G.k (qS G) r (pZ (pI (pZ pb)))))
 (oY (tT eQ Z' (uY Z' G.bO (pZ (qe sI Z' G.r so (pZ (pj v0))))) (ue (n:=2) Z' (qh (rE 1 tE) (qh (rE 2 tE) sU)))
 (oY (pJ (pB u (pj U2) pb)
 (oX (pF 3 tE (pC (OK G) r G.a7 (rN v0 U2)))
 (oY (pJ (pB u (pM qm Z' G.g ql (pZ U3)) o9)
 (oY (pH (pC (Qv G) r G.a8 (rh v0 U1 U3))))
 pE)))
 pE))))),?_⟩)
 rintro ds M Q ⟨M0,b,A,V,l,c,n,rfl,cu,hc,hn,wf,q⟩
 refine oZ cu.at_ ⟨Z',_,⟨Z',Z'⟩,oV Z',b,A,V,.turn,Z',cu.b,cu.bd,cu.lim (by lia) (by lia),trivial,λM1 A1 eb st bd=>?_⟩;have c1:=cu.after (e:=.turn) trivial eb st bd;have wf1:=Bh wf;have lv:(pP V .turn).calls.length=V.calls.length:=cW ..;have ev:Fc l V=.turn::qN l (List.range V.calls.length) (pP V .turn):=rfl;rw[ev,<-lv]at q;have q:∀M' A',uC a M0 M' b A' (qA (pP V .turn) (qN l (List.range (pP V .turn).calls.length) (pP V .turn))) l c (n+1+33*c)->qO A M A' M'->Q .mC M':=q;have c1:uC a M0 M1 b A1 (pP V .turn) l c (n+1):=c1;generalize pP V .turn=V1 at c1 wf1 q bd;refine oZ c1.at_ (i' Z' (i' c1.bd.ca λr hr=>i' pA ?_));obtain⟨M2,e0,t,lr⟩:=uW (ds:=A1.cs.map λk=>D.ref k.p) hr;rw[<-e0];have nf:=c1.bd.nN hr;have c2:=c1.sub t;have cl:V1.calls.length<=c:=c1.sz.ca;refine uN (tL 0 (A1.cs.map λk=>D.ref k.p)) (λpre U M'=>(∃A',uC a M0 M' b A' (qA V1 (qN l (List.range pre.length) V1)) l c (n+1+33*pre.length)/\qO A1 M2 A' M')/\∃y1 y2 y3,U=[ga (.ref b),y1,y2,y3]) (λpre U M' j=>?_) _ [] _ _ Z' ⟨⟨A1,c2,.refl⟩,Fa,Fa,Fa,Z'⟩ ?_ ?_
 .obtain⟨⟨A',c3,X8⟩,_⟩:=j;exact sj (X8.1 r _ nf (pN lr))
 .rintro pre d post e U M' ⟨⟨A',c3,X8⟩,y1,y2,y3,rfl⟩ nx Xv
  rw[c9,dM,jQ,DL,rA]at Xv;have wf3:=Fv cu.ok (List.range pre.length) wf1;generalize qA V1 (qN l (List.range pre.length) V1)=V3 at c3 wf3 Xv;obtain⟨x,hx,rfl⟩:=Jo e;rw[dA]at hx;cases ek:A1.cs[pre.length]? with
  | none=>rw[ek]at hx;cases hx
  | some k=>
   rw[ek]at hx;have hx:D.ref k.p=x:=dv hx;subst hx;have hp:pre.length<c:=by have:=(cZ.mp ek).1;rw[c1.bd.len]at this;lia
   have ek3:=X8.2.2.1 _ k ek;have hi:pre.length<V3.calls.length:=by rw[<-c3.bd.len];exact(cZ.mp ek3).1
   have ec:V3.calls[pre.length]?=ga V3.calls[pre.length]:=cY hi;generalize V3.calls[pre.length]=cv at ec;have ca:=c3.bd.cs _ k cv ek3 ec;obtain⟨ad,md,g1,_⟩:=ca;refine⟨Z',oZ g1 (i' Z' ?_)⟩;have hdv:ym l V3 pre.length=if (cv.st=="rings")=Db then Ic l V3 (F4 cv)else[]:=by unfold ym;rw[ec];rfl
   have mC:ym l V3 pre.length=[]->∀y1' y2' y3',nx [ga (.ref b),y1',y2',y3'] M':=λh0 y1' y2' y3'=>Xv _ _ ⟨⟨A',by rw[h0];exact c3.mono (dq _) (by lia),X8⟩,_,_,_,Z'⟩;have du:=ED (V:=V3) (i:=pre.length) cu.ok;refine qC (c:=cv.st=="rings") (λg=>?_) (λg=>mC (by rw[hdv,de g]) _ _ _);rw[df g]at hdv;refine⟨A',V3,l,_,k,cv,by rw[c3.b],c3.rd (by lia) wf3,c3.bd.cs _ k cv ek3 ec,?_⟩;rw[<-hdv];cases hdq:ym l V3 pre.length with
   | nil=>exact mC hdq _ _ _
   | cons k0 r0=>rw[hdq]at du Xv;refine yQ (dS (by rw[cW];show(0:Int)<((k0::r0).length:Nat);rw[eA];lia)) ?_;exact⟨M0,b,A',V3,l,c,_,pre.length,k0,r0,Z',c3,by lia,by lia,wf3,du,λM4 A4 c4 st4=>Xv _ _ ⟨⟨A4,c4.mono (dq _) (by lia),X8.trans st4⟩,_,_,_,Z'⟩⟩
 .rintro U M' ⟨⟨A',c3,X8⟩,y1,y2,y3,rfl⟩
  have hl:(tL 0 (A1.cs.map λk=>D.ref k.p)).length=V1.calls.length:=by rw[uL,cW,c1.bd.len]
  rw[hl]at c3;exact⟨M',.refl,q M' A' (c3.mono (dq _) (by lia)) (st.trans ((qO.sub t).trans X8))⟩
inductive Q2(l:pz)(V:qa):sF->Ev->Prop
 | sw (b:Bool) (i:Nat):i<V.on.length->Q2 l V (.sw b (i:Nat)) (.sw b i)
 | answer (x:Str) (i:Nat) (c:pf):V.calls[i]?=ga c->Q2 l V (.num "answer" x [(i:Nat)]) (.talks i [c.cr,x])
 | hold (x:Str) (i:Nat) (c:pf):V.calls[i]?=ga c->Q2 l V (.num "hold" x [(i:Nat)]) (.held i x)
 | back (x:Str) (i:Nat) (c:pf):V.calls[i]?=ga c->Q2 l V (.num "back" x [(i:Nat)]) (.talks i c.ms)
 | two (w x:Str) (i j:Nat) (c d:pf):i≠j->w="hand"\/w="join"->V.calls[i]?=ga c->V.calls[j]?=ga d->sm c.ms x≠[]->sm d.ms x≠[]->Q2 l V (.num w x [(i:Nat),(j:Nat)]) (.merge i j (if (w=="hand")=Db then[qr c x,qr d x]else[x,qr c x,qr d x]))
def Gm(a:Ad):rb:=λds M Q=>GH λA V l e ev=>ds=[.ref A.b,sF.d e]/\Rd a M A V l/\Q2 l V e ev/\Q ev.d M
def Se(a:Ad):rb:=λds M Q=>Ts λM0 b A V l c n e=>ds=[.ref b,sF.d e]/\uC a M0 M b A V l c n/\c<10000/\n<=5000000/\WF l V/\e.mT/\wD l V e=Fa/\∀M' A',uC a M0 M' b A' (qA V (vm l V e)) l (c+1) (n+40+33*c)->qO A M A' M'->Q .mC M'
def WZ(a:Ad)(M0 M:Mp)(b:lf)(A:tK)(V:qa)(l:pz)(c n:Nat)(e:sF)(Q:DK):Prop:=wD l V e=Fa->∀M' A' r,uC a M0 M' b A' (qA V (vm l V e)) l (c+1) (n+40+33*c)->qO A M A' M'->M' r=Fa->Q (.ref r) (pq M' r (.lst ((vm l V e).map Ev.d)))
def Us(a:Ad):Ge:=λds M Q R=>Ts λM0 b A V l c n e=>ds=[.ref b,sF.d e]/\uC a M0 M b A V l c n/\c<10000/\n<=5000000/\WF l V/\e.mT/\WZ a M0 M b A V l c n e Q/\(∀w,wD l V e=ga w->R a.I (ga ("word",.str w)) M)
def Rd.call{V:qa}(rd:Rd a M A V l){i:Nat}{c:pf}(e:V.calls[i]?=ga c):∃k,A.cs[i]?=ga k/\rP a M (A.lists++V.fo) k c:=by
 have hi:i<A.cs.length:=by rw[rd.bd.len];exact(cZ.mp e).1
 exact⟨A.cs[i],cY hi,rd.bd.cs i _ c (cY hi) e⟩
def yD{i:Int}(h:0<=i):∃m:Nat,i=(m:Int):=eB h
def Ji{c:pf}{x:Str}(nd:c.ms.Nodup)(h2:c.ms.length=2)(hx:x∈c.ms):sm c.ms x≠[]:=λz=>by have:=xA nd hx;rw[z]at this;simp only[dN]at this;lia
def Nr:Fq P w K mg base 2 a.ba (Gm a):=by
 refine fq G.ba.toDG tq (λr u=>⟨_,(oX (pF 2 tq (pD U1 o9))
 (oX (pJ (pB u U2 (pI (rN pb pb)))
 (oY (pk (pI (rN U2 (pD U1 o9)))))
 pE)
 (oX (pF 3 tq (pD U1 o9))
 (oX (pF 4 tq (pD U1 o9))
 (oX (pF 5 tq (pD (pj v0) v4))
 (oX (pJ (pB u U2 pb)
 (oY (pk (pI (rh pb v4 (pI (rN (pj v5) U3))))))
 pE)
 (oX (pJ (pB u U2 pb)
 (oY (pk (pI (rh pb v4 U3))))
 pE)
 (oX (pJ (pB u U2 pb)
 (oY (pk (pI (rh pb v4 (qe uH Z' G.F ub (pZ (pj v5)))))))
 pE)
 (oX (pF 6 tq (pD U1 o9))
 (oX (pF 7 tq (pI (rN (pR v5 G.e.toCls G.au (GZ G) r (pZ U3)) (pR (pD (pj v0) v6) G.e.toCls G.au (GZ G) r (pZ U3)))))
 (oX (pJ (pB u U2 pb)
 (oY (pk (pI (pV pb (rh v4 v6 v7)))))
 pE)
 (oY (pk (pI (pV pb (rh v4 v6 (pQ (pI (pZ U3)) v7))))))))))))))))),?_⟩)
 rintro ds M Q ⟨A,V,l,e,ev,rfl,rd,sg,q⟩
 cases sg with
 | sw b i hi=>
  cases b with
  | true=>exact⟨oV Z',Z',Z',oV Z',M,.refl,q⟩
  | false=>exact⟨oV Z',Z',Z',oV Z',M,.refl,q⟩
 | answer x i c hc=>obtain⟨k,ek,ca⟩:=rd.call hc;obtain⟨ad,md,h1,h2,h3,h4,n1,n2⟩:=ca;refine⟨oV Z',Z',Z',?_⟩;refine oZ rd.bd.at_ (i' Z' (i' Z' (i' rd.bd.ca (i' (qZ ek) ?_))));exact oZ h1 (i' Z' ⟨oV Z',oV Z',M,.refl,q⟩)
 | hold x i c hc=>obtain⟨k,ek,ca⟩:=rd.call hc;refine⟨oV Z',Z',Z',?_⟩;refine oZ rd.bd.at_ (i' Z' (i' Z' (i' rd.bd.ca (i' (qZ ek) ?_))));exact⟨oV Z',M,.refl,q⟩
 | back x i c hc=>obtain⟨k,ek,ca⟩:=rd.call hc;obtain⟨ad,md,h1,h2,h3,h4,n1,n2⟩:=ca;refine⟨oV Z',Z',Z',?_⟩;refine oZ rd.bd.at_ (i' Z' (i' Z' (i' rd.bd.ca (i' (qZ ek) ?_))));exact oZ h1 (i' Z' (i' h4 ⟨oV Z',M,.refl,q⟩))
 | two wd x i j c d Yn hw hc hd nc nd=>
  obtain⟨k,ek,ca⟩:=rd.call hc;obtain⟨k',ek',ca'⟩:=rd.call hd;have ca0:=ca;have ca1:=ca';obtain⟨ad,md,h1,h2,h3,h4,n1,n2⟩:=ca0;obtain⟨ad',md',f1,_⟩:=ca1;obtain⟨y1,r1,e1⟩:=gc nc;obtain⟨y2,r2,e2⟩:=gc nd;have o1:qr c x=y1:=by unfold qr;rw[e1];rfl
  have o2:qr d x=y2:=by unfold qr;rw[e2];rfl
  rw[o1,o2]at q;rcases hw with rfl|rfl
  .refine⟨oV Z',Z',Z',?_⟩;refine oZ rd.bd.at_ (i' Z' (i' Z' (i' rd.bd.ca (i' (qZ ek) ?_))));refine oZ h1 ⟨Z',_,⟨Z',Z'⟩,_,k,c,x,y1,r1,Z',ca,(rd.ms c (qQ hc)).2,e1,?_⟩;refine oZ rd.bd.at_ (i' Z' (i' Z' (i' rd.bd.ca (i' (qZ ek') ?_))));refine oZ f1 ⟨Z',_,⟨Z',Z'⟩,_,k',d,x,y2,r2,Z',ca',(rd.ms d (qQ hd)).2,e2,?_⟩;exact⟨oV Z',oV Z',M,.refl,q⟩
  .refine⟨oV Z',Z',Z',?_⟩;refine oZ rd.bd.at_ (i' Z' (i' Z' (i' rd.bd.ca (i' (qZ ek) ?_))));refine oZ h1 ⟨Z',_,⟨Z',Z'⟩,_,k,c,x,y1,r1,Z',ca,(rd.ms c (qQ hc)).2,e1,?_⟩;refine oZ rd.bd.at_ (i' Z' (i' Z' (i' rd.bd.ca (i' (qZ ek') ?_))));refine oZ f1 ⟨Z',_,⟨Z',Z'⟩,_,k',d,x,y2,r2,Z',ca',(rd.ms d (qQ hd)).2,e2,?_⟩;exact⟨oV Z',oV Z',fH _ _,by show 1+2<=Uf;have hz:=dP;lia,oV Z',M,.refl,q⟩
def Rj:Fq P w K mg base 12 a.bb (Se a):=by
 refine fq G.bb.toDG Ld (λr u=>⟨_,(oX (pF 2 Ld (pD U1 o9))
 (oY (pJ (pB u U2 pb)
 (oY (pH (pC (LW G) r G.a5 (rh v0 (pD U1 o9) (pD U1 o9)))))
 (oY (pJ (pB u U2 pb)
 (oY (pH (pC (OP G) r G.a6 (rh v0 (pD U1 o9) (pD U1 o9)))))
 (oY (pJ (pB u U2 pb)
 (oY (pH (pC (Pz G) r G.a9 (pZ v0))))
 (oY (pH (pR v0 G.c.toCls G.k (qS G) r (pZ (pC (Nr G) r G.ba (rN v0 U1))))))))))))),?_⟩)
 rintro ds M Q ⟨M0,b,A,V,l,c,n,e,rfl,cu,hc,hn,wf,hf,hr,q⟩
 have rd:=cu.rd (by lia) wf;have one:∀(ev:Ev),Q2 l V e ev->vm l V e=[ev]->ev.ok V->ev.nw=0->Aa (M b) λC fs'=>fs'.lookup ("apply":Str)=Fa/\∃sp,(C=a.c/\sp=vN a)/\Gm a [.ref b,e.d] M λd M1=>sp [.ref b,d] M1 λ_ M'=>∃Xr,qz Xr M'/\Q .mC Xr:=λev sg he ok h0=>by refine oZ cu.at_ ⟨Z',_,⟨Z',Z'⟩,A,V,l,e,ev,by rw[cu.b],rd,sg,b,A,V,ev,Z',cu.b,cu.bd,cu.lim (by lia) (by lia),ok,λM1 A1 eb st bd=>?_⟩;rw[he]at q;have c1:=cu.after ok eb st bd;rw[h0]at c1;exact⟨M1,.refl,q M1 A1 (c1.mono (by lia) (by lia)) st⟩
 cases e with
 | call y z=>obtain⟨h1,h2,h3,h4⟩:=Bj hr;exact⟨M0,b,A,V,l,c,n,y,z,Z',cu,by lia,by lia,E5 wf h1 h2 h3 h4,λM' A' c1 st=>⟨M',.refl,q M' A' (c1.mono (by lia) (by lia)) st⟩⟩
 | turn=>exact⟨M0,b,A,V,l,c,n,Z',cu,by lia,by lia,wf,λM' A' c1 st=>⟨M',.refl,q M' A' (c1.mono (by lia) (by lia)) st⟩⟩
 | sw b0 i=>
  obtain⟨h1,h2⟩:=UV hr;obtain⟨i,rfl⟩:=yD h1;cases b0 with
  | true=>exact one (.sw Db i) (.sw Db i h2) Z' h2 Z'
  | false=>exact one (.sw pc i) (.sw pc i h2) Z' h2 Z'
 | num wd x ns=>
  obtain⟨hx,no⟩:=Cg hf hr;cases no with
  | answer i c0 hi hc0 h1 h2 h3=>obtain⟨i,rfl⟩:=yD hi;have lt:=(cZ.mp hc0).1;exact one (.talks i [c0.cr,x]) (.answer x i c0 hc0) (eI (λev=>[ev]) (va hc0)) ⟨lt,by show 2<=100;decide⟩ Z'
  | hang i c0 hi hc0 h1=>obtain⟨i,rfl⟩:=yD hi;exact⟨M0,b,A,V,l,c,n,x,i,c0,Z',cu,by lia,by lia,hc0,λM' A' c1 st=>⟨M',.refl,q M' A' (c1.mono (by lia) (by lia)) st⟩⟩
  | hold i c0 hi hc0 h1=>obtain⟨i,rfl⟩:=yD hi;have lt:=(cZ.mp hc0).1;exact one (.held i x) (.hold x i c0 hc0) (eI (λev=>[ev]) (va hc0)) lt Z'
  | back i c0 hi hc0 h1 h2=>obtain⟨i,rfl⟩:=yD hi;have lt:=(cZ.mp hc0).1;exact one (.talks i c0.ms) (.back x i c0 hc0) (eI (λev=>[ev]) (va hc0)) ⟨lt,(cu.sz.cs c0 (qQ hc0)).2.2⟩ Z'
  | two _ i j c0 d0 hi hj hw hc0 hd0 h1 h2=>
   obtain⟨i,rfl⟩:=yD hi;obtain⟨j,rfl⟩:=yD hj;have lt:=(cZ.mp hc0).1;have lt':=(cZ.mp hd0).1;have Yn:=(EY (w:=wd) wf hc0 hd0 h1 h2).1;have k0:=wf.ok _ c0 hc0;have k1:=wf.ok _ d0 hd0;obtain⟨_,u2,u3,_⟩:=FG k0 h1;obtain⟨_,v2,v3⟩:=wB.mp h2;have sg:=Q2.two (l:=l) wd x i j c0 d0 Yn hw hc0 hd0 (Ji k0.mn u2 u3) (Ji k1.mn v3 v2);have ok:(Ev.merge i j (if (wd=="hand")=Db then[qr c0 x,qr d0 x]else[x,qr c0 x,qr d0 x])).ok V:=⟨lt,lt',Yn,by split;exact(by decide:2<=100);exact(by decide:3<=100)⟩;have he:vm l V (.num wd x [(i:Int),(j:Int)])=[.merge i j (if (wd=="hand")=Db then[qr c0 x,qr d0 x]else[x,qr c0 x,qr d0 x])]:=eI (λev=>[ev]) (Ct hc0 hd0);rcases hw with rfl|rfl
   .exact one _ sg he ok Z'
   .exact one _ sg he ok Z'
def JW:xl P w K mg base (BN P w) 1 a.H.f a.H.d a.H.p (wn K "word"):=
 Lb G.H.toDG Ck λXy A outer s H E=>IL (PM (pv 0) (pv 1))
def Vr:V6 P w K mg base 13 a.N (Us a):=by
 refine Uv G.N.toDG Ig (by walk_at "m") (λ_ _ _ _ _ _ R hr hR=>⟨_,(oX (pF 2 Ig (pC (Hm G) hr G.a0 (rN v0 U1)))
 (oX (pJ (pB (WV hr) U2 rQ)
 (oY (KJ G.b6 (JW G) (hr.mono (by first|decide|lia)) G.H.b G.b7 G.H.at_ Z' G.bX hR (pZ U2)))
 pE)
 (oX (pF 3 Ig (pM qm Z' G.g ql (pZ (pj v0))))
 (oX (pH (pC (Rj G) hr G.bb (rN v0 U1)))
 (oY (pk (r6 (pj v0) (sS U3) sR))))))),?_⟩)
 .rintro ds M Q ⟨M0,b,A,V,l,c,n,e,rfl,cu,hc,hn,wf,hf,q,rr⟩
  refine⟨A,V,l,e,by rw[cu.b],cu.rd (by lia) wf,hf,?_⟩;cases er:wD l V e with
  | some w0=>exact⟨_,Z',rr w0 er⟩
  | none=>
   refine oZ cu.at_ (i' Z' (i' cu.bd.lo ?_));refine⟨M0,b,A,V,l,c,n,e,Z',cu,hc,hn,wf,hf,er,λM' A' c1 st=>?_⟩;refine oZ c1.at_ (i' Z' (i' c1.bd.lo λp hp=>?_));have hcut:L3.uM ((qA V (vm l V e)).log.map Ev.d) (ga (((V.log.map Ev.d).length:Nat):Int)) Fa=(vm l V e).map Ev.d:=by rw[Bb,dI,Hi _ _ (by rw[c9];lia),List.drop_left]
   rw[hcut];exact⟨_,.refl,q er M' A' p c1 st hp⟩
def P6(a:Ad):rb:=λds M Q=>Ts λM0 b A V l c n e=>ds=[.ref b,sF.d e]/\uC a M0 M b A V l c n/\c<10000/\n<=5000000/\WF l V/\e.mT/\WZ a M0 M b A V l c n e Q/\(wD l V e≠Fa->Q .mC M)
def Ol:Fq P w K mg base 14 a.bu (P6 a):=by
 refine fq G.bu.toDG vA (λr u=>⟨_,(oX (pF 2 vA rQ)
 (oX (OS (ix:=2) (LU (Vr G) (r.mono (by first|decide|lia)) Z' G.N.mg G.N.toDG.kp G.N.b (rN v0 U1)) Z' Z' Z' G.bX vA.nd Z' Z' (λev E'=>
 (oY (pF 2 vA rQ))))
 (oY (pk U2)))),?_⟩)
 rintro ds M Q ⟨M0,b,A,V,l,c,n,e,rfl,cu,hc,hn,wf,hf,q,qf⟩
 refine⟨λC _ M'=>(C=a.I/\wD l V e≠Fa)/\M=M',?_,?_⟩
 .exact⟨M0,b,A,V,l,c,n,e,Z',cu,hc,hn,wf,hf,λh M' A' r c1 st hm=>⟨_,.refl,q h M' A' r c1 st hm⟩,λw h=>⟨⟨Z',by rw[h];exact λz=>nomatch z⟩,Z'⟩⟩
 .rintro C y M' ⟨⟨rfl,h⟩,rfl⟩
  exact⟨G.b8,M,.refl,qf h⟩
noncomputable def vL(g:ug):Bool:=g.2.1==("turns":Str)
def uX(l:pz):T0 (Str×Int):=(l.groups.filter vL).map λg=>(g.1,0)
def V0(p:lf)(h:Int)(l:pz)(F:QXQ):qa:=⟨p,h,0,[],[],uX l,l.mx.map (·.1),[],F⟩
def Fw(a:Ad):rb:=λds M Q=>GH λb p h F (l:pz)=>ds=[.ref b,.ref p,.int h]/\M b=ga (.ins a.c [])/\sP a M p l/\qY l/\p≠b/\(∀x∈F,∃c,M x=ga c)/\∀M' A,A.b=b->qV b M M'->(∀x∈A.foot,x=b\/M x=Fa)->pG a M' A (V0 p h l F)->Q .mC M'
noncomputable def MY(g:D):Bool:=match g with
 | .tup (_::.str m::_)=>m=="turns"
 | _=>pc
def Q1(d:D):D:=.tup [Dq d,.int 0]
def HH(gs:List ug):((gs.map qX).filter MY).map Q1=(gs.filter vL).map λg=>D.tup [.str g.1,.int 0]:=by rw[hJ,d4];rfl
def Ks(l:pz):((l.groups.filter vL).map λg=>((Sum.inr g.1:qL),D.int 0))=sX (uX l):=by unfold sX uX;rw[d4];rfl
noncomputable def bF(p:lf)(h:Int)(ca le nx Y1:lf)(k:Nat):T0 (Str×D):=List.take (α:=Str×D) k [("plan",.ref p),("hour",.int h),("turn",.int 0),("calls",.ref ca),("legs",.ref le),("nexts",.ref nx),("on",.ref Y1)]
def KS:Fq P w K mg base 1 a.ah (Fw a):=by
 refine fq G.ah.toDG Dj (λr u=>⟨_,(oX (pX v0 U1)
 (oX (pX v0 U2)
 (oX (pX v0 o9)
 (oX (pX v0 (qB rO))
 (oX (pX v0 (qB rO))
 (oX (pX v0 (qe (FJ Z') Z' G.bW FK (pZ (qE Z' (ya (ix:=[Fa]) (N':=["group"])) (qF (pj U1)) (qv 0) (vU (pB u (pD v0 o9) pb)) (pI (rN (pD v0 o9) o9))))))
 (oX (pX v0 (qe sI Z' G.r so (pZ (pj U1))))
 (oY (pX v0 (qB rO)))))))))),?_⟩)
 rintro ds M Q ⟨b,p,h,F,l,rfl,hb,⟨ph,gr,ws,on,pr,gd,rs,i1,i2,i3,i4,i5,i6,i7,i8⟩,ok,nbp,hF,q⟩
 have hz:=dP;have l2:=ok.g3;refine oZ hb ⟨(G.C "plan" Z'),by show 0<1000;decide,?_⟩;have k1:qV b M (pq M b (.ins a.c [("plan",.ref p)])):=.put;have b1:pq M b (.ins a.c [("plan",.ref p)]) b=ga (.ins a.c [("plan",.ref p)]):=pK;show uo _ _ _ _ (pq M b (.ins a.c [("plan",.ref p)]));generalize pq M b (.ins a.c [("plan",.ref p)])=N1 at k1 b1 ⊢;refine oZ b1 ⟨(G.C "hour" Z'),by show 1<1000;decide,?_⟩;have k2:=k1.trans (qV.put (p:=b) (c:=.ins a.c [("plan",.ref p),("hour",.int h)]));have b2:pq N1 b (.ins a.c [("plan",.ref p),("hour",.int h)]) b=ga (.ins a.c [("plan",.ref p),("hour",.int h)]):=pK;show uo _ _ _ _ (pq N1 b (.ins a.c [("plan",.ref p),("hour",.int h)]));generalize pq N1 b (.ins a.c [("plan",.ref p),("hour",.int h)])=N2 at k2 b2 ⊢;refine oZ b2 ⟨(G.C "turn" Z'),by show 2<1000;decide,?_⟩;have k3:=k2.trans (qV.put (p:=b) (c:=.ins a.c (bF p h 0 0 0 0 3)));have b3:pq N2 b (.ins a.c (bF p h 0 0 0 0 3)) b=ga (.ins a.c (bF p h 0 0 0 0 3)):=pK;show uo _ _ _ _ (pq N2 b (.ins a.c (bF p h 0 0 0 0 3)));generalize pq N2 b (.ins a.c (bF p h 0 0 0 0 3))=N3 at k3 b3 ⊢;clear k1 k2 b1 b2;refine⟨oV Z',λca hca=>?_⟩;obtain⟨n4,e4,k4,c4,b4⟩:=sQ (fs':=(bF p h ca 0 0 0 4)) (c:=.lst []) b3 hca;refine oZ e4 ⟨(G.C "calls" Z'),by show 3<1000;decide,?_⟩;show uo _ _ _ _ (pq (pq N3 ca (.lst [])) b (.ins a.c (bF p h ca 0 0 0 4)));generalize pq (pq N3 ca (.lst [])) b (.ins a.c (bF p h ca 0 0 0 4))=N4 at k4 c4 b4 ⊢;have Zs:=k3.trans k4;have z1:M ca=Fa:=rC k3 b3 hca;have lc4:oa N4 ca=ga []:=sj c4;refine⟨oV Z',λle hle=>?_⟩;obtain⟨n5,e5,k5,c5,b5⟩:=sQ (fs':=(bF p h ca le 0 0 5)) (c:=.lst []) b4 hle;refine oZ e5 ⟨(G.C "legs" Z'),by show 4<1000;decide,?_⟩;show uo _ _ _ _ (pq (pq N4 le (.lst [])) b (.ins a.c (bF p h ca le 0 0 5)));generalize pq (pq N4 le (.lst [])) b (.ins a.c (bF p h ca le 0 0 5))=N5 at k5 c5 b5 ⊢;have Zt:=Zs.trans k5;have z2:M le=Fa:=rC Zs b4 hle;have le5:oa N5 le=ga []:=sj c5;have mcl:le≠ca:=λz=>by rw[z,pN lc4]at hle;cases hle
 have lc5:=k5.lst (pO lc4 b4) lc4;have p5:=Zt _ _ nbp i1;have g5:=Zt.lst (pO i3 hb) i3;clear k3 k4 k5 Zs lc4 c4 c5 e4 e5 b3 b4;refine oZ p5 (i' Z' (i' g5 ?_));refine tF (f:=Q1) (t:=MY) g5 _ [] _ (by rw[cW];simp only[dN];lia) (λd hd k hk=>?_) (λd hd _ k hk=>?_) λq1 Yc=>?_
 .obtain⟨v,_,rfl⟩:=dD.mp hd;exact hk
 .obtain⟨v,_,rfl⟩:=dD.mp hd;exact⟨oV Z',hk⟩
 rw[d9,HH];have ZZ:=qz.new (c:=.lst ((l.groups.filter vL).map λg=>D.tup [.str g.1,.int 0])) Yc;refine i' pA (i' (xc (λg:ug=>g.1) (λ_=>D.int 0) _) ⟨yS (iB (List.Sublist.map _ fY) (iB (jr _ _) ok.nd)),λnx Xv=>?_⟩);have z3:M nx=Fa:=rC Zt b5 (ZZ.none Xv);obtain⟨n6,e6,k6,c6,b6⟩:=sQ (fs':=(bF p h ca le nx 0 6)) (c:=.dk ((l.groups.filter vL).map λg=>((Sum.inr g.1:qL),D.int 0))) (ZZ _ _ b5) Xv;refine oZ e6 ⟨(G.C "nexts" Z'),by show 5<1000;decide,?_⟩;have k6:=ZZ.keep.trans k6;have Zg:vP "nexts" (.ref nx) (bF p h ca le 0 0 5)=(bF p h ca le nx 0 6):=rfl;rw[Zg];generalize pq (pq (pq N5 q1 (.lst ((l.groups.filter vL).map λg=>D.tup [.str g.1,.int 0]))) nx (.dk ((l.groups.filter vL).map λg=>((Sum.inr g.1:qL),D.int 0)))) b (.ins a.c (bF p h ca le nx 0 6))=N6 at k6 b6 c6 ⊢;have x6:xp N6 nx=ga ((l.groups.filter vL).map λg=>((Sum.inr g.1:qL),D.int 0)):=Bu c6;have kk6:=Zt.trans k6;have lc6:=k6.lst (pO lc5 b5) lc5;have le6:=k6.lst (pO le5 b5) le5;have p6:=kk6 _ _ nbp i1;have o6:=kk6.lst (pO i5 hb) i5;clear Zt k6 lc5 p5 g5 e6 c6;refine oZ p6 (i' Z' (i' o6 λY1 hon=>?_));have z4:M Y1=Fa:=rC kk6 b6 hon;obtain⟨n7,e7,k7,c7,b7⟩:=sQ (fs':=(bF p h ca le nx Y1 7)) (c:=.lst (l.mx.map λw=>D.bl w.1)) b6 hon;refine oZ e7 ⟨(G.C "on" Z'),by show 6<1000;decide,?_⟩;have Zg:vP "on" (.ref Y1) (bF p h ca le nx 0 6)=(bF p h ca le nx Y1 7):=rfl;rw[Zg];generalize pq (pq N6 Y1 (.lst (l.mx.map λw=>D.bl w.1))) b (.ins a.c (bF p h ca le nx Y1 7))=N7 at k7 b7 c7 ⊢;have kk7:=kk6.trans k7;have lc7:=k7.lst (pO lc6 b6) lc6;have le7:=k7.lst (pO le6 b6) le6;have x7:=k7.dk (CM x6 b6) x6;have lo7:oa N7 Y1=ga ((l.mx.map (·.1)).map D.bl):=by rw[d4];exact sj c7
 refine⟨oV Z',λlg hlg=>?_⟩;obtain⟨n8,e8,k8,c8,b8⟩:=sQ (fs':=tJ (.ref p) h 0 ca le nx Y1 lg) (c:=.lst []) b7 hlg;refine oZ e8 ⟨(G.C "log" Z'),by show 7<1000;decide,_,.refl,?_⟩;have apart:∀{N:Mp} {x y:lf} {ds:T0 D},N x=Fa->oa N y=ga ds->x≠y:=λ{N x y ds} h1 h2 z=>by have:=pN h2;rw[<-z,h1]at this;cases this
 have y5:=rC kk7 b7 hlg;refine q _ ⟨b,ca,le,nx,Y1,lg,[]⟩ Z' (kk7.trans k8) (λx hx=>?_) ⟨b8,k8.lst (pO lc7 b7) lc7,k8.lst (pO le7 b7) le7,?_,k8.lst (pO lo7 b7) lo7,sj c8,Z',λi k c e=>by simp at e,?_,dR.mpr ⟨dW,eJ⟩,λx hx=>?_⟩
 rotate_right
 .by_cases z:x=b
  .exact⟨_,by rw[z];exact b8⟩
  .obtain⟨c,e⟩:=hF x hx;exact⟨c,(kk7.trans k8) x c z e⟩
 .have hx:x∈[b,nx,ca,le,Y1,lg]:=by
   unfold tK.foot tK.lists at hx
   simpa using hx
  simp only[dz,dW,fT]at hx;rcases hx with rfl|rfl|rfl|rfl|rfl|rfl
  .exact .inl Z'
  .exact .inr z3
  .exact .inr z1
  .exact .inr z2
  .exact .inr z4
  .exact .inr y5
 .show xp _ nx=ga (sX (uX l));rw[<-Ks];exact k8.dk (CM x7 b7) x7
 .have m1:=apart hlg lc7;have m2:=apart hlg le7;have m3:=apart hlg lo7;have m4:=apart hon lc6;have m5:=apart hon le6;show[ca,le,Y1,lg].Nodup;simp only[dR,dz,dW,fT,ic,not_false_eq_true,eJ,and_true];exact⟨⟨dX mcl,dX m4,dX m1⟩,⟨dX m5,dX m2⟩,dX m3⟩
def VL{p:lf}{F:QXQ}(ok:qY l):WF l (V0 p h l F):=by
 refine⟨λi c e=>by simp[V0]at e,λi j ci cj x e=>by simp[V0]at e,λx hx=>?_,λi j ci cj x e=>by simp[V0]at e,λz hz ht=>?_⟩
 .show((0:Nat):Int)<=wJ l x;unfold wJ;cases e:l.mQ x with
  | none=>exact Int.le_refl _
  | some v=>have:=(ok.po v (gj e)).l1;show(0:Int)<=v.2.1;lia
 .show ∃v,(uX l).find? (λp=>decide (p.1=z))=ga v/\_;unfold pz.mE at ht;cases e:l.group z with
  | none=>rw[e]at ht;exact absurd ht (by decide)
  | some g=>
   rw[e]at ht;have hg:=gj e;have hn:g.1=z:=by simpa using lU e
   have hm:((g.1,0):Str×Int)∈uX l:=dD.mpr ⟨g,fE.mpr ⟨hg,ht⟩,Z'⟩;cases q:(uX l).find? (λp=>decide (p.1=z))with
   | none=>exact absurd (gi.mp q _ hm) (by simp[hn])
   | some v=>refine⟨v,Z',?_⟩;obtain⟨g',_,rfl⟩:=dD.mp (gj q);exact⟨Int.le_refl _,Int.natCast_nonneg _⟩
def DJ(ok:qY l):(uX l).length<=3:=by unfold uX;rw[cW];exact dZ (gH _ _) ok.g3
def Ev.oh:Ev->Prop
 | .turn=>False
 | .sw _ _=>False
 | _=>True
def Ev.noN:Ev->Prop
 | .next _ _=>False
 | _=>True
theorem EF:∀{es:T0 Ev} {V:qa},(∀e∈es,e.noN)->(qA V es).ps=V.ps
 | [],_,_=>rfl
 | e::r,V,h=>(EF (es:=r) (V:=pP V e) λx hx=>h x (dF _ hx)).trans (by have:=h e dH;cases e<;>first|rfl|cases this)
theorem zm(i:Nat):∀(st:sO) (q:Option Str),∀e∈qT i q st,e.oh/\e.noN
 | [],_,e,h=>by unfold qT at h;cases h
 | (y,gs)::r,Fa,e,h=>by
  rcases dz.mp (show e∈Ev.asks i y gs::qT i (ga y) r from h)with rfl|h
  .exact⟨trivial,trivial⟩
  .exact zm i r _ e h
 | (y,gs)::r,ga u,e,h=>by
  rcases dz.mp (show e∈Ev.leg ⟨i,u,y,u⟩::Ev.asks i y gs::qT i (ga y) r from h)with rfl|h
  .exact⟨trivial,trivial⟩
  rcases dz.mp h with rfl|h
  .exact⟨trivial,trivial⟩
  .exact zm i r _ e h
def Jb{st:sO}:∀e∈sH i st en,e.oh/\e.noN:=λe h=>by
 unfold sH at h;cases en with
 | ring ns=>
  dsimp only at h;cases q:st.getLast? with
  | none=>rw[q]at h;cases h
  | some s0=>rw[q]at h;rw[dh.mp h];exact⟨trivial,trivial⟩
 | _=>cases h
def OV{V:qa}:∀e∈rT l V i en,e.oh:=λe h=>by
 cases en with
 | rings z ps=>
  rcases dO.mp (show e∈(if (l.mE z=="turns")=Db then[Ev.next z (P8 (l.mv z) (ps.headD Str.empty))]else[])++[.rings i ps]from h)with g|g
  .split at g
   .rw[dh.mp g];trivial
   .cases g
  .rw[dh.mp g];trivial
 | breaks z=>
  unfold rT at h;dsimp only at h;split at h
  .rw[dh.mp h];trivial
  .cases h
 | waits z=>rw[dh.mp h];trivial
 | engaged z=>rw[dh.mp h];trivial
 | barred=>rw[dh.mp h];trivial
 | ring ns=>rw[dh.mp h];trivial
def Mr{V:qa}:∀e∈uU l V i,e.oh:=λe h=>by
 unfold uU at h;cases q:V.calls[i]? with
 | none=>rw[q]at h;cases h
 | some c=>
  rw[q]at h;dsimp only[Option.elim]at h;rcases dO.mp h with h|h
  .exact(zm i _ _ e h).1
  rcases dO.mp h with h|h
  .exact(Jb e h).1
  .exact OV e h
def Lr{V:qa}:∀e∈sJ l V i fs,e.oh:=λe h=>by
 unfold sJ at h;split at h
 .rename_i x y n _;dsimp only at h;rcases dO.mp h with h|h
  .simp only[dz,dW,fT]at h;rcases h with rfl|rfl|rfl<;>trivial
  .exact Mr e h
 .cases h
theorem GX:∀(is:T0 Nat) (V:qa),∀e∈qN l is V,e.oh
 | [],_,e,h=>by unfold qN at h;cases h
 | i::r,V,e,h=>by
  unfold qN at h;rcases dO.mp h with h|h
  .exact Lr e h
  .exact GX r _ e h
def O1{ps:T0 (Str×Int)}{z:Str}{n:Int}(h:ps.any (λp=>decide (p.1=z))=Db):(Cp ps z n).length=ps.length:=by unfold Cp;rw[df h,cW]
def R6{V V1:qa}(nx:uk l V1)(he:D0 l V i en):(qA V1 (rT l V i en)).ps.length=V1.ps.length:=by
 cases en with
 | rings z ps=>
  show(qA V1 ((if (l.mE z=="turns")=Db then[Ev.next z (P8 (l.mv z) (ps.headD Str.empty))]else[])++[.rings i ps])).ps.length=_;rw[rA];by_cases ht:(l.mE z=="turns")=Db
  .rw[df ht];refine O1 ?_;obtain⟨v,e,_⟩:=nx z he.1 ht;exact fQ.mpr ⟨v,gj e,by simpa using lU e⟩
  .rw[de ht];rfl
 | breaks z=>
  unfold rT;dsimp only;split
  .rfl
  .rfl
 | waits z=>rfl
 | engaged z=>rfl
 | barred=>rfl
 | ring ns=>rfl
def QL{V:qa}{i:Nat}{k:pf}(ok:qY l)(wf:zg l V (ga i))(hk:V.calls[i]?=ga k):(qA V (uU l V i)).ps.length=V.ps.length:=by
 have Yd:=wf.ok i k hk;unfold uU;rw[hk];dsimp only[Option.elim];obtain⟨z,hz⟩:∃z,k.way.getLast?=ga z:=by
  cases e:k.way.getLast? with
  | none=>exact absurd (gk.mp e) Yd.wy.1
  | some z=>exact⟨z,Z'⟩
 rw[show k.way.getLastD Str.empty=z by rw[gQ,hz];rfl];have ro:wH l V k.cr (l.nm.length+1) [] (ut l V k.cr z k.way.dropLast):=x8 ok _ _ _ _ (Yd.wy.2 z (ik hz)) λx hx=>Yd.wy.2 x (il _ hx);have eo:=HZ ok wf hk ro.e;generalize ut l V k.cr z k.way.dropLast=R at eo;obtain⟨e,st⟩:=R;have e1:(qA (qA V (qT i Fa st)) (sH i st e)).ps=V.ps:=(EF λx hx=>(Jb x hx).2).trans (EF λx hx=>(zm i st Fa x hx).2);rw[rA,rA];refine(R6 (λz hz ht=>?_) eo).trans (eI List.length e1);rw[e1];exact wf.nx z hz ht
theorem Ju(ok:qY l):∀(is:T0 Nat) {V:qa},WF l V->(qA V (qN l is V)).ps.length=V.ps.length
 | [],V,_=>by unfold qN;rfl
 | i::r,V,wf=>by
  unfold qN;rw[rA];refine(Ju ok r (Ew ok wf)).trans ?_;have d:=ED (V:=V) (i:=i) ok;generalize ym l V i=fs at d;cases d with
  | no=>rfl
  | on c k r b x y n hc hs hk hw hy=>rw[yh hk,rA];exact QL ok (Bg wf hc hs hy) (Bp hc)
def Ue{V:qa}{e:sF}(ok:qY l)(wf:WF l V)(f:e.mT)(h:wD l V e=Fa):(qA V (vm l V e)).ps.length=V.ps.length:=by
 cases e with
 | call y z=>obtain⟨h1,h2,h3,h4⟩:=Bj h;obtain⟨k,hk⟩:=Hw (V:=V) (y:=y) (z:=z);show(qA V (_++uU l _ _)).ps.length=_;rw[rA];exact QL ok (E5 wf h1 h2 h3 h4) hk
 | turn=>exact Ju ok _ (Bh wf)
 | sw b i=>rfl
 | num w x ns=>
  refine eI List.length (EF λev hev=>?_);obtain⟨_,n⟩:=Cg f h;cases n with
  | answer i c hi hc h1 h2 h3=>rw[dh.mp (show ev∈[yI V "answer" x i.toNat]from hev),va hc];trivial
  | hang i c hi hc h1=>
   have hev:ev∈tZ V x i.toNat:=hev;unfold tZ at hev;rw[hc]at hev;dsimp only[Option.elim]at hev;split at hev
   .rw[dh.mp hev];trivial
   split at hev
   .rcases dz.mp hev with rfl|hev
    .trivial
    split at hev
    .rw[dh.mp hev];trivial
    .cases hev
   split at hev
   .rw[dh.mp hev];trivial
   .rw[dh.mp hev];trivial
  | hold i c hi hc h1=>rw[dh.mp (show ev∈[yI V "hold" x i.toNat]from hev),va hc];trivial
  | back i c hi hc h1 h2=>rw[dh.mp (show ev∈[yI V "back" x i.toNat]from hev),va hc];trivial
  | two _ i j c d hi hj hw hc hd h1 h2=>rw[dh.mp (show ev∈[CO V w x i.toNat j.toNat]from hev),Ct hc hd];trivial
noncomputable def Bc(c:pf):QQQ:=if (c.st=="talks"||c.st=="held")=Db then c.ms else c.cr::c.at_
def Kx(a:Ad):rb:=λds M Q=>Dg λL k c=>ds=[.ref (rB.p k)]/\rP a M L k c/\c.at_.length<=100/\∀r M',qz M M'->oa M' r=ga ((Bc c).map D.str)->Q (.ref r) M'
def LO(V:qa)(Yx:QQQ):T0 Nat:=(List.range V.calls.length).filter λi=>(V.calls[i]?).elim pc λc=>hasS Yx c.st
def Qd(a:Ad):rb:=λds M Q=>Co λA V l Yx=>ds=[.ref A.b,.tup (List.map D.str Yx)]/\Rd a M A V l/\∀r M',qz M M'->oa M' r=ga ((LO V Yx).map λn=>D.int (n:Nat))->Q (.ref r) M'
def Su(V:qa)(Yx:QQQ):D->Bool
 | .int n=>(V.calls[n.toNat]?).elim pc λc=>hasS Yx c.st
 | _=>pc
def JI:Fq P w K mg base 1 a.bn (Kx a):=by
 refine fq G.bn.toDG C1 (λr u=>⟨_,(oX (pJ (W3.b3 (xM (pB u (pj v0) pb) (wU (pB u (pj v0) pb))))
 (oY (pk (qe sI Z' G.r so (pZ (pj v0)))))
 pE)
 (oY (pk (pQ (qB (pZ (pj v0))) (qe sI Z' G.r so (pZ (pj v0))))))),?_⟩)
 rintro ds M Q ⟨L,k,c,rfl,⟨ad,md,h1,h2,h3,h4,_⟩,ha,q⟩
 have hz:=dP;unfold Bc at q;refine oZ h1 (i' Z' (qC (c:=c.st=="talks") (λg=>?_) (λg=>?_)))
 .rw[g,ib,df Z']at q;exact oZ h1 (i' Z' (i' h4 λr hr=>⟨_,.refl,q r _ (.new hr) pA⟩))
 rw[dG.mpr g,fJ]at q;refine oZ h1 (i' Z' (qC (c:=c.st=="held") (λg=>?_) (λg=>?_)))
 .rw[df g]at q;exact oZ h1 (i' Z' (i' h4 λr hr=>⟨_,.refl,q r _ (.new hr) pA⟩))
 rw[de g]at q;refine oZ h1 (i' Z' ⟨oV Z',λr1 Yb=>?_⟩);obtain⟨M1,e0,t1,l1⟩:=uW (ds:=[D.str c.cr]) Yb;rw[<-e0];show Aa (M1 k.p) _;refine oZ (t1 _ _ h1) (i' Z' (i' (t1.lst h3) λr2 ZM=>?_));have t2:=qz.new (c:=.lst (c.at_.map D.str)) ZM;refine i' (t2.lst l1) (i' pA ⟨?_,λr3 Zh=>⟨_,.refl,q r3 _ (t1.trans (t2.trans (.new Zh))) pA⟩⟩);rw[cW];show 1+c.at_.length<=Uf;lia
def OL:Fq P w K mg base 1 a.bo (Qd a):=by
 refine fq G.bo.toDG AJ (λr u=>⟨_,(oY (pk (qE Z' (ya (ix:=[Fa,ga 0,ga 1]) (N':=["_law_k","_law_board","_law_states"])) (wb Z' G.Z (pZ (pM qm Z' G.g ql (pZ (pj v0))))) (qv 0) (vU (pB u (pj (pD (pj U1) v0)) U2)) v0))),?_⟩)
 rintro ds M Q ⟨A,V,l,Yx,rfl,rd,q⟩
 have hz:=dP;have lc:((A.cs.map λk=>D.ref k.p).length:Int)=(V.calls.length:Nat):=by rw[cW,rd.bd.len]
 have hb:=rd.k;refine oZ rd.bd.at_ (i' Z' (i' rd.bd.ca ?_));rw[lc];refine⟨Z',⟨by lia,by lia⟩,?_⟩;refine tF (f:=id) (t:=Su V Yx) trivial _ [] _ (by rw[cW,eG];simp only[dN];lia) (λd hd k hk=>?_) (λd hd _ k hk=>?_) λr hr=>?_
 .obtain⟨i,hi,rfl⟩:=dD.mp hd;rw[gy]at hi;have hi:i<V.calls.length:=by lia
  obtain⟨k',ek,⟨ad,md,h1,_⟩⟩:=rd.call (cY hi);have ea:wF (A.cs.map λk=>D.ref k.p) (0+(i:Nat))=ga (.ref k'.p):=by rw[mh];exact qZ ek
  refine oZ rd.bd.at_ (i' Z' (i' Z' (i' rd.bd.ca (i' ea (oZ h1 (i' Z' (i' Z' ⟨Z',qp _,?_⟩)))))));show k (inD (.str V.calls[i].st) (Yx.map D.str)) M;rw[sf];have e1:Su V Yx (.int (0+(i:Nat)))=hasS Yx V.calls[i].st:=by show(V.calls[(0+(i:Int)).toNat]?).elim pc _=_;rw[show(0+(i:Int)).toNat=i by lia,cY hi];rfl
  show k (hasS Yx V.calls[i].st) M;rw[<-e1];exact hk
 .exact hk
 .refine⟨_,.refl,q r _ (.new hr) (pA.trans (eI ga ?_))⟩;rw[d9,jb,hJ,show(((V.calls.length:Nat):Int)).toNat=V.calls.length from rfl];unfold LO;have e1:(Su V Yx∘λi:Nat=>D.int (0+(i:Nat)))=λi=>(V.calls[i]?).elim pc λc=>hasS Yx c.st:=funext λi=>by show(V.calls[(0+(i:Int)).toNat]?).elim pc _=_;rw[show(0+(i:Int)).toNat=i by lia]
  rw[e1];exact fN λi _=>by rw[mh]
noncomputable def Gu:Str->QQQ:=λw=>if (w=="answer")=Db then["rings","waits"]else if (w=="hold")=Db then["talks"]else if (w=="hang")=Db then["rings","waits","talks","held"]else["held"]
def Rl(w:Str):Prop:=w="answer"\/w="hang"\/w="hold"\/w="back"\/w="hand"\/w="join"
def J6(a:Ad):rb:=λds M Q=>GH λA V l c w=>ds=[.ref A.b,.int c,.str w,.tup ((Gu w).map D.str)]/\Rd a M A V l/\WF l V/\(∀k∈V.calls,k.at_.length<=100)/\Rl w/\∀M',qz M M'->Q .mC M'/\∀e:sF,e.mT->Q e.d M'
def S7{n:Nat}{a b:lf}{ds:T0 D}(ha:oa M a=ga ds)(hb:oa M b=ga []):za M (n+1) (.ref a) (.ref b)=ga ds.isEmpty:=by
 show(oa M a).bind (λi=>(oa M b).bind λj=>if i.length=j.length then sy (za M n) i j else ga pc)=_;rw[ha,hb];cases ds with
 | nil=>rfl
 | cons x r=>rfl
def uE{α:Type}(f:α->D){xs:List α}(h:xs≠[])(c k:Int):(0:Int)<((xs.map f).length:Nat)/\∃x∈xs,wF (xs.map f) (qo c k ((xs.map f).length:Nat))=ga (f x):=by
 have hp:(0:Int)<((xs.map f).length:Nat):=by have:=fu.mpr h;rw[cW];lia
 have d0:=qP (c:=c) (f:=k) hp;have d1:=qG (c:=c) (f:=k) hp;obtain⟨n,e⟩:=eB d0;rw[e]at d1 ⊢;have hn:n<xs.length:=by rw[cW]at d1;lia
 exact⟨hp,xs[n],ii hn,uZ (by rw[dA,cY hn];rfl)⟩
def Sf{V:qa}{i:Nat}(h:i∈LO V Yx):∃c,V.calls[i]?=ga c/\c.st∈Yx:=by
 have h:=(fE.mp h).2;cases e:V.calls[i]? with
 | none=>rw[e]at h;cases h
 | some c=>rw[e]at h;exact⟨c,Z',qM.mp h⟩
def D7{c:pf}(k:vT l pc c)(h:c.st≠"over"):Bc c≠[]:=by
 unfold Bc;split
 .rename_i g;rcases k.sh with z|⟨_,z|z|⟨_,z⟩|z⟩
  .rw[z.1]at g;exact absurd g (by decide)
  .rw[z.1]at g;exact absurd g (by decide)
  .intro y;rw[y]at z;rcases z.2.1 with u|u<;>cases u
  .intro y;rw[y]at z;cases z.2.1
  .exact absurd z.1 h
 .exact fH _ _
def Uo{c:pf}(k:vT l pc c)(h:c.st∈Gu "answer"):c.at_≠[]:=by
 have h:c.st="rings"\/c.st="waits":=by
  rcases dz.mp h with g|g
  .exact .inl g
  .exact .inr (dh.mp g)
 rcases k.sh with z|⟨_,z|z|⟨_,z⟩|z⟩
 .exact z.2.2.2.2.2 Z'
 .intro y;rw[y]at z;cases z.2.2.2.2
 all_goals(rw[z.1]at h;exact absurd h (by decide))
def IQ{c:pf}(k:vT l pc c)(h:c.st="held"):∃x,c.hd=ga x:=by
 rcases k.sh with z|⟨_,z|z|⟨x,z⟩|z⟩
 .rw[h]at z;exact absurd z.1 (by decide)
 .rw[h]at z;exact absurd z.1 (by decide)
 .rw[h]at z;exact absurd z.1 (by decide)
 .exact⟨x,z.2.2.1⟩
 .rw[h]at z;exact absurd z.1 (by decide)
def KI:Fq P w K mg base 4 a.bp (J6 a):=by
 refine fq G.bp.toDG rq (λr u=>⟨_,(oX (pF 4 rq (pC (OL G) r G.bo (rN v0 U3)))
 (oX (pJ (pB u v4 (qB rO))
 (oY (pk rQ))
 pE)
 (oX (pF 5 rq (pD v4 (pC (qD G) r G.i (rh U1 o9 (pM qm Z' G.g ql (pZ v4))))))
 (oX (pF 6 rq (pC (JI G) r G.bn (pZ (pD (pj v0) v5))))
 (oX (pJ (pB u U2 pb)
 (oY (pF 6 rq (qe sI Z' G.r so (pZ (pj (pD (pj v0) v5))))))
 pE)
 (oX (pJ (W3.b3 (xM (pB u U2 pb) (xM (pB u U2 pb) (wU (pB u U2 pb)))))
 (oY (pF 6 rq (qB (pZ (pj (pD (pj v0) v5))))))
 pE)
 (oX (pF 7 rq (pD v6 (pC (qD G) r G.i (rh U1 o9 (pM qm Z' G.g ql (pZ v6))))))
 (oX (pJ (W3.b3 (xM (pB u U2 pb) (wU (pB u U2 pb))))
 (oX (pF 8 rq (pR v0 G.c.toCls G.R (yz G) r (pZ v7)))
 (oY (pk (pI (pV U2 (rh v7 v5 (Jd (pB u v8 rQ) o9 v8)))))))
 pE)
 (oY (pk (pI (rh U2 v7 v5)))))))))))),?_⟩)
 rintro ds M Q ⟨A,V,l,c,wd,rfl,rd,wf,ha,ho,q⟩
 have hz:=dP;refine⟨A,V,l,Gu wd,Z',rd,λr M1 s1 lr=>?_⟩;refine⟨oV Z',λr0 hr0=>?_⟩;have t2:=qz.new (c:=.lst []) hr0;have Z4:=t2.lst lr;refine i' (S7 Z4 pA) ?_;have s2:=s1.trans t2;generalize pq M1 r0 (.lst [])=M2 at s2 Z4 ⊢;clear t2 lr hr0 s1;refine qC (c:=((LO V (Gu wd)).map λn=>D.int (n:Nat)).isEmpty) (λ_=>⟨M2,.refl,(q M2 s2).1⟩) (λg=>?_);have gne:LO V (Gu wd)≠[]:=λz=>g (by rw[z];rfl);obtain⟨hp,i,hi,ei⟩:=uE (λn:Nat=>D.int (n:Nat)) gne c 40692;obtain⟨cv,hc,hs⟩:=Sf hi;have ZN:=rd.sub s2;obtain⟨k,ek,ca⟩:=ZN.call hc;have ca0:=ca;obtain⟨ad,md,h1,h2,h3,h4,_⟩:=ca0;have Yd:=wf.ok i cv hc;refine i' Z4 ⟨c,_,_,Z',hp,i' Z4 (i' ei ?_)⟩;refine oZ ZN.bd.at_ (i' Z' (i' Z' (i' ZN.bd.ca (i' (qZ ek) ?_))));refine⟨_,k,cv,Z',ca,ha cv (qQ hc),λr3 M3 s3 lr3=>?_⟩;have Ya:=s3 _ _ h1;have q3:=λM' (s:qz M3 M')=>q M' (s2.trans (s3.trans s));have ZO:=ZN.sub s3;have ZY:=s3.lst h3;clear q Z4 s2 h1 h2 h3 h4 ca;rcases ho with rfl|rfl|rfl|rfl|rfl|rfl
 .
  refine oZ ZO.bd.at_ (i' Z' (i' Z' (i' ZO.bd.ca (i' (qZ ek) (oZ Ya (i' Z' (i' ZY λr4 hr4=>?_)))))));obtain⟨Xx,x,hx,ex⟩:=uE D.str (Uo Yd hs) c 742938285;refine i' pA ⟨c,_,_,Z',Xx,i' pA (i' ex ?_)⟩;exact⟨oV Z',_,.refl,(q3 _ (.new hr4)).2 (.num "answer" x [(i:Nat)]) (.inl ⟨.inl Z',Z'⟩)⟩
 .
  obtain⟨Xx,x,hx,ex⟩:=uE D.str (D7 Yd (λz=>by rw[z]at hs;exact absurd hs (by decide))) c 742938285;refine i' lr3 ⟨c,_,_,Z',Xx,i' lr3 (i' ex ?_)⟩;exact⟨oV Z',_,.refl,(q3 _ .refl).2 (.num "hang" x [(i:Nat)]) (.inl ⟨.inr (.inl Z'),Z'⟩)⟩
 .
  obtain⟨Xx,x,hx,ex⟩:=uE D.str (D7 Yd (λz=>by rw[z]at hs;exact absurd hs (by decide))) c 742938285;refine i' lr3 ⟨c,_,_,Z',Xx,i' lr3 (i' ex ?_)⟩;exact⟨oV Z',_,.refl,(q3 _ .refl).2 (.num "hold" x [(i:Nat)]) (.inl ⟨.inr (.inr (.inl Z')),Z'⟩)⟩
 .
  obtain⟨y,hy⟩:=IQ Yd (dh.mp hs);refine oZ ZO.bd.at_ (i' Z' (i' Z' (i' ZO.bd.ca (i' (qZ ek) (oZ Ya (i' Z' ⟨oV Z',λr4 hr4=>?_⟩))))));rw[show Gq cv.hd=.str y by rw[hy];rfl];obtain⟨Xx,x,hx,ex⟩:=uE D.str (fH y []) c 742938285;refine i' pA ⟨c,_,_,Z',Xx,i' pA (i' ex ?_)⟩;exact⟨oV Z',_,.refl,(q3 _ (.new hr4)).2 (.num "back" x [(i:Nat)]) (.inl ⟨.inr (.inr (.inr Z')),Z'⟩)⟩
 all_goals
  obtain⟨y,hy⟩:=IQ Yd (dh.mp hs);refine oZ ZO.bd.at_ (i' Z' (i' Z' (i' ZO.bd.ca (i' (qZ ek) (oZ Ya (i' Z' ⟨oV Z',λr4 hr4=>?_⟩))))));rw[show Gq cv.hd=.str y by rw[hy];rfl];obtain⟨Xx,x,hx,ex⟩:=uE D.str (fH y []) c 742938285;refine i' pA ⟨c,_,_,Z',Xx,i' pA (i' ex ?_)⟩;have t4:=qz.new (c:=.lst [D.str y]) hr4;refine oZ (t4 _ _ ZO.bd.at_) ⟨Z',_,⟨Z',Z'⟩,A,V,x,Z',ZO.bd.sub t4,ZO.k,?_⟩;unfold Ao;cases vw V x with
  | none=>first|exact⟨oV Z',_,.refl,(q3 _ t4).2 (.num "hand" x [(i:Nat),(0:Nat)]) (.inr ⟨.inl Z',Z'⟩)⟩|exact⟨oV Z',_,.refl,(q3 _ t4).2 (.num "join" x [(i:Nat),(0:Nat)]) (.inr ⟨.inr Z',Z'⟩)⟩
  | some j=>first|exact⟨oV Z',_,.refl,(q3 _ t4).2 (.num "hand" x [(i:Nat),(j:Nat)]) (.inr ⟨.inl Z',Z'⟩)⟩|exact⟨oV Z',_,.refl,(q3 _ t4).2 (.num "join" x [(i:Nat),(j:Nat)]) (.inr ⟨.inr Z',Z'⟩)⟩
def IS:rb:=λds M Q=>KA λc o n own nm m=>ds=[.int c,.ref o,.ref n,.int ((m:Nat):Int)]/\oa M o=ga (List.map D.str own)/\oa M n=ga (List.map D.str nm)/\own.length<=100/\nm.length<=100/\m<=1000000/\∀M' (e:sF),qz M M'->e.mT->Q e.d M'
def NI(a:Ad):rb:=λds M Q=>Ts λA V l c o n own nm=>ds=[.ref A.b,.int c,.ref o,.ref n]/\Rd a M A V l/\WF l V/\(∀k∈V.calls,k.at_.length<=100)/\oa M o=ga (List.map D.str own)/\oa M n=ga (List.map D.str nm)/\own≠[]/\nm≠[]/\own.length<=100/\nm.length<=100/\∀M' (e:sF),qz M M'->e.mT->Q e.d M'
def Jq{α:Type}(f:α->D){xs:List α}(h:xs≠[]){m:Int}(hm:m=(xs.length:Nat))(c k:Int):(0:Int)<m/\∃x∈xs,wF (xs.map f) (qo c k m)=ga (f x):=by have:=uE f h c k;rw[cW,<-hm]at this;exact this
def Qy{α:Type}(xs:List α)(x:α):xs++[x]≠[]:=by simp
noncomputable def Hj:QQQ:=["call","call","call","call","call","answer","answer","answer","answer","answer","hang","hang","hold","hold","hold","back","hand","join","turn","turn","turn"]
theorem zS(d:D):∀n:Nat,(List.replicate n [d]).flatten=List.replicate n d
 | 0=>rfl
 | n+1=>by rw[eF,fL,zS d n,eF];rfl
noncomputable def zz:Str:="zzzzzz"
noncomputable def KQ(a b:Str)(k m:Int):List sF:=[.call a b,.num "answer" a [k],.num "hang" a [k],.num "hold" a [k],.num "back" a [k],.num "hand" a [k,m],.num "join" a [k,m],.turn,.sw Db k,.sw pc k]
def LD{a b:Str}{k m:Int}{e:sF}(h:e∈KQ a b k m):e.mT:=by
 unfold KQ at h;simp only[dz,dW,fT]at h;rcases h with rfl|rfl|rfl|rfl|rfl|rfl|rfl|rfl|rfl|rfl
 .trivial
 .exact .inl ⟨.inl Z',Z'⟩
 .exact .inl ⟨.inr (.inl Z'),Z'⟩
 .exact .inl ⟨.inr (.inr (.inl Z')),Z'⟩
 .exact .inl ⟨.inr (.inr (.inr Z')),Z'⟩
 .exact .inr ⟨.inl Z',Z'⟩
 .exact .inr ⟨.inr Z',Z'⟩
 .trivial
 .trivial
 .trivial
def OM:Fq P w K mg base 2 a.bq IS:=by
 refine fq G.bq.toDG uB (λr u=>⟨_,(oX (pF 4 uB (pD (pQ U1 (qB (pZ pb))) (pC (qD G) r G.i (rh v0 o9 (pQ (pM qm Z' G.g ql (pZ U1)) o9)))))
 (oX (pF 5 uB (pD (pQ U2 (qB (pZ pb))) (pC (qD G) r G.i (rh v0 o9 (pQ (pM qm Z' G.g ql (pZ U2)) o9)))))
 (oX (pF 6 uB (pQ (pC (qD G) r G.i (rh v0 o9 (pQ U3 o9))) o9))
 (oX (pF 7 uB (pQ (pC (qD G) r G.i (rh v0 o9 (pQ U3 o9))) o9))
 (oX (pF 8 uB (qB (pV (pI (rh pb v4 v5)) (pV (pI (rh pb v4 v6)) (pV (pI (rh pb v4 v6)) (rh (pI (rh pb v4 v6)) (pI (rh pb v4 v6)) (pI (pV pb (rh v4 v6 v7)))))))))
 (oY (pk (pD (pQ v8 (qB (pV (pI (pV pb (rh v4 v6 v7))) (rh (pI (pZ pb)) (pI (rN pb v6)) (pI (rN pb v6)))))) (pC (qD G) r G.i (rh v0 o9 o9)))))))))),?_⟩)
 rintro ds M Q ⟨c,o,n,own,nm,m,rfl,ho,hn,ol,nl,ml,q⟩
 have hz:=dP;have add:∀{M1:Mp} {p:lf} {xs:QQQ} (f:Int) (nx:DK),qz M M1->oa M1 p=ga (xs.map D.str)->xs.length<=100->(∀x M',qz M M'->nx (.str x) M')->∀r1,M1 r1=Fa->(oa (pq M1 r1 (.lst [D.str zz])) p).elim False λi=>(oa (pq M1 r1 (.lst [D.str zz])) r1).elim False λj=>i.length+j.length<=Uf/\∀r2,pq M1 r1 (.lst [D.str zz]) r2=Fa->(oa (pq (pq M1 r1 (.lst [D.str zz])) r2 (.lst (i++j))) p).elim False λys=>JE [.int c,.int f,.int ((ys.length:Nat)+1)] (pq (pq M1 r1 (.lst [D.str zz])) r2 (.lst (i++j))) λy M2=>match y with
  | .int n=>(oa M2 r2).elim False λzs=>(wF zs n).elim False λd=>nx d M2
  | _=>False:=λ{M1 p xs} f nx s hx lx Xv r1 Yb=>by
  have t1:=qz.new (c:=.lst [D.str zz]) Yb;refine i' (t1.lst hx) (i' pA ⟨by rw[cW];show xs.length+1<=Uf;lia,λr2 ZM=>?_⟩);have t2:=qz.new (c:=.lst (xs.map D.str++[D.str zz])) ZM;obtain⟨hp,x,_,ex⟩:=Jq D.str (Qy xs zz) (m:=((xs.map D.str).length:Nat)+1) (by rw[cW,c9];rfl) c f;rw[dI]at ex;exact i' ((t1.trans t2).lst hx) ⟨c,f,_,Z',hp,i' pA (i' ex (Xv x _ (s.trans (t1.trans t2))))⟩
 refine⟨oV Z',add 16807 _ .refl ho ol λx M1 s1=>⟨oV Z',add 39373 _ s1 (s1.lst hn) nl λy M2 s2=>?_⟩⟩;refine⟨c,_,_,Z',by show(0:Int)<(m:Nat)+2;lia,⟨c,_,_,Z',by show(0:Int)<(m:Nat)+2;lia,?_⟩⟩;generalize qo c 69621 ((m:Nat)+2) - 1=k0;refine⟨oV Z',oV Z',oV Z',oV Z',oV Z',oV Z',oV Z',λr8 hr8=>⟨oV Z',oV Z',oV Z',oV Z',oV Z',λr9 hr9=>?_⟩⟩;have t8:=qz.new (c:=.lst (((KQ x y k0 (qo c 22695477 ((m:Nat)+2) - 1)).take 6).map sF.d)) hr8;have t9:=qz.new (c:=.lst (((KQ x y k0 (qo c 22695477 ((m:Nat)+2) - 1)).drop 6).map sF.d)) hr9;refine i' (t9.lst pA) (i' pA ⟨by show 6+4<=Uf;lia,λr10 hr10=>?_⟩);obtain⟨hp,e,he,ee⟩:=Jq sF.d (xs:=KQ x y k0 (qo c 22695477 ((m:Nat)+2) - 1)) (fH _ _) (m:=10) Z' c 1664525;exact⟨c,_,_,Z',hp,i' pA (i' ee ⟨_,.refl,q _ e (s2.trans (t8.trans (t9.trans (.new hr10)))) (LD he)⟩)⟩
def Nn:Fq P w K mg base 5 a.br (NI a):=by
 refine fq G.br.toDG rn (λr u=>⟨_,(oX (pF 4 rn (pQ (pQ (pQ (pQ (pQ (CF (qB (pZ pb)) o9) (CF (qB (pZ pb)) o9)) (CF (qB (pZ pb)) o9)) (CF (qB (pZ pb)) o9)) (qB (rh pb pb pb))) (CF (qB (pZ pb)) o9)))
 (oX (pF 4 rn (pD v4 (pC (qD G) r G.i (rh U1 o9 (pM qm Z' G.g ql (pZ v4))))))
 (oX (pF 5 rn (pI (pV pb (rh pb pb pb))))
 (oX (pJ (pB u v4 pb)
 (oY (pF 5 rn (pI (rN pb pb))))
 pE)
 (oX (pJ (pB u v4 pb)
 (oY (pF 5 rn (pI (pZ pb))))
 pE)
 (oX (pJ (W3.b3 (xM (pB u v4 pb) (xM (pB u v4 pb) (wU (pB u v4 pb)))))
 (oY (pF 5 rn (pI (pZ pb))))
 pE)
 (oX (pJ (pB u v4 pb)
 (oY (pk (pI (pZ pb))))
 pE)
 (oX (pJ (pB u (pC (qD G) r G.i (rh U1 o9 o9)) o9)
 (oY (pk (pC (OM G) r G.bq (pV U1 (rh U2 U3 (pM qm Z' G.g ql (pZ (pj v0))))))))
 pE)
 (oX (pF 6 rn rQ)
 (oX (pJ (pB u v4 pb)
 (oY (pF 6 rn (pC (KI G) r G.bp (pV v0 (rh U1 v4 v5)))))
 pE)
 (oX (pJ (pB u v6 rQ)
 (oX (pF 7 rn (pD U2 (pC (qD G) r G.i (rh U1 o9 (pM qm Z' G.g ql (pZ U2))))))
 (oY (pF 6 rn (pI (rh pb v7 (pD U3 (pC (qD G) r G.i (rh U1 o9 (pM qm Z' G.g ql (pZ U3))))))))))
 pE)
 (oY (pk v6))))))))))))),?_⟩)
 rintro ds M Q ⟨A,V,l,c,o,n,own,nm,rfl,rd,wf,ha,ho,hn,one,nne,ol,nl,q⟩
 have hz:=dP;refine TH (t:=Dl _ _) (λU M'=>qz M M'/\∃r,oa M' r=ga (Hj.map D.str)/\U=[ga (.ref A.b),ga (.int c),ga (.ref o),ga (.ref n),ga (.ref r),Fa,Fa,Fa]) (λnx h=>?_) ?_
 .have Zk:∀{N:Mp} {U:vj} (w0:Str) (m:Int) (nx:DK),qz M N->(0<=m/\m<=10)->(∀r N',qz M N'->qz N N'->oa N' r=ga ((List.replicate m.toNat w0).map D.str)->nx (.ref r) N')->Vn (RA (ua (L3.c3 (.str w0)) vt)) (L3.c3 (.int m)) U N nx:=λ{N U} w0 m nx sn hm Xv=>by refine⟨oV Z',λr1 Yb=>?_⟩;refine i' pA ⟨⟨by lia,by lia,by show 1<=1000;decide⟩,λr2 ZM=>?_⟩;have t:=(qz.new (c:=.lst [D.str w0]) Yb).trans (qz.new (c:=.lst (List.replicate m.toNat [D.str w0]).flatten) ZM);refine Xv r2 _ (sn.trans t) t (pA.trans (eI ga ?_));rw[kT];exact zS _ _
  have Yy:∀{N:Mp} {p r:lf} {xs ys:QQQ} (nx:DK),qz M N->oa N p=ga (xs.map D.str)->oa N r=ga (ys.map D.str)->xs.length+ys.length<=100->(∀r N',qz M N'->oa N' r=ga ((xs++ys).map D.str)->nx (.ref r) N')->Uc .Add (.ref p) (.ref r) N nx:=λ{N p r xs ys} nx sn hx hy hl Xv=>by refine i' hx (i' hy ⟨by rw[cW,cW];lia,λr2 ZM=>?_⟩);refine Xv r2 _ (sn.trans (.new ZM)) (pA.trans (eI ga ?_));rw[dI]
  dsimp only[Dl,o3];refine Zk "call" 5 _ .refl (by decide) λp1 N1 s1 _ l1=>Zk "answer" 5 _ s1 (by decide) λq2 N2 s2 t2 l2=>Yy _ s2 (t2.lst l1) l2 (by decide) λp2 N3 s3 l3=>Zk "hang" 2 _ s3 (by decide) λq4 N4 s4 t4 l4=>Yy _ s4 (t4.lst l3) l4 (by decide) λp5 N5 s5 l5=>Zk "hold" 3 _ s5 (by decide) λq6 N6 s6 t6 l6=>Yy _ s6 (t6.lst l5) l6 (by decide) λp7 N7 s7 l7=>⟨oV Z',λr8 hr8=>?_⟩;have t8:=qz.new (c:=.lst ((["back","hand","join"]:QQQ).map D.str)) hr8;exact Yy (ys:=["back","hand","join"]) _ (s7.trans t8) (t8.lst l7) pA (by decide) λp9 N9 s9 l9=>Zk "turn" 3 _ s9 (by decide) λq10 N10 s10 t10 l10=>Yy _ s10 (t10.lst l9) l10 (by decide) λp11 N11 s11 l11=>h _ _ ⟨s11,p11,l11,Z'⟩
 rintro U M1 ⟨s1,r,lr,rfl⟩
 have s1n:=s1.lst hn;have s1o:=s1.lst ho;obtain⟨hp,w0,hw,ew⟩:=uE D.str (show Hj≠[]from fH _ _) c 48271;refine i' lr ⟨c,_,_,Z',hp,i' lr (i' ew ?_)⟩;obtain⟨YC,x1,hx1,ex1⟩:=uE D.str one c 16807;obtain⟨Xx,x2,hx2,ex2⟩:=uE D.str nne c 39373;have Zi:=rd.sub s1;have lc:((A.cs.map λk=>D.ref k.p).length:Int)=(V.calls.length:Nat):=by rw[cW,rd.bd.len]
 clear lr hp ew;have hw:w0="call"\/w0="turn"\/Rl w0:=by unfold Hj at hw;simp only[dz,dW,fT]at hw;unfold Rl;rcases hw with h|h|h|h|h|h|h|h|h|h|h|h|h|h|h|h|h|h|h|h|h<;>simp[h]
 have Xs:∀M' (e:sF),qz M1 M'->e.mT->∃Xr,qz Xr M'/\Q e.d Xr:=λM' e s f=>⟨M',.refl,q M' e (s1.trans s) f⟩;rcases hw with rfl|rfl|hw
 .refine⟨oV Z',c,_,_,Z',by decide,qC (c:=qo c 950706376 9==0) (λ_=>oZ Zi.bd.at_ (i' Z' (i' Zi.bd.ca ?_))) (λ_=>?_)⟩
  .rw[lc];exact⟨c,o,n,own,nm,V.calls.length,Z',s1o,s1n,ol,nl,rd.k,Xs⟩
  exact i' s1o ⟨c,_,_,Z',YC,i' s1o (i' ex1 (i' s1n ⟨c,_,_,Z',Xx,i' s1n (i' ex2 ⟨oV Z',Xs M1 (.call x1 x2) .refl trivial⟩)⟩))⟩
 .exact⟨oV Z',oV Z',Xs M1 .turn .refl trivial⟩
 have lany:IS [.int c,.ref o,.ref n,.int ((V.calls.length:Nat):Int)] M1 λd M'=>∃Xr,qz Xr M'/\Q d Xr:=⟨c,o,n,own,nm,V.calls.length,Z',s1o,s1n,ol,nl,rd.k,Xs⟩;have hw':=hw;rcases hw with rfl|rfl|rfl|rfl|rfl|rfl
 all_goals
  first
   | refine⟨oV rfl,oV rfl,c,_,_,rfl,by decide,qC (c:=qo c 950706376 9==0) (λ_=>oZ Zi.bd.at_ (i' rfl (i' Zi.bd.ca ?_))) (λ_=>⟨A,V,l,c,_,rfl,Zi,wf,ha,hw',λM' s=>⟨?_,λe f=>?_⟩⟩)⟩
   | refine⟨oV rfl,c,_,_,rfl,by decide,qC (c:=qo c 950706376 9==0) (λ_=>oZ Zi.bd.at_ (i' rfl (i' Zi.bd.ca ?_))) (λ_=>⟨A,V,l,c,_,rfl,Zi,wf,ha,hw',λM' s=>⟨?_,λe f=>?_⟩⟩)⟩
  .rw[lc];exact lany
  .exact i' (s.lst s1o) ⟨c,_,_,Z',YC,i' (s.lst s1o) (i' ex1 (i' (s.lst s1n) ⟨c,_,_,Z',Xx,i' (s.lst s1n) (i' ex2 ⟨oV Z',Xs M' (.call x1 x2) s trivial⟩)⟩))⟩
  .cases e with
   | call y z=>exact Xs M' (.call y z) s f
   | num v y ns=>exact Xs M' (.num v y ns) s f
   | turn=>exact Xs M' .turn s f
   | sw b i=>exact Xs M' (.sw b i) s f
noncomputable def rF(V:qa)(i:Nat):Str:=(V.calls[i]?).elim Str.empty (·.st)
def Ev.fit(V:qa):Ev->Prop
 | .leg v=>rF V v.i="rings"/\v.f=v.y
 | .rings i _=>rF V i="rings"
 | .waits i _=>rF V i="rings"
 | .talks i _=>i<V.calls.length
 | .over i _=>i<V.calls.length
 | .held i _=>rF V i="talks"
 | .merge i j _=>i≠j/\rF V j="talks"
 | _=>True
def xu:qa->T0 Ev->Prop
 | _,[]=>True
 | V,e::r=>e.fit V/\xu (pP V e) r
theorem xR:∀{V:qa} {es fs:T0 Ev},xu V es->xu (qA V es) fs->xu V (es++fs)
 | _,[],_,_,h=>h
 | _,_::_,_,h,g=>⟨h.1,xR h.2 g⟩
def B0{V:qa}{i:Nat}{c:pf}(h:V.calls[i]?=ga c):rF V i=c.st:=by unfold rF;rw[h];rfl
def xV.st{V V':qa}(h:xV V V')(i:Nat):rF V' i=rF V i:=by
 have e:∀W:qa,rF W i=((W.calls.map pf.core)[i]?).elim Str.empty (·.st):=λW=>by unfold rF;rw[dA];cases W.calls[i]?<;>rfl
 rw[e,e,show V'.calls.map pf.core=V.calls.map pf.core from h]
theorem yU(i:Nat):∀(st:sO) (q:Option Str) {V:qa},rF V i="rings"->xu V (qT i q st)
 | [],_,V,_=>by unfold qT;trivial
 | (y,gs)::r,Fa,V,h=>⟨trivial,yU i r (ga y) h⟩
 | (y,gs)::r,ga u,V,h=>⟨⟨h,Z'⟩,trivial,yU i r (ga y) (((uJ V _).core.st i).trans h)⟩
def Gp{V V1:qa}{k:pf}{e:vf}(h:D0 l V i e)(hk:V.calls[i]?=ga k)(s:tj V V1)(hs:rF V1 i="rings"):xu V1 (rT l V i e):=by
 have Yz:i<V1.calls.length:=by rw[s.len];exact(cZ.mp hk).1
 cases e with
 | rings z ps=>
  show xu V1 ((if (l.mE z=="turns")=Db then _ else _)++[.rings i ps]);split
  .exact⟨trivial,hs,trivial⟩
  .exact⟨hs,trivial⟩
 | waits z=>exact⟨hs,trivial⟩
 | breaks z=>
  obtain⟨j,d,t1,t2,t3,t4⟩:=h;have hee:rT l V i (.breaks z)=[.merge i j (d.ms++[k.cr])]:=by unfold rT;dsimp only;rw[t1,hk];dsimp only;rw[t2];rfl
  rw[hee];refine⟨⟨t3,?_⟩,trivial⟩;rw[s.core.st,B0 t2];obtain⟨hj,t,_⟩:=gS.mp t1;rw[cY hj]at t2;rw[dv t2]at t;unfold pf.mI at t;rw[dY]at t;exact ZB t.1
 | engaged z=>exact⟨Yz,trivial⟩
 | barred=>exact⟨Yz,trivial⟩
 | ring ns=>exact⟨Yz,trivial⟩
def IP{V:qa}{i:Nat}{k:pf}(ok:qY l)(wf:zg l V (ga i))(hk:V.calls[i]?=ga k):xu V (uU l V i):=by
 have Yd:=wf.ok i k hk;have hs:rF V i="rings":=(B0 hk).trans (Vi wf hk).1;unfold uU;rw[hk];dsimp only[Option.elim];obtain⟨z,hz⟩:∃z,k.way.getLast?=ga z:=by
  cases e:k.way.getLast? with
  | none=>exact absurd (gk.mp e) Yd.wy.1
  | some z=>exact⟨z,Z'⟩
 rw[show k.way.getLastD Str.empty=z by rw[gQ,hz];rfl];have ro:wH l V k.cr (l.nm.length+1) [] (ut l V k.cr z k.way.dropLast):=x8 ok _ _ _ _ (Yd.wy.2 z (ik hz)) λx hx=>Yd.wy.2 x (il _ hx);have eo:=HZ ok wf hk ro.e;generalize ut l V k.cr z k.way.dropLast=R at eo;obtain⟨e,st⟩:=R;have s1:=ux i st Fa V;have h1:rF (qA V (qT i Fa st)) i="rings":=(s1.core.st i).trans hs;refine xR (yU i st Fa hs) ?_;generalize qA V (qT i Fa st)=V1 at s1 h1;dsimp only;have h2:sH i st e=[]\/∃v,sH i st e=[.leg v]/\v.i=i/\v.f=v.y:=by
  unfold sH;cases e with
  | ring ns=>
   dsimp only;cases st.getLast? with
   | none=>exact .inl Z'
   | some s0=>exact .inr ⟨_,Z',Z',Z'⟩
  | _=>exact .inl Z'
 rcases h2 with h2|⟨v,h2,rfl,hv⟩
 .rw[h2];exact Gp eo hk s1 h1
 .rw[h2];exact⟨⟨h1,hv⟩,Gp eo hk (s1.trans (uJ _ _)) (((uJ V1 v).core.st _).trans h1)⟩
def JT{V:qa}(ok:qY l)(wf:WF l V):xu V (sJ l V i (ym l V i)):=by
 have d:=ED (V:=V) (i:=i) ok;generalize ym l V i=fs at d;cases d with
 | no=>trivial
 | on c k r b x y n hc hs hk hw hy=>rw[yh hk];refine xR ⟨trivial,trivial,⟨?_,Z'⟩,trivial⟩ (IP ok (Bg wf hc hs hy) (Bp hc));show rF (xm _ i pf.mX) i=_;rw[B0 (c:=c.mX) (by show(V.calls.modify i pf.mX)[i]?=_;rw[List.getElem?_modify_eq,hc];rfl)];exact hs
theorem Ef(ok:qY l):∀(is:T0 Nat) {V:qa},WF l V->xu V (qN l is V)
 | [],V,_=>by unfold qN;trivial
 | i::r,V,wf=>by unfold qN;exact xR (JT ok wf) (Ef ok r (Ew ok wf))
def QC{V:qa}{e:sF}(ok:qY l)(wf:WF l V)(f:e.mT)(h:wD l V e=Fa):xu V (vm l V e):=by
 cases e with
 | call y z=>obtain⟨h1,h2,h3,h4⟩:=Bj h;obtain⟨k,hk⟩:=Hw (V:=V) (y:=y) (z:=z);refine xR ⟨trivial,⟨?_,Z'⟩,trivial⟩ (IP ok (E5 wf h1 h2 h3 h4) hk);exact B0 (c:=xQ y) (by show(V.calls++[xQ y])[V.calls.length]?=_;simp)
 | turn=>exact⟨trivial,Ef ok _ (Bh wf)⟩
 | sw b i=>exact⟨trivial,trivial⟩
 | num w x ns=>
  obtain⟨_,n⟩:=Cg f h;cases n with
  | answer i c hi hc h1 h2 h3=>show xu V [yI V "answer" x i.toNat];rw[va hc];exact⟨(cZ.mp hc).1,trivial⟩
  | hang i c hi hc h1=>
   have lt:=(cZ.mp hc).1;show xu V (tZ V x i.toNat);unfold tZ;rw[hc];dsimp only[Option.elim];split
   .exact⟨lt,trivial⟩
   split
   .refine⟨trivial,?_⟩;split
    .exact⟨by show _<(V.calls.modify _ _).length;rw[fR];exact lt,trivial⟩
    .trivial
   split
   .exact⟨trivial,trivial⟩
   .exact⟨lt,trivial⟩
  | hold i c hi hc h1=>show xu V [yI V "hold" x i.toNat];rw[va hc];exact⟨(B0 hc).trans (wB.mp h1).1,trivial⟩
  | back i c hi hc h1 h2=>show xu V [yI V "back" x i.toNat];rw[va hc];exact⟨(cZ.mp hc).1,trivial⟩
  | two _ i j c d hi hj hw hc hd h1 h2=>show xu V [CO V w x i.toNat j.toNat];rw[Ct hc hd];exact⟨⟨(EY (w:=w) wf hc hd h1 h2).1,(B0 hd).trans (wB.mp h2).1⟩,trivial⟩
structure Bl where
 rs:List (Str×Str×Str)
 ow:List Nat
 un:List Int
 ct:List (qL×D)
noncomputable def Tw(kvs:T0 (qL×D))(i:Nat):D:=(sV kvs (.inl (i:Nat))).getD (.bl pc)
def EU(kvs:T0 (qL×D))(i:Nat):Bool:=match Tw kvs i with
 | .bl b=>b
 | _=>pc
noncomputable def zX(kvs:T0 (qL×D))(i:Nat)(b:Bool):T0 (qL×D):=wz kvs (.inl (i:Nat)) (.bl b)
def Av(kvs:T0 (qL×D))(o:Nat)(u:Int):Int:=if EU kvs o=Db then u+1 else u
def vn(B:Bl):Ev->Bl
 | .leg v=>⟨B.rs++[(v.f,v.g,v.y)],B.ow++[v.i],B.un++[0],B.ct⟩
 | .talks i _=>{B with ct:=zX B.ct i Db}
 | .over i _=>{B with ct:=zX B.ct i pc}
 | .merge i j _=>{B with ow:=B.ow.map λo=>if o=i then j else o}
 | .turn=>{B with un:=List.zipWith (Av B.ct) B.ow B.un}
 | _=>B
def rk(es:T0 Ev):Bl:=es.foldl vn ⟨[],[],[],[]⟩
def Li(k k':qL)(d:D)(kvs:T0 (qL×D)):sV (wz kvs k d) k'=if k'=k then ga d else sV kvs k':=by
 have m:∀kvs:T0 (qL×D),sV (kvs.map λkv=>if kv.1=k then(kv.1,d)else kv) k'=if k'=k then(sV kvs k).map (λ_=>d)else sV kvs k':=λkvs=>by
  induction kvs with
  | nil=>unfold sV;split<;>rfl
  | cons x r ih=>
   unfold sV at ih ⊢;rw[d6,eW,eW,eW];by_cases e:x.1=k
   .rw[df e,e,dS (Z':k=k)];by_cases e2:k=k'
    .rw[df e2.symm,dS e2];rfl
    .rw[de λz:k'=k=>e2 z.symm]at ih ⊢;rw[eD e2];exact ih
   .rw[de e,eD e];by_cases e2:x.1=k'
    .rw[dS e2,de λz=>e (e2.trans z)]
    .rw[eD e2];exact ih
 unfold wz;split
 .rename_i h;rw[m];obtain⟨x,hx,ex⟩:=fQ.mp h;split
  .cases e:sV kvs k with
   | none=>unfold sV at e;rw[Option.map_eq_none_iff,gi]at e;exact absurd ex (e x hx)
   | some _=>rfl
  .rfl
 .rename_i h;unfold sV;rw[lj];by_cases e:k'=k
  .rw[df e,e];rw[show kvs.find? (λkv=>decide (kv.1=k))=Fa from gi.mpr λx hx ex=>h (fQ.mpr ⟨x,hx,ex⟩)];simp
  .rw[de e,eW,eD (λz=>e z.symm)];simp
def HN(kvs:T0 (qL×D))(i:Nat)(b:Bool)(k:Nat):Tw (zX kvs i b) k=if k=i then .bl b else Tw kvs k:=by
 unfold Tw zX;rw[Li];by_cases e:k=i
 .rw[df e,e,df Z'];rfl
 .rw[de e,de λz=>e (by injection z with z;lia)]
noncomputable def TJ(s:Str):Bool:=s=="talks"||s=="held"
structure CJ(V:qa)(B:Bl):Prop where
 ow:B.ow=V.mG.map (·.i)
 rs:B.rs=V.mG.map λv=>(v.f,v.g,v.y)
 un:B.un.length=V.mG.length
 ct:∀i,i∈B.ow\/rF V i≠"over"->EU B.ct i=TJ (rF V i)
 fy:∀v∈V.mG,v.f=v.y
 ix:∀v∈V.mG,rF V v.i≠Str.empty
def yM{V V':qa}{i:Nat}{f:pf->pf}(h:V'.calls=V.calls.modify i f)(k:Nat):rF V' k=if k=i then(V.calls[i]?).elim Str.empty (λc=>(f c).st)else rF V k:=by
 unfold rF;rw[h,gR];by_cases e:i=k
 .subst e;rw[df Z'];cases V.calls[i]?<;>simp
 .rw[de (λz=>e z.symm)];simp[e]
def zp{V V':qa}(h:CJ V B)(l:V'.mG=V.mG)(s:∀k,rF V' k=rF V k):CJ V' B:=⟨by rw[l];exact h.ow,by rw[l];exact h.rs,by rw[l];exact h.un,λk hk=>by rw[s]at hk ⊢;exact h.ct k hk,by rw[l];exact h.fy,λv hv=>by rw[s];exact h.ix v (l ▸ hv)⟩
def Ia{V V':qa}{i:Nat}(h:CJ V B)(l:V'.mG=V.mG)(s:∀k,k≠i->rF V' k=rF V k)(c:T0 (qL×D))(hc:∀k,k≠i->EU c k=EU B.ct k)(hi:EU c i=TJ (rF V' i))(ne:rF V' i≠Str.empty):CJ V' {B with ct:=c}:=⟨by rw[l];exact h.ow,by rw[l];exact h.rs,by rw[l];exact h.un,λk hk=>by
 by_cases e:k=i
 .rw[e];exact hi
 .rw[s k e]at hk ⊢;exact(hc k e).trans (h.ct k hk),by rw[l];exact h.fy,λv hv=>by
 by_cases e:v.i=i
 .rw[e];exact ne
 .rw[s _ e];exact h.ix v (l ▸ hv)⟩
def QW{i k:Nat}{b:Bool}(h:k≠i):EU (zX kvs i b) k=EU kvs k:=by unfold EU;rw[HN,de h]
def QJ{b:Bool}:EU (zX kvs i b) i=b:=by unfold EU;rw[HN,df Z']
def Qx{V:qa}{e:Ev}(h:CJ V B)(f:e.fit V):CJ (pP V e) (vn B e):=by
 have one:∀{i:Nat} {g:pf->pf} {V':qa},V'.calls=V.calls.modify i g->∀k,k≠i->rF V' k=rF V k:=λhv k hk=>by rw[yM hv,de hk]
 have same:∀{i:Nat} {g:pf->pf} {V':qa},V'.calls=V.calls.modify i g->(∀c,(g c).st=c.st)->∀k,rF V' k=rF V k:=λ{i _ _} hv hg k=>by
  rw[yM hv];split
  .rename_i z;rw[z];unfold rF;cases V.calls[i]? with
   | none=>rfl
   | some c=>exact hg c
  .rfl
 have Yu:∀{i:Nat} {g:pf->pf} {s:Str} {V':qa},V'.calls=V.calls.modify i g->(∀c,(g c).st=s)->rF V i≠"over"->rF V i≠Str.empty->TJ (rF V i)=TJ s->V'.mG=V.mG->s≠Str.empty->CJ V' B:=λ{i g s V'} hv hg h1 h2 h3 hl hs=>Ia (c:=B.ct) h hl (one hv) (λ_ _=>rfl) (by
  rw[yM hv,df Z'];rw[h.ct i (.inr h1),h3];unfold rF at h2;cases e:V.calls[i]? with
  | none=>rw[e]at h2;exact absurd Z' h2
  | some c=>exact eI TJ (hg c).symm) (by
  rw[yM hv,df Z'];unfold rF at h2;cases e:V.calls[i]? with
  | none=>rw[e]at h2;exact absurd Z' h2
  | some c=>exact λz=>hs ((hg c).symm.trans z))
 have lt:∀{i:Nat} {g:pf->pf} {s:Str} {V':qa},V'.calls=V.calls.modify i g->(∀c,(g c).st=s)->i<V.calls.length->rF V' i=s:=λ{i g s V'} hv hg hi=>by rw[yM hv,df Z',cY hi];exact hg _
 cases e with
 | new n x=>
  have e:∀k,rF (pP V (.new n x)) k=if k=V.calls.length then("rings":Str)else rF V k:=λk=>by
   show((V.calls++[xQ x])[k]?).elim Str.empty (·.st)=_;rw[List.getElem?_append];split
   .rw[de (by lia)];rfl
   .split
    .rename_i z;rw[z,gp];rfl
    .rename_i z1 z2;unfold rF;rw[fO (by simp;lia),fO (by lia)]
  refine⟨h.ow,h.rs,h.un,λk hk=>?_,h.fy,λv hv=>by rw[e];split;decide;exact h.ix v hv⟩;rw[e]at hk ⊢;by_cases z:k=V.calls.length
  .rw[df z];have:rF V k=Str.empty:=by unfold rF;rw[fO (by lia)];rfl
   refine(h.ct k (.inr (by rw[this];decide))).trans ?_;rw[this];decide+kernel
  .rw[de z]at hk ⊢;exact h.ct k hk
 | leg v=>
  have s:=(uJ V v).core.st;refine⟨?_,?_,?_,λk hk=>?_,λu hu=>?_,λu hu=>?_⟩
  .show B.ow++[v.i]=(V.mG++[v]).map _;rw[h.ow,dI];rfl
  .show B.rs++[_]=(V.mG++[v]).map _;rw[h.rs,dI];rfl
  .show(B.un++[0]).length=(V.mG++[v]).length;rw[c9,c9,h.un];rfl
  .rw[s]at hk ⊢;refine h.ct k ?_;rcases hk with hk|hk
   .rcases dO.mp hk with z|z
    .exact .inl z
    .rw[dh.mp z,f.1];exact .inr (by decide)
   .exact .inr hk
  .rcases dO.mp hu with z|z
   .exact h.fy u z
   .rw[dh.mp z];exact f.2
  .rw[s];rcases dO.mp hu with z|z
   .exact h.ix u z
   .rw[dh.mp z,f.1];decide
 | asks i z ns=>exact zp h Z' λ_=>rfl
 | next z n=>exact zp h Z' λ_=>rfl
 | sw b i=>exact zp h Z' λ_=>rfl
 | turn=>have s:=(DV V).st;refine⟨h.ow,h.rs,?_,λk hk=>by rw[s]at hk ⊢;exact h.ct k hk,h.fy,λv hv=>by rw[s];exact h.ix v hv⟩;show(List.zipWith _ B.ow B.un).length=V.mG.length;rw[gx,h.un,h.ow,cW,gC]
 | quiet i=>exact zp h Z' (same (i:=i) (g:=pf.mX) Z' λ_=>rfl)
 | leaves i x=>exact zp h Z' (same (i:=i) (g:=(·.drop x)) Z' λ_=>rfl)
 | rings i ps=>exact Yu (i:=i) (g:=(·.ring ps)) (s:="rings") Z' (λ_=>rfl) (by rw[f];decide) (by rw[f];decide) (by rw[f]) Z' (by decide)
 | waits i x=>exact Yu (i:=i) (g:=(·.wait x)) (s:="waits") Z' (λ_=>rfl) (by rw[f];decide) (by rw[f];decide) (by rw[f];decide+kernel) Z' (by decide)
 | held i x=>exact Yu (i:=i) (g:=(·.hold x)) (s:="held") Z' (λ_=>rfl) (by rw[f];decide) (by rw[f];decide) (by rw[f];decide+kernel) Z' (by decide)
 | talks i ms=>exact Ia (V':=pP V (.talks i ms)) (c:=zX B.ct i Db) h Z' (one (i:=i) (g:=(·.mV ms)) Z') (λ_ hk=>QW hk) (by rw[QJ,lt (V':=pP V (.talks i ms)) (i:=i) (g:=(·.mV ms)) (s:="talks") Z' (λ_=>rfl) f];decide+kernel) (by rw[lt (V':=pP V (.talks i ms)) (i:=i) (g:=(·.mV ms)) (s:="talks") Z' (λ_=>rfl) f];decide)
 | over i w=>exact Ia (V':=pP V (.over i w)) (c:=zX B.ct i pc) h Z' (one (i:=i) (g:=(·.over w)) Z') (λ_ hk=>QW hk) (by rw[QJ,lt (V':=pP V (.over i w)) (i:=i) (g:=(·.over w)) (s:="over") Z' (λ_=>rfl) f];decide+kernel) (by rw[lt (V':=pP V (.over i w)) (i:=i) (g:=(·.over w)) (s:="over") Z' (λ_=>rfl) f];decide)
 | merge i j ms=>
  have s:∀k,rF (pP V (.merge i j ms)) k=if k=i then(V.calls[i]?).elim Str.empty (λ_=>"over")else rF V k:=λk=>by
   have e1:=yM (V:=V) (V':={V with calls:=V.calls.modify i (·.over "merged")}) (i:=i) Z' k;have e2:=yM (V:={V with calls:=V.calls.modify i (·.over "merged")}) (V':=pP V (.merge i j ms)) (i:=j) (f:=(·.mem ms)) Z' k;rw[e2];split
   .rename_i z;rw[z,de f.1.symm];show((V.calls.modify i _)[j]?).elim Str.empty (λc=>c.st)=_;rw[gR];simp only[f.1,lE];unfold rF;cases V.calls[j]?<;>rfl
   .exact e1
  refine⟨?_,?_,?_,λk hk=>?_,λu hu=>?_,λu hu=>?_⟩
  .show B.ow.map _=(V.mG.map (rj.to i j)).map _;rw[h.ow,d4,d4];refine fN λv _=>?_;show(if v.i=i then j else v.i)=(rj.to i j v).i;unfold rj.to;split<;>rfl
  .show B.rs=(V.mG.map (rj.to i j)).map _;rw[h.rs,d4];refine fN λv _=>?_;show _=((rj.to i j v).f,(rj.to i j v).g,(rj.to i j v).y);unfold rj.to;split<;>rfl
  .exact h.un.trans (cW ..).symm
  .rw[s]at hk ⊢;by_cases z:k=i
   .subst z;rw[df Z']at hk ⊢;cases e:V.calls[k]? with
    | none=>
     have:rF V k=Str.empty:=by unfold rF;rw[e];rfl
     refine(h.ct k (.inr (by rw[this];decide))).trans ?_;rw[this];rfl
    | some c=>
     rw[e]at hk;rcases hk with hk|hk
     .obtain⟨o,_,ho⟩:=dD.mp hk;split at ho
      .exact absurd ho.symm f.1
      .rename_i n;exact absurd ho n
     .exact absurd Z' hk
   .rw[de z]at hk ⊢;refine h.ct k ?_;rcases hk with hk|hk
    .obtain⟨o,ho,e⟩:=dD.mp hk;split at e
     .rw[<-e,f.2];exact .inr (by decide)
     .rw[<-e];exact .inl ho
    .exact .inr hk
  .obtain⟨v,hv,rfl⟩:=dD.mp hu;unfold rj.to;split
   .exact h.fy v hv
   .exact h.fy v hv
  .obtain⟨v,hv,rfl⟩:=dD.mp hu;rw[s];unfold rj.to;split
   .show(if j=i then _ else rF V j)≠_;rw[de f.1.symm,f.2];decide
   .exact h.ix v hv
theorem Ls:∀{es:T0 Ev} {V:qa} {B:Bl},CJ V B->xu V es->CJ (qA V es) (es.foldl vn B)
 | [],_,_,h,_=>h
 | e::r,_,_,h,f=>Ls (es:=r) (Qx h f.1) f.2
def LC(a:Ad):rb:=λds M Q=>Co λr1 r2 r3 (l:pz)=>ds=[.tup [.ref r1,.ref r2,.ref r3]]/\oa M r1=ga (l.mB.map qR)/\oa M r2=ga (l.groups.map qX)/\oa M r3=ga (l.mx.map vI)/\qY l/\∀p M',qz M M'->sP a M' p l->Q (.ref p) M'
def Ny:rb:=λds M Q=>∃ns,ds=[.rl (List.map D.int ns)]/\Q (.int (qo (cell ns 0) 1664525 24)) M
def Mb(a:Ad):rb:=λds M Q=>GH λA V l ns k=>ds=[.ref A.b,.rl (List.map D.int ns),.int k]/\Rd a M A V l/\WF l V/\(∀k∈V.calls,k.at_.length<=100)/\(0<=k/\k<=1000)/\∀M' (e:sF),qz M M'->e.mT->Q e.d M'
structure zD(a:Ad)(M0 M:Mp)(A:tK)(V:qa)(l:pz)(c n:Nat):Prop where
 cu:uC a M0 M A.b A V l c n
 wf:WF l V
 bl:CJ V (rk V.log)
 ps:V.ps.length<=3
def Gw(es fs:T0 Ev):rk (es++fs)=fs.foldl vn (rk es):=iH
variable {c' n':Nat}{e:sF}
section
variable {c:Nat}
def zD.after(g:zD a M0 M A V l c n)(f:e.mT)(hr:wD l V e=Fa)(cu:uC a M0 M' A.b A' (qA V (vm l V e)) l c' n'):zD a M0 M' A' (qA V (vm l V e)) l c' n':=by
 have cu':uC a M0 M' A'.b A' (qA V (vm l V e)) l c' n':=by rw[cu.b];exact cu
 refine⟨cu',UW g.cu.ok g.wf f hr,?_,?_⟩
 .rw[Bb,Gw];exact Ls g.bl (QC g.cu.ok g.wf f hr)
 .rw[Ue g.cu.ok g.wf f hr];exact g.ps
def zD.sub(g:zD a M0 M A V l c n)(s:qz M M'):zD a M0 M' A V l c n:=⟨g.cu.sub s,g.wf,g.bl,g.ps⟩
def zD.mono(g:zD a M0 M A V l c n)(hc:c<=c')(hn:n<=n'):zD a M0 M A V l c' n':=⟨g.cu.mono hc hn,g.wf,g.bl,g.ps⟩
def VI{p:lf}{F:QXQ}:CJ (V0 p h l F) (rk []):=⟨Z',Z',Z',λ_ _=>rfl,(λv hv=>by cases hv),λv hv=>by cases hv⟩
def zD.start{p b:lf}(ok:qY l)(pl:sP a M0 p l)(hb:M0 b=Fa)(eb:A.b=b)(kp:qV b (pq M0 b (.ins a.c [])) M)(fr:∀x∈A.foot,x=b\/pq M0 b (.ins a.c []) x=Fa)(bd:pG a M A (V0 p h l [])):zD a M0 M A (V0 p h l []) l 1 3:=by
 have t:=qz.new (c:=.ins a.c []) hb;subst eb;refine⟨⟨bd,pl,λx c e=>kp x c (FL e hb) (t x c e),λx hx=>?_,Z',⟨eU _,eU _,eU _,DJ ok,λk hk=>by cases hk⟩,ok,cW ..⟩,VL ok,VI,DJ ok⟩;rcases fr x hx with z|z
 .rw[z];exact hb
 .exact t.none z
end
def JO{pre post:T0 D}{d:D}(e:pre++d::post=(List.range n).map λi=>D.int (1+(i:Nat))):d=.int (1+(pre.length:Nat))/\pre.length<n:=by
 have h:((List.range n).map λi=>D.int (1+(i:Nat)))[pre.length]?=ga d:=by rw[<-e];simp
 have hl:pre.length<n:=by
  have:=(cZ.mp h).1
  simpa using this
 rw[dA,iW hl]at h;exact⟨(dv h).symm,hl⟩
def Lj:Fq P w K mg base 9 a.bs (LC a):=by
 refine fq G.bs.toDG F9 (λr u=>⟨_,(oY (pk (vg (QG G) r G.h G.ca G.ai.toDG (rh (qe sI Z' G.r so (pZ (pD v0 o9))) (qe sI Z' G.r so (pZ (pD v0 o9))) (qe sI Z' G.r so (pZ (pD v0 o9))))))),?_⟩)
 rintro ds M Q ⟨r1,r2,r3,l,rfl,h1,h2,h3,ok,q⟩
 refine i' h1 λp1 YC=>?_;obtain⟨M1,e0,t1,l1⟩:=uW (ds:=l.mB.map qR) YC;rw[<-e0];refine i' (t1.lst h2) λp2 Xx=>?_;obtain⟨M2,e0,t2,l2⟩:=uW (ds:=l.groups.map qX) Xx;rw[<-e0];refine i' ((t1.trans t2).lst h3) λp3 Y5=>?_;obtain⟨M3,e0,t3,l3⟩:=uW (ds:=l.mx.map vI) Y5;rw[<-e0];refine λp hp=>?_;have t4:=qz.new (c:=.ins a.h []) hp;refine⟨p,p1,p2,p3,l,Z',pK,(t2.trans (t3.trans t4)).lst l1,(t3.trans t4).lst l2,t4.lst l3,ok,λM5 kp pa _=>⟨Z',_,.refl,q p M5 ?_ pa⟩⟩;exact t1.trans (t2.trans (t3.trans λx c e=>kp x c (λz=>by rw[z,hp]at e;cases e) (t4 x c e)))
def LY:Fq P w K mg base 2 a.bt Ny:=by
 refine fq G.bt.toDG Gr (λr u=>⟨_,(oY (pk (pC (qD G) r G.i (rh (pC (IT G) r G.J (rN v0 o9)) o9 o9)))),?_⟩)
 rintro ds M Q ⟨ns,rfl,q⟩
 exact⟨ns,0,Z',_,_,_,Z',by decide,M,.refl,q⟩
def Ma:Fq P w K mg base 6 a.bv (Mb a):=by
 refine fq G.bv.toDG Gj (λr u=>⟨_,(oY (pk (pC (Nn G) r G.br (pV v0 (rh (pQ (pC (IT G) r G.J (rN U1 U2)) (pQ (pQ o9 U2) U2)) (vK (pj v0) G.h.toCls G.L (su G) r) (vK (pj v0) G.h.toCls G.aj (yx G) r)))))),?_⟩)
 rintro ds M Q ⟨A,V,l,ns,k,rfl,rd,wf,ha,hk,q⟩
 obtain⟨ph,gr,ws,YZ,pr,gd,rs,i1,_⟩:=rd.pl;have p1:=rd.ok.p1;have p8:=rd.ok.p8;have g3:=rd.ok.g3;have pl:l.pn.length=l.mB.length:=cW ..;have nl:l.nm.length=l.mB.length+l.groups.length:=by unfold pz.nm pz.pn pz.gn;rw[c9,cW,cW]
 refine⟨ns,k,Z',?_⟩;refine⟨.inl ⟨by decide,by decide⟩,.inr ⟨by lia,by lia⟩,?_⟩;refine oZ rd.bd.at_ (i' Z' (oZ i1 ⟨Z',_,⟨Z',Z'⟩,V.p,l,Z',rd.pl,by lia,λq1 Yc=>?_⟩));obtain⟨M1,e0,t1,l1⟩:=uW (ds:=l.pn.map D.str) Yc;rw[<-e0];show Aa (M1 A.b) _;refine oZ (t1 _ _ rd.bd.at_) (i' Z' (oZ (t1 _ _ i1) ⟨Z',_,⟨Z',Z'⟩,V.p,l,Z',rd.pl.sub t1,by lia,by lia,λq2 YY=>?_⟩));have t2:=qz.new (c:=.lst (l.nm.map D.str)) YY;exact⟨A,V,l,_,q1,q2,l.pn,l.nm,Z',rd.sub (t1.trans t2),wf,ha,t2.lst l1,pA,λz=>by rw[z]at pl;simp only[dN]at pl;lia,λz=>by rw[z]at nl;simp only[dN]at nl;lia,by lia,by lia,λM' e s f=>⟨M',.refl,q M' e (t1.trans (t2.trans s)) f⟩⟩
noncomputable def Lx(x:Str×Str×Str):D:=.tup [.str x.1,.str x.2.1,.str x.2.2]
noncomputable def Jn(x:Str×Str×Str)(u:Int):D:=.tup [.str x.1,.str x.2.1,.str x.2.2,.int u]
noncomputable def Dp(o:Nat):D:=.int (o:Nat)
def tI(B:Bl):T0 D:=List.zipWith Jn B.rs B.un
structure Tv(B:Bl)(n:Nat):Prop where
 rs:B.rs.length=B.un.length
 ow:B.ow.length=B.un.length
 un:B.un.length<=n
 ct:B.ct.length<=n
 bl:∀i,Tw B.ct i=.bl (EU B.ct i)
def MI(kvs:T0 (qL×D))(i:Nat)(b:Bool):(zX kvs i b).length<=kvs.length+1:=by
 unfold zX wz;split
 .rw[cW];lia
 .rw[c9];exact dq _
def LJ{b:Bool}(h:Tv B n):Tv {B with ct:=zX B.ct i b} (n+1):=⟨h.rs,h.ow,gN h.un,dZ (MI ..) (gA h.ct),λk=>by
 show Tw (zX B.ct i b) k=.bl (EU (zX B.ct i b) k);unfold EU;rw[HN];split
 .rfl
 .exact h.bl k⟩
def OY{e:Ev}(h:Tv B n):Tv (vn B e) (n+1):=by
 have up:Tv B (n+1):=⟨h.rs,h.ow,gN h.un,gN h.ct,h.bl⟩;have l:∀{α:Type} (x:List α) (y:α),(x++[y]).length=x.length+1:=λ_ _=>c9;cases e with
 | leg v=>exact⟨by show(_++[_]).length=(_++[_]).length;rw[l,l,h.rs],by show(_++[_]).length=(_++[_]).length;rw[l,l,h.ow],by show(_++[_]).length<=_;rw[l];exact gA h.un,up.ct,h.bl⟩
 | merge i j ms=>exact⟨h.rs,by show(B.ow.map _).length=_;rw[cW];exact h.ow,up.un,up.ct,h.bl⟩
 | turn=>
  have e:(List.zipWith (Av B.ct) B.ow B.un).length=B.un.length:=by rw[gx,h.ow,gC]
  exact⟨h.rs.trans e.symm,h.ow.trans e.symm,by show(List.zipWith _ _ _).length<=_;rw[e];exact up.un,up.ct,h.bl⟩
 | talks i ms=>exact LJ h
 | over i w=>exact LJ h
 | _=>exact up
def Jh{es:T0 Ev}{k:Nat}{e:Ev}(h:es[k]?=ga e):rk (es.take (k+1))=vn (rk (es.take k)) e:=by unfold rk;rw[fU,h,iH];rfl
theorem Fb(es:T0 Ev):∀k,k<=es.length->Tv (rk (es.take k)) k
 | 0,_=>⟨Z',Z',dq _,dq _,λ_=>rfl⟩
 | k+1,h=>by rw[Jh (cY (by lia))];exact OY (Fb es k (by lia))
structure wm(M M':Mp)(B:Bl)(p1 p2 p3 p4:lf):Prop where
 s:qz M M'
 n1:M p1=Fa
 n2:M p2=Fa
 n3:M p3=Fa
 n4:M p4=Fa
 l1:oa M' p1=ga (B.rs.map Lx)
 l2:oa M' p2=ga (B.ow.map Dp)
 l3:oa M' p3=ga (B.un.map D.int)
 l4:xp M' p4=ga B.ct
 oz:p1≠p2
 oy:p1≠p3
 oJ:p2≠p3
def zc{p:lf}{c:uI}(s:qz M M')(h:M p=Fa):qz M (pq M' p c):=λx d e=>by rw[tQ (FL e h)];exact s x d e
def DC{p q:lf}{ds:T0 D}{ks:T0 (qL×D)}(h:oa M p=ga ds)(g:xp M q=ga ks):p≠q:=λz=>by have:=(pN h).symm.trans (z ▸ vD g);cases this
variable {B:Bl}{p1 p2 p3 p4:lf}
def wm.put1(h:wm M M' B p1 p2 p3 p4)(x:Str×Str×Str):wm M (pq M' p1 (.lst (B.rs.map Lx++[Lx x]))) {B with rs:=B.rs++[x]} p1 p2 p3 p4:=⟨zc h.s h.n1,h.n1,h.n2,h.n3,h.n4,by rw[pA,dI];rfl,qV.put.lst h.oz.symm h.l2,qV.put.lst h.oy.symm h.l3,qV.put.dk (DC h.l1 h.l4).symm h.l4,h.oz,h.oy,h.oJ⟩
def wm.put2(h:wm M M' B p1 p2 p3 p4)(x:Nat):wm M (pq M' p2 (.lst (B.ow.map Dp++[Dp x]))) {B with ow:=B.ow++[x]} p1 p2 p3 p4:=⟨zc h.s h.n2,h.n1,h.n2,h.n3,h.n4,qV.put.lst h.oz h.l1,by rw[pA,dI];rfl,qV.put.lst h.oJ.symm h.l3,qV.put.dk (DC h.l2 h.l4).symm h.l4,h.oz,h.oy,h.oJ⟩
def wm.put3(h:wm M M' B p1 p2 p3 p4)(x:Int):wm M (pq M' p3 (.lst (B.un.map D.int++[D.int x]))) {B with un:=B.un++[x]} p1 p2 p3 p4:=⟨zc h.s h.n3,h.n1,h.n2,h.n3,h.n4,qV.put.lst h.oy h.l1,qV.put.lst h.oJ h.l2,by rw[pA,dI];rfl,qV.put.dk (DC h.l3 h.l4).symm h.l4,h.oz,h.oy,h.oJ⟩
def wm.oG(h:wm M M' B p1 p2 p3 p4)(k:T0 (qL×D)):wm M (pq M' p4 (.dk k)) {B with ct:=k} p1 p2 p3 p4:=⟨zc h.s h.n4,h.n1,h.n2,h.n3,h.n4,qV.put.lst (DC h.l1 h.l4) h.l1,qV.put.lst (DC h.l2 h.l4) h.l2,qV.put.lst (DC h.l3 h.l4) h.l3,CC,h.oz,h.oy,h.oJ⟩
def wm.new2(h:wm M M' B p1 p2 p3 p4){q:lf}(hq:M' q=Fa)(x:T0 Nat):wm M (pq M' q (.lst (x.map Dp))) {B with ow:=x} p1 q p3 p4:=⟨h.s.trans (.new hq),h.n1,h.s.none hq,h.n3,h.n4,(qz.new hq).lst h.l1,pA,(qz.new hq).lst h.l3,(qz.new hq).dk h.l4,FL (pN h.l1) hq,h.oy,(FL (pN h.l3) hq).symm⟩
def wm.new3(h:wm M M' B p1 p2 p3 p4){q:lf}(hq:M' q=Fa)(x:T0 Int):wm M (pq M' q (.lst (x.map D.int))) {B with un:=x} p1 p2 q p4:=⟨h.s.trans (.new hq),h.n1,h.n2,h.s.none hq,h.n4,(qz.new hq).lst h.l1,(qz.new hq).lst h.l2,pA,(qz.new hq).dk h.l4,h.oz,FL (pN h.l1) hq,FL (pN h.l2) hq⟩
def Mo:rb:=λds M Q=>CQ λr (es:T0 Ev)=>ds=[.ref r]/\oa M r=ga (es.map Ev.d)/\es.length<=8000000/\∀q M',qz M M'->M q=Fa->oa M' q=ga (tI (rk es))->Q (.ref q) M'
theorem EL:∀{xs ys pre post:T0 D} {d:D},pre++d::post=vY xs ys->∃x y,xs[pre.length]?=ga x/\ys[pre.length]?=ga y/\d=.tup [x,y]
 | [],_,pre,post,d,e=>by cases pre<;>cases e
 | _::_,[],pre,post,d,e=>by cases pre<;>cases e
 | x::xs,y::ys,[],post,d,e=>by cases e;exact⟨x,y,Z',Z',Z'⟩
 | x::xs,y::ys,p::pre,post,d,e=>by have e:p::(pre++d::post)=.tup [x,y]::vY xs ys:=e;exact EL (xs:=xs) (ys:=ys) (pre:=pre) (gK e).2
def w9{α:Type}{f:α->D}{xs:List α}{k:Nat}{d:D}(h:(xs.map f)[k]?=ga d):∃x,xs[k]?=ga x/\d=f x:=by
 rw[dA]at h;cases e:xs[k]? with
 | none=>rw[e]at h;cases h
 | some x=>rw[e]at h;exact⟨x,Z',(dv h).symm⟩
def E1{α β γ:Type}(f:α->β->γ){xs:List α}{ys:List β}{k:Nat}{x:α}{y:β}(hx:xs[k]?=ga x)(hy:ys[k]?=ga y):(List.zipWith f xs ys).take (k+1)=(List.zipWith f xs ys).take k++[f x y]:=by rw[fU,iL,hx,hy];rfl
def NQ:Fq P w K mg base 1 a.aO Mo:=by
 refine fq G.aO.toDG ud (λr u=>⟨_,(oX (pF 1 ud (qB rO))
 (oX (pF 2 ud (qB rO))
 (oX (pF 3 ud (qB rO))
 (oX (pF 4 ud PY)
 (oX (tT eQ Z' (qF v0) (rE 5 ud)
 (oX (pF 6 ud (pD v5 o9))
 (oY (pJ (pB u v6 pb)
 (oX (pH (qH U1 (pZ (r6 v5 (sS o9) sR))))
 (oX (pH (qH U2 (pZ (pD v5 o9))))
 (oY (pH (qH U3 (pZ o9))))))
 (oY (pJ (pB u v6 (pI (rN pb pb)))
 (oY (ND u v4 (pD v5 o9) (qc u v6 pb)))
 (oY (pJ (pB u v6 pb)
 (oY (uu (i:=2) ud.nd Z' (Or.inl Z') Z' (ya (ix:=[Fa,ga 5]) (N':=["owner","event"])) (qF U2) (qv 0) rM (Jd (pB u v0 (pD U1 o9)) (pD U1 o9) v0)))
 (oY (pJ (pB u v6 pb)
 (oY (uu (i:=3) ud.nd Z' (Or.inl Z') Z' (ya (ix:=[Fa,Fa,ga 4]) (N':=["owner","told","counts"])) (Eg Z' G.bP (rN U2 U3)) (ue (n:=2) Z' (qh (qv 0) (qh (qv 1) sU))) rM (Jd (ur (MM u U2 v0 wu ⟨Z',Z',Z',Z'⟩)) (pQ U1 o9) U1)))
 pE))))))))))
 (oY (pk (qE Z' (ya (ix:=[Fa,Fa]) (N':=["leg","told"])) (Eg Z' G.bP (rN U1 U3)) (ue (n:=2) Z' (qh (qv 0) (qh (qv 1) sU))) rM (pQ v0 (pI (pZ U1))))))))))),?_⟩)
 rintro ds M Q ⟨r,es,rfl,hr,hl,q⟩
 have hz:=dP;refine⟨oV Z',λp1 YC=>?_⟩;dsimp only[rG];refine⟨oV Z',λp2 Xx=>?_⟩;dsimp only[rG];refine⟨oV Z',λp3 Y5=>?_⟩;dsimp only[rG];refine λp4 hp4=>?_;have b0:wm M (pq (pq (pq (pq M p1 (.lst [])) p2 (.lst [])) p3 (.lst [])) p4 (.dk [])) (rk []) p1 p2 p3 p4:=by have t1:=qz.new (c:=.lst []) YC;have t2:=qz.new (c:=.lst []) Xx;have t3:=qz.new (c:=.lst []) Y5;have t4:=qz.new (c:=.dk []) hp4;have l1:=t2.lst (pA (M:=M) (p:=p1) (ds:=[]));have l2:=t3.lst (pA (M:=pq M p1 (.lst [])) (p:=p2) (ds:=[]));exact⟨t1.trans (t2.trans (t3.trans t4)),YC,t1.none Xx,(t1.trans t2).none Y5,(t1.trans (t2.trans t3)).none hp4,t4.lst (t3.lst l1),t4.lst l2,t4.lst pA,CC,FL (pN pA) Xx,FL (pN l1) Y5,FL (pN pA) Y5⟩
 generalize pq (pq (pq (pq M p1 (.lst [])) p2 (.lst [])) p3 (.lst [])) p4 (.dk [])=M0 at b0 ⊢;dsimp only[rG];refine i' (b0.s.lst hr) ?_;clear YC Xx Y5 hp4;refine uN (es.map Ev.d) (λpre U M'=>∃p2 p3 y5 y6,wm M M' (rk (es.take pre.length)) p1 p2 p3 p4/\U=[ga (.ref r),ga (.ref p1),ga (.ref p2),ga (.ref p3),ga (.ref p4),y5,y6]) (λ_ _ M' j=>by obtain⟨_,_,_,_,b,_⟩:=j;exact b.s.lst hr) _ [] _ _ Z' ⟨p2,p3,Fa,Fa,b0,Z'⟩ ?_ ?_
 .clear b0
  rintro pre d post e U M' ⟨p2,p3,y5,y6,b,rfl⟩ nx Xv
  obtain⟨ev,he,rfl⟩:=w9 (show(es.map Ev.d)[pre.length]?=ga d by rw[<-e];simp);have lt:=(cZ.mp he).1;have bs:=Fb es pre.length (by lia);rw[c9,dM,Jh he]at Xv;generalize rk (es.take pre.length)=B at b bs Xv;have hu:=bs.un;have hc:=bs.ct;cases ev with
  | leg v=>refine⟨eI Option.isSome b.l1,i' b.l1 ⟨by rw[cW,bs.rs];lia,?_⟩⟩;have b1:=b.put1 (v.f,v.g,v.y);refine⟨eI Option.isSome b1.l2,i' b1.l2 ⟨by rw[cW];show B.ow.length<_;rw[bs.ow];lia,?_⟩⟩;have b2:=b1.put2 v.i;refine⟨eI Option.isSome b2.l3,i' b2.l3 ⟨by rw[cW];show B.un.length<_;lia,?_⟩⟩;exact Xv _ _ ⟨p2,p3,_,_,b2.put3 0,Z'⟩
  | talks i ms=>refine⟨oV Z',Z',Z',i' b.l4 ⟨by lia,Xv _ _ ⟨p2,p3,_,_,b.oG _,Z'⟩⟩⟩
  | over i w=>refine⟨oV Z',Z',Z',i' b.l4 ⟨by lia,Xv _ _ ⟨p2,p3,_,_,b.oG _,Z'⟩⟩⟩
  | merge i j ms=>
   refine⟨oV Z',Z',Z',i' b.l2 (ra (f:=λd=>match d with|.int o=>if o=(i:Nat)then .int (j:Nat)else .int o|d=>d) b.l2 _ [] _ (by rw[cW,bs.ow];simp only[dN];lia) (λd hd k hk=>?_) λp hp=>?_)⟩
   .obtain⟨o,_,rfl⟩:=dD.mp hd;by_cases z:o=i
    .have hk:k (if ((o:Nat):Int)=(i:Nat)then .int (j:Nat)else .int (o:Nat)) M':=hk;rw[df (by rw[z])]at hk;exact yQ (dS (by rw[z])) hk
    .have hk:k (if ((o:Nat):Int)=(i:Nat)then .int (j:Nat)else .int (o:Nat)) M':=hk;rw[de (by lia)]at hk;exact Ey (eD (by lia)) hk
   .have e1:[]++(B.ow.map Dp).map (λd=>match d with|.int o=>if o=(i:Nat)then .int (j:Nat)else .int o|d=>d)=(B.ow.map λo=>if o=i then j else o).map Dp:=by
     rw[d9,d4,d4];refine fN λo _=>?_;show(if ((o:Nat):Int)=(i:Nat)then D.int (j:Nat)else .int (o:Nat))=Dp (if o=i then j else o);by_cases z:o=i
     .rw[df z,df (by rw[z])];rfl
     .rw[de z,de (by lia)];rfl
    rw[e1];exact Xv _ _ ⟨p,p3,_,_,b.new2 hp _,Z'⟩
  | turn=>
   refine⟨oV Z',Z',Z',i' b.l2 (i' b.l3 ?_)⟩;have zl:(vY (B.ow.map Dp) (B.un.map D.int)).length=B.un.length:=by rw[L3.vH,cW,cW,bs.ow,gC]
   refine zO (vY (B.ow.map Dp) (B.un.map D.int)) (λpre acc U Xr=>M'=Xr/\acc=((List.zipWith (Av B.ct) B.ow B.un).take pre.length).map D.int/\∃y0 y1,U=[y0,y1,ga (.ref p4)]) (λ_ _ _ M' j=>by rw[<-j.1];exact⟨b.l2,b.l3⟩) _ [] [] _ _ Z' ?_ ⟨Z',Z',Fa,Fa,Z'⟩ ?_ ?_
   .rw[zl];simp only[dN];lia
   .rintro pre d post e acc U _ ⟨rfl,ha,y0,y1,rfl⟩ k hk
    obtain⟨_,_,e1,e2,rfl⟩:=EL e;obtain⟨o,ex,rfl⟩:=w9 e1;obtain⟨u,ey,rfl⟩:=w9 e2;rw[c9,dM,E1 _ ex ey,dI]at hk;refine⟨Z',?_⟩;dsimp only[rG,xt,BU];refine⟨eI Option.isSome b.l4,?_⟩;show Option.elim (xp M' p4) False _;refine i' b.l4 ?_;have hb:(sV B.ct (.inl (o:Nat))).getD (.bl pc)=.bl (EU B.ct o):=bs.bl o;have ZC:k _ (.int (Av B.ct o u)) M':=hk _ _ _ ⟨Z',by rw[ha];rfl,ga (Dp o),ga (.int u),Z'⟩;unfold Av at ZC;rw[hb];by_cases c:EU B.ct o=Db
    .rw[df c]at ZC;exact yQ c ZC
    .rw[de c]at ZC;exact Ey (dG.mpr c) ZC
   .rintro acc U _ ⟨rfl,ha,y0,y1,rfl⟩ p hp
    rw[zl,fm (by rw[gx,bs.ow,gC];lia)]at ha;rw[ha];exact Xv _ _ ⟨p2,p,_,_,b.new3 hp _,Z'⟩
  | sw o i=>cases o<;>exact⟨oV Z',Z',Z',Xv _ _ ⟨p2,p3,_,_,b,Z'⟩⟩
  | _=>exact⟨oV Z',Z',Z',Xv _ _ ⟨p2,p3,_,_,b,Z'⟩⟩
 .rintro U M' ⟨p2,p3,y5,y6,b,rfl⟩
  have bs:=Fb es es.length (dq _);rw[cW,fm (dq _)]at b;rw[fm (dq _)]at bs;generalize rk es=B at b bs q;have hu:=bs.un;refine i' b.l1 (i' b.l3 ?_);have zl:(vY (B.rs.map Lx) (B.un.map D.int)).length=B.un.length:=by rw[L3.vH,cW,cW,bs.rs,gC]
  refine zO (vY (B.rs.map Lx) (B.un.map D.int)) (λpre acc U Xr=>M'=Xr/\acc=(tI B).take pre.length/\∃y0 y1,U=[y0,y1]) (λ_ _ _ M' j=>by rw[<-j.1];exact⟨b.l1,b.l3⟩) _ [] [] _ _ Z' ?_ ⟨Z',Z',Fa,Fa,Z'⟩ ?_ ?_
  .rw[zl];simp only[dN];lia
  .rintro pre d post e acc U _ ⟨rfl,ha,y0,y1,rfl⟩ k hk
   obtain⟨_,_,e1,e2,rfl⟩:=EL e;obtain⟨x,ex,rfl⟩:=w9 e1;obtain⟨u,ey,rfl⟩:=w9 e2;rw[c9,dM,show(tI B).take (pre.length+1)=(tI B).take pre.length++[Jn x u]from E1 _ ex ey]at hk;refine⟨Z',?_⟩;dsimp only[rG,xt,BU];exact⟨oV Z',by simp,by simp[hz],hk _ _ _ ⟨Z',by rw[ha];rfl,_,_,Z'⟩⟩
  .rintro acc U _ ⟨rfl,ha,y0,y1,rfl⟩ p hp
   rw[zl,fm (by unfold tI;rw[gx,bs.rs,gC];lia)]at ha;rw[ha];exact⟨_,.refl,q p _ (b.s.trans (.new hp)) (b.s.none hp) pA⟩
noncomputable def qa.own(V:qa)(u:lf):qa:={V with fo:=[u]}
def Sw{V:qa}{e:sF}(f:e.mT)(h:wD l V e=Fa)(n:e≠.turn):∀x∈vm l V e,x≠.turn:=by
 have no:∀{es:T0 Ev},(∀x∈es,x.oh)->∀x∈es,x≠.turn:=λh x hx z=>by have:=h x hx;rw[z]at this;exact this
 have o1:∀{y:Ev},y≠.turn->∀x∈[y],x≠.turn:=λh x hx=>by rw[dh.mp hx];exact h
 intro x hx;cases e with
 | turn=>exact absurd Z' n
 | call y z=>
  rcases dO.mp hx with hx|hx
  .rcases dz.mp hx with rfl|hx
   .exact Ev.noConfusion
   .rw[dh.mp hx];exact Ev.noConfusion
  .exact no Mr x hx
 | sw b i=>exact o1 (y:=.sw b i.toNat) Ev.noConfusion x hx
 | num w y ns=>
  obtain⟨_,n⟩:=Cg f h;cases n with
  | answer i c hi hc h1 h2 h3=>have hx:x∈[yI V "answer" y i.toNat]:=hx;rw[va hc]at hx;exact o1 Ev.noConfusion x hx
  | hang i c hi hc h1=>
   have hx:x∈tZ V y i.toNat:=hx;unfold tZ at hx;rw[hc]at hx;dsimp only[Option.elim]at hx;split at hx
   .exact o1 Ev.noConfusion x hx
   split at hx
   .rcases dz.mp hx with rfl|hx
    .exact Ev.noConfusion
    split at hx
    .exact o1 Ev.noConfusion x hx
    .cases hx
   split at hx
   .exact o1 Ev.noConfusion x hx
   .exact o1 Ev.noConfusion x hx
  | hold i c hi hc h1=>have hx:x∈[yI V "hold" y i.toNat]:=hx;rw[va hc]at hx;exact o1 Ev.noConfusion x hx
  | back i c hi hc h1 h2=>have hx:x∈[yI V "back" y i.toNat]:=hx;rw[va hc]at hx;exact o1 Ev.noConfusion x hx
  | two _ i j c d hi hj hw hc hd h1 h2=>have hx:x∈[CO V w y i.toNat j.toNat]:=hx;rw[Ct hc hd]at hx;exact o1 Ev.noConfusion x hx
theorem Lh:∀(es:T0 Ev) (B:Bl),(∀x∈es,x≠.turn)->∃n,(es.foldl vn B).un=B.un++List.replicate n 0
 | [],B,_=>⟨0,by simp⟩
 | e::r,B,h=>by
  obtain⟨n,hn⟩:=Lh r (vn B e) λx hx=>h x (dF _ hx);show ∃n,(r.foldl vn (vn B e)).un=_;rw[hn];cases e with
  | turn=>exact absurd Z' (h _ dH)
  | leg v=>exact⟨n+1,by show(B.un++[0])++_=_;rw[eY,eF];rfl⟩
  | _=>exact⟨n,Z'⟩
def TB(B:Bl):sF->T0 Int
 | .turn=>List.zipWith (Av B.ct) B.ow B.un
 | _=>B.un
def Hf{e:sF}(z:e≠.turn):TB B e=B.un:=by cases e<;>first|rfl|exact absurd Z' z
def Uw{V:qa}{e:sF}(f:e.mT)(h:wD l V e=Fa):∃n,(rk (qA V (vm l V e)).log).un=TB (rk V.log) e++List.replicate n 0:=by
 rw[Bb,Gw];by_cases z:e=.turn
 .subst z;exact Lh (qN l _ _) (vn (rk V.log) .turn) λx hx y=>by have:=GX _ _ x hx;rw[y]at this;exact this
 .rw[Hf z];exact Lh _ _ (Sw f h z)
def O9{α:Type}{xs ys:List α}{k:Nat}{x:α}(h:xs.length=ys.length)(e:xs[k]?=ga x):(xs.take k++ys.drop k).set k x=xs.take (k+1)++ys.drop (k+1):=by
 have lt:=(cZ.mp e).1;have l:(xs.take k).length=k:=by rw[fg];lia
 rw[iK k x (by lia),l,gp,fU,e];have:(ys.drop k).set 0 x=x::ys.drop (k+1):=by rw[gP (show k<ys.length by lia)];rfl
 rw[this];simp
def OO{α:Type}{xs ys:List α}{k:Nat}(h:xs.length=ys.length)(lt:k<ys.length):(xs.take k++ys.drop k)[k]?=ys[k]?:=by
 have l:(xs.take k).length=k:=by rw[fg];lia
 rw[eL (by lia),l,gp,List.getElem?_drop,Nat.add_zero]
structure Un(a:Ad)(M0 M:Mp)(A:tK)(V:qa)(l:pz)(u:lf)(c n:Nat):Prop where
 g:zD a M0 M A V l c n
 fo:V.fo=[u]
 nf:u∉A.foot
 n0:M0 u=Fa
variable {u:lf}
section
variable {c:Nat}
def Un.sub(h:Un a M0 M A V l u c n)(s:qz M M'):Un a M0 M' A V l u c n:=⟨h.g.sub s,h.fo,h.nf,h.n0⟩
def Un.put(h:Un a M0 M A V l u c n)(d:uI):Un a M0 (pq M u d) A V l u c n:=by
 have hy:∀y∈(tK.foot {b:=u,ca:=u,le:=u,nx:=u,on:=u,lo:=u,cs:=[]}),y=u:=λy hy=>by simp[tK.foot,tK.lists]at hy;exact hy
 have st:qO {b:=u,ca:=u,le:=u,nx:=u,on:=u,lo:=u,cs:=[]} M {b:=u,ca:=u,le:=u,nx:=u,on:=u,lo:=u,cs:=[]} (pq M u d):=⟨λy c n e=>qV.put y c (λz=>n (by rw[z];exact dH)) e,λ_ h=>.inl h,λ_ _ h=>h,λy c e=>Bi e⟩;have bd:=h.g.cu.bd.frame st (λy z=>by rw[hy y z];exact h.nf) λy z=>.inl (by rw[hy y z,h.fo];exact dh.mpr Z');exact⟨⟨⟨bd,h.g.cu.oP,zc h.g.cu.s0 h.n0,h.g.cu.fr,h.g.cu.b,h.g.cu.sz,h.g.cu.ok,h.g.cu.on⟩,h.g.wf,h.g.bl,h.g.ps⟩,h.fo,h.nf,h.n0⟩
def Un.of(g:zD a M0 M A V l c n)(s:qz M M')(hu:M u=Fa)(hc:∃c,M' u=ga c):Un a M0 M' A (V.own u) l u c n:=by
 have bd:pG a M' A (V.own u):=by
  have b:=g.cu.bd.sub s;refine⟨b.at_,b.ca,b.le,b.nx,b.on,b.lo,b.len,λi k c e1 e2=>?_,b.nl,b.np,λx hx=>by rw[dh.mp hx];exact hc⟩;obtain⟨ad,md,g1,g2,g3,g4,g5,g6⟩:=g.cu.bd.cs i k c e1 e2;have no:∀{x:lf} {ds:T0 D},x∉A.lists++V.fo->oa M x=ga ds->x∉A.lists++[u]:=λ{x ds} hx e z=>by
   rcases dO.mp z with z|z
   .exact hx (fi _ z)
   .rw[<-dh.mp z,pN e]at hu;cases hu
  exact⟨ad,md,s _ _ g1,s.lst g2,s.lst g3,s.lst g4,no g5 g3,no g6 g4⟩
 exact⟨⟨⟨bd,g.cu.oP,g.cu.s0.trans s,g.cu.fr,g.cu.b,⟨g.cu.sz.lo,g.cu.sz.le,g.cu.sz.ca,g.cu.sz.ps,g.cu.sz.cs⟩,g.cu.ok,g.cu.on⟩,⟨g.wf.ok,g.wf.un,g.wf.ln,g.wf.wt,g.wf.nx⟩,⟨g.bl.ow,g.bl.rs,g.bl.un,g.bl.ct,g.bl.fy,g.bl.ix⟩,g.ps⟩,Z',g.cu.bd.nN hu,g.cu.s0.none hu⟩
end
def MP:rb:=λds M Q=>∃n:Int,ds=[.int n]/\Q (.bl Db) M
def OB:rb:=λds M Q=>Dg λp q (B:Bl)=>ds=[.ref p,.ref q]/\oa M p=ga (tI B)/\oa M q=ga (tI B)/\Q (.bl Db) M
def SY{p:lf}{ds:T0 D}(h:oa M p=ga ds):W1 M (.ref p)=ga (.type "list"):=by show Hg (M p)=_;rw[pN h];rfl
def Gy{d:D}(h:d∈tI B):∃x u,d=Jn x u:=by
 obtain⟨k,hk⟩:=List.mem_iff_getElem?.mp h;unfold tI at hk;rw[iL]at hk;split at hk
 .exact⟨_,_,(dv hk).symm⟩
 .cases hk
def Mu:Fq P w K mg base 1 a.bw MP:=by
 refine fq G.bw.toDG Fm (λr u=>⟨_,(oY (pk (sN (pM x9 Z' G.bQ uF (rN v0 (Jt Z' G.b2 Ln))) (sv (MQ (pM x9 Z' G.bQ uF (rN v0 (Jt Z' G.cH P')))))))),?_⟩)
 rintro ds M Q ⟨n,rfl,q⟩
 exact⟨λC z=>(by cases z),i' G.cF ⟨λC z=>(by cases z),i' G.cG ⟨M,.refl,q⟩⟩⟩
def OA:Fq P w K mg base 2 a.bx OB:=by
 refine fq G.bx.toDG wk (λr u=>⟨_,(oX (pJ (W3.b3 (xM (vS (ur (pM x9 Z' G.bQ uF (rN v0 (Jt Z' G.r so))))) (wU (pB u v0 U1))))
 (oY (pk wu))
 pE)
 (oX (tT eQ Z' (qF v0) (rE 2 wk)
 (oY (pJ (W3.b3 (xM (vS (ur (pM x9 Z' G.bQ uF (rN U2 (Jt Z' G.F ub))))) (wU (vS (ur (pC (Mu G) r G.bw (pZ (pD U2 o9))))))))
 (oY (pk wu))
 pE)))
 (oY (pk wu)))),?_⟩)
 .rintro ds M Q ⟨r1,r2,B,rfl,l1,l2,q⟩
  refine i' (SY l1) ⟨λC z=>(by cases z),i' G.cD (Ka ?_)⟩;refine i' (J8 l1 l2 λd hd=>by
   obtain⟨x,u,rfl⟩:=Gy hd;exact B4 7 _ Z') (Ka (i' l1 ?_))
  refine uN (tI B) (λpre U M'=>qz M M'/\∃y2,U=[ga (.ref r1),ga (.ref r2),y2]) (λ_ _ M' j=>j.1.lst l1) _ [] _ _ Z' ⟨.refl,Fa,Z'⟩ ?_ ?_
  .rintro pre d post e U M1 ⟨s1,y2,rfl⟩ nx Xv
   obtain⟨x,u,rfl⟩:=Gy (e ▸ eh _ dH:d∈tI B);exact⟨λC z=>(by cases z),i' G.cE (Ka ⟨u,Z',Xv _ _ ⟨s1,_,Z'⟩⟩)⟩
  .rintro U M' ⟨s1,y2,rfl⟩
   exact⟨M,s1,q⟩
seal L3.E3 L3.B3 L3.A3 L3.S3 L3.G8
def K5:rb:=λds M Q=>∃ns:T0 Int,ds=[.rl (ns.map D.int)]/\ns.length<=63/\Q (.bl Db) M
def QF{α:Type}{f:α->D}{xs:List α}{pre post:T0 D}{d:D}(e:pre++d::post=tL 0 (xs.map f)):∃x,xs[pre.length]?=ga x/\d=.tup [.int (pre.length:Nat),f x]:=by
 have h:(tL 0 (xs.map f))[pre.length]?=ga d:=by rw[<-e];simp
 rw[xY,dA]at h;cases hx:xs[pre.length]? with
 | none=>rw[hx]at h;cases h
 | some x=>rw[hx]at h;have h:=(dv h).symm;rw[kM]at h;exact⟨x,Z',h⟩
def UK(s:Str):inD (.str s) [.str "talks",.str "held"]=TJ s:=by refine(sf s ["talks","held"]).trans ?_;show(("talks"==s)||(("held"==s)||false))=((s=="talks")||(s=="held"));rw[ji,BEq.comm (a:=("talks":Str)),BEq.comm (a:=("held":Str))]
theorem Mj:∀(es:T0 Ev) (V:qa),(qA V es).fo=V.fo
 | [],_=>rfl
 | e::r,V=>(Mj r _).trans (OW V e)
noncomputable def W':sF->Bool
 | .turn=>Db
 | _=>pc
def JY(M:Mp)(e:sF):za M 9 e.d (.tup [.str "turn"])=ga (W' e):=by
 cases e with
 | turn=>exact B4 8 _ Z'
 | call y z=>rfl
 | sw b i=>cases b<;>rfl
 | num w x ns=>show ga (((w=="turn")&&Db)&&((ns.map D.int).length+1+1==1))=ga pc;rw[show((ns.map D.int).length+1+1==1)=pc from beq_false_of_ne (by lia),Bool.and_false]
def RL:Fq P w K mg base 17 a.ag K5:=by
 refine fq G.ag.toDG vi (λr u=>⟨_,(oX (pF 1 vi (vg (KS G) r G.c G.b9 G.ah.toDG (rN (pC (Lj G) r G.bs (pZ (pC (MC G) r G.bm (rN v0 o9)))) (pC (LY G) r G.bt (pZ v0)))))
 (oX (pF 2 vi (qB rO))
 (oX (tT eQ Z' (JZ Z' G.Z (rN o9 (pM (MX Z') Z' G.b1 Mw (rN (pM qm Z' G.g ql (pZ v0)) o9)))) (rE 3 vi)
 (oX (pF 4 vi (pC (Ma G) r G.bv (rh U1 v0 U3)))
 (oX (pJ (pB u v4 (pI (pZ pb)))
 (oY (tT eQ Z' (uY Z' G.bO (pZ (pj U1))) (ue (n:=2) Z' (qh (rE 5 vi) (qh (rE 6 vi) sU)))
 (oY (Pi U2 v5 (qe Tn Z' G.b2 Ln (pZ (qc u (pj (pD (pj U1) (pD v6 o9))) (pI (rN pb pb)))))))))
 pE)
 (oX (pH (pC (Ol G) r G.bu (rN U1 v4)))
 (oY (pF 2 vi (pQ U2 (Pu (qB (pZ o9)) (pQ (pM qm Z' G.g ql (pZ (pj U1))) (pM qm Z' G.g ql (pZ U2)))))))))))
 (oX (pF 7 vi (qB rO))
 (oX (tT eQ Z' (Eg Z' G.bP (rN (pj U1) U2)) (ue (n:=2) Z' (qh (rE 6 vi) (qh (rE 8 vi) sU)))
 (oX (pJ (pB u (pD v6 o9) (pD v6 o9))
 (oY (pk wu))
 pE)
 (oY (pH (qH v7 (pZ (pI (pV (pD v6 o9) (rh (pD v6 o9) (pD v6 o9) v8)))))))))
 (oY (pk (pC (OA G) r G.bx (rN (pC (NQ G) r G.aO (pZ (pj U1))) v7))))))))),?_⟩)
 rintro ds M Q ⟨ns,rfl,hns,q⟩
 have hz:=dP;have ok:qY (B2 ns 4):=Pa (by decide) (by decide);refine⟨ns,4,Z',by decide,by decide,λr1 r2 r3 M1 s1 h1 h2 h3=>?_⟩;generalize B2 ns 4=l at h1 h2 h3 ok;refine⟨r1,r2,r3,l,Z',h1,h2,h3,ok,λp M0 s0 pa=>⟨ns,Z',λb hb=>?_⟩⟩;have t1:=qz.new (c:=.ins a.c []) hb;refine⟨b,p,_,[],l,Z',pK,pa.sub t1,ok,λz=>?_,(λx hx=>by cases hx),λM2 A eb kp fr bd=>⟨Z',?_⟩⟩
 .obtain⟨ph,gr,ws,YZ,pr,gd,rs,i1,_⟩:=pa;rw[z,hb]at i1;cases i1
 have oP:=zD.start ok pa hb eb kp fr bd;subst eb;dsimp only[rG];refine⟨oV Z',λu hu=>?_⟩;have un0:=Un.of oP (.new (c:=.lst []) hu) hu ⟨_,pK⟩;have lu:oa (pq M2 u (.lst [])) u=ga ((rk []).un.map D.int):=pA;generalize pq M2 u (.lst [])=M3 at un0 lu ⊢;clear kp fr bd t1 oP hu;dsimp only[rG];refine TH (t:=UE _ _ _) (λU M'=>∃A' V' u' y3 y4 y5 y6,A'.b=A.b/\Un a M0 M' A' V' l u' 64 200000/\oa M' u'=ga ((rk V'.log).un.map D.int)/\U=[ga (.rl (ns.map D.int)),ga (.ref A.b),ga (.ref u'),y3,y4,y5,y6,Fa,Fa]) (λnx0 hn0=>?_) ?_
 .refine⟨Z',?_⟩;generalize hN:(if (63:Int)<((ns.map D.int).length:Nat)then(63:Int)else((ns.map D.int).length:Nat))=N;have hN0:0<=N/\N<=63:=by rw[<-hN];split<;>lia
  clear hN;refine⟨⟨by decide,by decide,by lia,by lia⟩,?_⟩;refine uN ((List.range (N - 1).toNat).map λn=>D.int (1+(n:Nat))) (λpre U M'=>∃A' V' u' y3 y4 y5 y6,A'.b=A.b/\Un a M0 M' A' V' l u' (1+pre.length) (3+2200*pre.length)/\oa M' u'=ga ((rk V'.log).un.map D.int)/\U=[ga (.rl (ns.map D.int)),ga (.ref A.b),ga (.ref u'),y3,y4,y5,y6,Fa,Fa]) (λ_ _ _ _=>trivial) _ [] _ _ Z' ⟨A,_,u,Fa,Fa,Fa,Fa,Z',un0,lu,Z'⟩ ?_ ?_
  .clear un0 lu
   rintro pre d post e U M' ⟨A',V',u',y3,y4,y5,y6,eb',g,lu,rfl⟩ nx Xv
   obtain⟨rfl,XD⟩:=JO e;have XD:pre.length<62:=by lia
   rw[c9,dM]at Xv;rw[<-eb']at Xv ⊢;refine⟨A',V',l,ns,_,Z',g.g.cu.rd (by lia) g.g.wf,g.g.wf,λk hk=>(g.g.cu.sz.cs k hk).2.1,⟨by lia,by lia⟩,λM4 e s f=>?_⟩;have g:=g.sub s;have lu:=s.lst lu;dsimp only[rG];refine TH (t:=Qb _ _ _) (λU M5=>Un a M0 M5 A' V' l u' (1+pre.length) (3+2200*pre.length)/\oa M5 u'=ga ((TB (rk V'.log) e).map D.int)/\∃y5 y6,U=[ga (.rl (ns.map D.int)),ga (.ref A'.b),ga (.ref u'),ga (.int (1+(pre.length:Nat))),ga e.d,y5,y6,Fa,Fa]) (λnx2 h2=>?_) ?_
   .refine⟨oV Z',i' (JY M4 e) ?_⟩;by_cases z:e=.turn
    .subst z;refine yQ Z' ?_;have bl:=g.g.bl;generalize hB:rk V'.log=B at bl lu h2;have zl:(List.zipWith (Av B.ct) B.ow B.un).length=B.un.length:=by rw[gx,bl.ow,bl.un,cW,gC]
     refine oZ g.g.cu.bd.at_ (i' Z' (i' g.g.cu.bd.le ?_));refine uN (tL 0 (V'.mG.map rj.d)) (λpr U M5=>Un a M0 M5 A' V' l u' (1+pre.length) (3+2200*pre.length)/\oa M5 u'=ga (((List.zipWith (Av B.ct) B.ow B.un).take pr.length++B.un.drop pr.length).map D.int)/\∃y5 y6,U=[ga (.rl (ns.map D.int)),ga (.ref A'.b),ga (.ref u'),ga (.int (1+(pre.length:Nat))),ga (sF.d .turn),y5,y6,Fa,Fa]) (λ_ _ M' j=>j.1.g.cu.bd.le) _ [] _ _ Z' ⟨g,lu,y5,y6,Z'⟩ ?_ ?_
     .clear lu g
      rintro pr d post ee U M5 ⟨g,lu,y5,y6,rfl⟩ nx Xv
      obtain⟨v,ev,rfl⟩:=QF ee;have lt:=(cZ.mp ev).1;have hlu:pr.length<B.un.length:=by rw[bl.un];exact lt
      refine⟨Z',?_⟩;dsimp only[rG,xt,BU];obtain⟨u0,hu0⟩:∃u0,B.un[pr.length]?=ga u0:=⟨_,cY hlu⟩;have ho:B.ow[pr.length]?=ga v.i:=by rw[bl.ow,dA,ev];rfl
      refine⟨by lia,i' lu (i' (show(List.map D.int _)[((pr.length:Nat):Int).toNat]?=ga (.int u0)by rw[gL,dA,OO zl hlu,hu0];rfl) ?_)⟩;obtain⟨c,hc⟩:∃c,V'.calls[v.i]?=ga c:=by
       cases e:V'.calls[v.i]? with
       | none=>exact absurd (by unfold rF;rw[e];rfl) (bl.ix v (fk ev))
       | some c=>exact⟨c,Z'⟩
      have hci:=(cZ.mp hc).1;obtain⟨k,hk⟩:∃k,A'.cs[v.i]?=ga k:=⟨_,cY (by rw[g.g.cu.bd.len];exact hci)⟩;obtain⟨ad,md,f1,_⟩:=g.g.cu.bd.cs v.i k c hk hc;have hi:inD (.str c.st) [.str "talks",.str "held"]=EU B.ct v.i:=by rw[bl.ct v.i (.inl (fk ho)),B0 hc];exact UK c.st
      refine oZ g.g.cu.bd.at_ (i' Z' (i' g.g.cu.bd.ca (i' (qZ hk) (oZ f1 (i' Z' ⟨oV Z',Z',Z',?_⟩)))));rw[hi];refine i' lu (i' (show D3 _ ((pr.length:Nat):Int)=ga pr.length from ?_) (Xv _ _ ⟨g.put _,?_,_,_,Z'⟩))
      .unfold D3;rw[df (by lia),df (by rw[cW,c9,fg,gf,zl];lia),gL]
      .rw[pA,c9,dM];show ga ((List.map D.int _).set _ (D.int (u0+(if EU B.ct v.i=Db then 1 else 0))))=_;rw[<-kS,O9 zl];rw[iL,ho,hu0];show ga (if EU B.ct v.i=Db then u0+1 else u0)=ga (u0+if EU B.ct v.i=Db then 1 else 0);split
       .rfl
       .rw[me]
     .rintro U M5 ⟨g,lu,y5,y6,rfl⟩
      refine h2 _ _ ⟨g,?_,_,_,Z'⟩;rw[uL,cW,<-bl.un,List.drop_of_length_le (dq _),eN,fm (kF zl)]at lu;exact lu
    .refine Ey (by cases e<;>first|rfl|exact absurd Z' z) (h2 _ _ ⟨g,by rw[Hf z];exact lu,_,_,Z'⟩)
   .clear g lu
    rintro U M5 ⟨g,lu,y5,y6,rfl⟩
    have YX:∀M6 A2 V2,A2.b=A'.b->Un a M0 M6 A2 V2 l u' (1+(pre.length+1)) (3+2200*(pre.length+1))->oa M6 u'=ga ((TB (rk V'.log) e).map D.int)->(∃n,(rk V2.log).un=TB (rk V'.log) e++List.replicate n 0)->Dl (o3 Operator.Add (v3 2) (QQ (RA (ua (c3 (D.int 0)) vt)) (o3 Operator.Sub (AD Qg (ua (T1 "legs" (v3 1)) vt)) (AD Qg (ua (v3 2) vt))))) (rG 2) {nx:=nx,rt:=λd M'=>∃Xr,qz Xr M'/\Q d Xr,bk:=nx0,ct:=nx} [ga (.rl (ns.map D.int)),ga (.ref A'.b),ga (.ref u'),ga (.int (1+(pre.length:Nat))),ga e.d,y5,y6,Fa,Fa] M6:=λM6 A2 V2 eb2 g lu hn=>by
     obtain⟨n,hn⟩:=hn;have Xt:=g.g.bl.un;rw[hn,c9,gG]at Xt;have hle:=g.g.cu.sz.le;dsimp only[Dl,o3];refine⟨oV Z',λq1 Yc=>?_⟩;obtain⟨M7,e0,t1,l1⟩:=uW (ds:=[D.int 0]) Yc;rw[<-e0];rw[<-eb2]at Xv ⊢;refine oZ (t1 _ _ g.g.cu.bd.at_) (i' Z' (i' (t1.lst g.g.cu.bd.le) (i' (t1.lst lu) ?_)));have hk:(((V2.mG.map rj.d).length:Nat):Int) - (((TB (rk V'.log) e).map D.int).length:Nat)=(n:Nat):=by rw[cW,cW];lia
     dsimp only[Uc];rw[hk];refine i' l1 ⟨⟨by lia,by lia,by decide⟩,λq2 YY=>?_⟩;rw[gL,zS];have t2:=t1.trans (.new (c:=.lst (List.replicate n (D.int 0))) YY);have l2:=@pA M7 q2 (List.replicate n (D.int 0));generalize pq M7 q2 (.lst (List.replicate n (D.int 0)))=M8 at t2 l2 ⊢;refine i' (t2.lst lu) (i' l2 ⟨by rw[cW,gG];lia,λq3 hq3=>?_⟩);refine Xv _ _ ⟨A2,V2.own q3,q3,_,_,_,_,Z',Un.of (g.g.sub t2) (.new hq3) hq3 ⟨_,pK⟩,?_,Z'⟩;rw[pA];show _=ga ((rk V2.log).un.map D.int);rw[hn,dI,kT]
    refine⟨M0,A'.b,A',V',l,_,_,e,Z',g.g.cu,by lia,by lia,g.g.wf,f,λhr M6 A3 r c3 X8 Zh=>?_,λhr=>?_⟩
    .refine YX _ A3 _ c3.b (Un.sub ⟨(g.g.after f hr c3).mono (by lia) (by lia),(Mj _ _).trans g.fo,λz=>?_,g.n0⟩ (.new Zh)) (qz.lst (.new Zh) (sj (X8.1 _ _ g.nf (pN lu)))) (Uw f hr);rcases X8.2.1 _ z with y|y
     .exact g.nf y
     .rw[pN lu]at y;cases y
    .refine YX _ A' V' Z' ⟨g.g.mono (by lia) (by lia),g.fo,g.nf,g.n0⟩ lu ⟨0,?_⟩;rw[Hf (λz=>hr (by rw[z];rfl))];exact(eN _).symm
  .rintro U M' ⟨A',V',u',y3,y4,y5,y6,eb',g,lu,rfl⟩
   rw[cW,eG]at g;exact hn0 _ _ ⟨A',V',u',y3,y4,y5,y6,eb',⟨g.g.mono (by lia) (by lia),g.fo,g.nf,g.n0⟩,lu,Z'⟩
 .clear un0 lu
  rintro U M' ⟨A',V',u',y3,y4,y5,y6,eb',g,lu,rfl⟩
  have bl:=g.g.bl;have le:=g.g.cu.sz.le;have lo:=g.g.cu.sz.lo;have cb:=g.g.cu.bd.at_;have cl:=g.g.cu.bd.le;have cg:=g.g.cu.bd.lo;have sM:=s1.trans (s0.trans g.g.cu.s0);generalize hB:rk V'.log=B at bl lu;rw[<-eb'];refine⟨oV Z',λpd hpd=>?_⟩;have k0:=(qz.new (c:=.lst []) hpd).keep (p:=pd);have l0:oa (pq M' pd (.lst [])) pd=ga ((tI B).take 0):=pA;generalize pq M' pd (.lst [])=M4 at k0 l0 ⊢;have nb:=FL cb hpd;have nl:=FL (pN cl) hpd;have nu:=FL (pN lu) hpd;have ng:=FL (pN cg) hpd;dsimp only[rG];refine oZ (k0 _ _ nb cb) (i' Z' (i' (k0.lst nl cl) (i' (k0.lst nu lu) ?_)));refine uN (vY (V'.mG.map rj.d) (B.un.map D.int)) (λpr U M5=>qV pd M' M5/\oa M5 pd=ga ((tI B).take pr.length)/\∃y3 y4 y5 y6 y8,U=[ga (.rl (ns.map D.int)),ga (.ref A'.b),ga (.ref u'),y3,y4,y5,y6,ga (.ref pd),y8]) (λ_ _ _ j=>⟨j.1.lst nl cl,j.1.lst nu lu⟩) _ [] _ _ Z' ⟨k0,l0,_,_,_,_,_,Z'⟩ ?_ ?_
  .rintro pr d post ee U M5 ⟨k,lp,y3,y4,y5,y6,y8,rfl⟩ nx Xv
   obtain⟨_,_,e1,e2,rfl⟩:=EL ee;obtain⟨v,ev,rfl⟩:=w9 e1;obtain⟨x,ex,rfl⟩:=w9 e2;have lt:=(cZ.mp ex).1;have hr:B.rs[pr.length]?=ga (v.f,v.g,v.y):=by rw[bl.rs,dA,ev];rfl
   have hf:=bl.fy v (fk ev);rw[c9,dM,show(tI B).take (pr.length+1)=(tI B).take pr.length++[Jn (v.f,v.g,v.y) x]from E1 _ hr ex]at Xv;refine⟨Z',?_⟩;dsimp only[rG,xt,BU];refine Ey (by rw[hf,ft];rfl) ?_;refine⟨eI Option.isSome lp,oV Z',i' lp ⟨?_,Xv _ _ ⟨k.trans .put,pA,_,_,_,_,_,Z'⟩⟩⟩;rw[fg];have:pr.length<V'.mG.length:=by rw[<-bl.un];exact lt
   lia
  .rintro U M5 ⟨k,lp,y3,y4,y5,y6,y8,rfl⟩
   rw[L3.vH,cW,cW,bl.un,gC,fm (by unfold tI;rw[gx,bl.un];lia)]at lp;refine oZ (k _ _ nb cb) (i' Z' ⟨A'.lo,V'.log,Z',k.lst ng cg,by lia,λr M6 s6 hr lr=>?_⟩);rw[hB]at lr;exact⟨r,pd,B,Z',lr,s6.lst lp,M,sM.trans ((k.new hpd).trans s6),q⟩
end
end Z
end
structure PySem.W.Fast:Prop where(tw9413916729318351604 tw9326076201073017194 tw9134035238745554943 tw8239664608169096825 tw7912246668122653106 tw7728389001061266961 tw6223595438079446129 tw5496022085379586139 tw4521091250651636593 tw4319127900921168318 tw3891681478074235411 tw2895939018932676269 tw2146046894941200311 tw18338140579398861807 tw17911818044870805433 tw16198031115636738270 tw15350368037082983596 tw15163301663237363627 tw14635105932563405713 tw14169436637426363850 tw13610439494517695242 tw13484628884315340396 tw13154734309908068352 tw12749381935544192444 tw12714442562542158524 tw12464075083329101714 tw11797881092949697184 tw11206980501582922819 tw10123074202180658279 tw10019208082761127343 tw12248981213533863139 tw658647499745356193 tw3536305079226268190 tw10327104662075407318 tw2585735601721380900 tw1116617945125900980 tw15227693276699247438 tw17333896455896952190 tw12895428675889653042 tw11600002843298510788 tw14832569412108679368 tw7861606857407083088 tw1505414353646706648 tw3606600422137532489 tw12564110493691984722 tw288524919798376727 tw8069274189013666835 tw7264034921506377236 tw12875223956426333105 tw1355942627267380259 tw9094950289363869323 tw17150506509417164057 tw7532877937531428220 tw11295116746364003465 tw17292128563825326503 tw8933567339448071957 tw11290218490999250324 tw5577476199520089767 tw6258525124369402383 tw12869276960959628840 tw3602072375194194563 tw13198162906969692272 tw2302320196094153676 tw13676815763320421728 tw13116249819776288090 tw9807180415987754128 tw2608349957142649956 tw8808717140747536555 tw1090652998546770278 tw2775601503416651084 tw15288090356127740329 tw6450062480600296547 tw17609882826100601711 tw16272472424032985337 tw9561907151811012812 tw18221793133242716268 tw15520076999384584673 tw17229777916294323909 tw856967723987910095 tw8829894619629242873 tw11458129999742932683 tw12870138370229184328 tw8716724089895461916 tw1165828172753484401 tw4038827930692516597 tw8759132509199042463 tw16379608613129588292 tw14172920145509385457 tw9119240690661847537 tw17837356300060815685 tw9179798718395933934 tw4482827303076098318 tw5417697498756993288 tw6529411172822158673 tw11312387945115416961 tw6700189599434111214 tw5890383520820556788 tw10914729206559441815 tw14614415326828896483 tw6351771716226851432 tw6410738156682306676 tw5687158020263711898 tw3294575082095569900 tw13046794588463814684 tw16524517828616560928 tw12999375233465974628 tw14931219066796996203 tw8181123712569591917 tw4018792280724054400 tw17918653906291911866 tw10060383176017101724 tw13781945559332131292 tw9791100656680157141 tw2233498560719048240 tw6692301130822779464 tw2900074680548081983 tw6567011941635868752 tw2048414025008909188 tw6106479298724685958 tw863792702857488650 tw9501351935370819862 tw17235657885713206383 tw2707653799923803366 tw5595582109089423376 tw6915537112506451473 tw17082536482887179566 tw3668539886698538583 tw6958977972105215092 tw4608318644883640061 tw9774402503886241748 tw17747690886094906273 tw10887190291842077211 tw8196250470321604834 tw9464626501019911698 tw2328159611748152673 tw14236880381182331658 tw13162184192440837929 tw18389628648961016918 tw4409393262057831760 tw14316299024686498556 tw15355071176196087351 tw486482326852550219 tw7243706528035420384 tw14870865417713640350 tw8177805127085657137 tw12059423423771656458 tw1299558465031503659 tw11687925879009664451 tw3407193831503083037 tw6323914691328949033 tw11587170155295959977 tw18195220380459112602 tw1304578260360839211 tw4464406691875881608 tw14375398820826864927 tw18289113572089729813 tw18002995209700862049 tw1140500803114860759 tw1016949598869072671 tw7139779376427816355 tw9064160538385047108 tw2297268639538066965 tw1329752492316415161 tw7279961820346391169 tw4076015742327076792 tw1109557561976663030 tw6334076257614096579 tw9659461658980242531 tw2187630440806278537 tw5256992488871937948 tw15971343709438363276 tw14535395208910558022 tw12180606899333081375 tw10107562313582643741 tw10704511884373034696 tw2702053061432846543 tw1303528675799660246 tw9963892685833144445 tw7760212918886710794 tw4226358889560198096 tw4019681092890540550 tw2785935045349090851 tw15610375859403376261 tw14001447244771688466 tw3779802615139266477 tw5890469483474035856 tw4682292520848974522 tw5418845934887449391 tw18159449697625253997 tw7281368846103492502 tw5038252603147826575 tw9012230949554022181 tw6879044295066767808 tw4196470819571637190 tw3810880243542913043 tw7317618716329749414 tw7181152514852760329 tw1013328738326762507 tw13067289044104758544 tw12609105836302018125 tw1319433248424857883 tw14988458539474679971 tw2789127838890675244 tw2276226899725685971 tw2500994561122420945 tw15761054374031973822 tw8418636528896376475 tw7092864901071387474 tw13251187186355257843 tw949150618079266041 tw10157782271059798047 tw6581259010308022982 tw9190478858383280028 tw1741898963224434207 tw3416946231243408563 tw15766044715697372151 tw12548134953643419897 tw6403226359420092574 tw691504946136402457 tw5904975058196949045 tw88083129626934899 tw8899265570061753159 tw4711954304976117605 tw2893816292204878604 tw16619364398900886116 tw14005480096252363359 tw1813572362842537875 tw11500493867596011876 tw4403855516161497908 tw13003432524356739862 tw8145691194617148213 tw17821958993447364527 tw1893283882575934072 tw7434980897924689302 tw6125439230112377166 tw16166398074697974743 tw4675368185616002442 tw11281674760799270078 tw16572298962511046089 tw16904055565914258131 tw9798715504790308171 tw14322577664865979225 tw331238934257654885 tw2298258921698567235 tw6346904914384110575 tw5741630596546159490 tw1835022445687653585 tw15535917692274260555 tw17755349614657376110 tw17401653603724321230 tw18015276483250424195 tw6185612861541515861 tw13488197583055814525 tw8681885606051260244 tw3609181312615923768 tw3239406672486980953 tw18094924528080864515 tw3422376382970909487 tw12159825559912128861 tw12979465077370862191 tw11398829643583799009 tw1135998324869446177 tw7721164823221957031 tw10423479214988688547 tw13949605730521359483 tw11545624885417584189 tw14158488851013256395 tw6349577381365346015 tw14448311113852254891 tw15598281410273311776 tw7466399469748596443 tw15232925545964899887 tw435239605989606784 tw7425384556907217114 tw6102329022611755799 tw6047440416939197605 tw451817126379999470 tw4887092550208211705 tw16472208657824352565 tw11490665578878774416 tw6482131242208347213 tw3260254967917871509 tw8696017335182982318 tw11367329921317166640 tw14538592987289905102 tw6286479326121025843 tw2196237655965424667 tw6297671915708080100 tw13431616568354454782 tw16944813085448938242 tw15373265327824654998 tw17675737014324287664 tw4837652634987686725 tw15566721738812968498 tw17959564484454749438 tw16098736879449484511 tw17378329452517652885 tw7512846766309789368 tw12686729253762483844 tw6595248802132814535 tw5955460657931870407 tw5153363261063302593 tw3259616862312236226 tw16348843571646340853 tw11635706937794365100 tw6558043137150576075 tw13967911233599720518 tw9584288228705483532 tw10796060879149845389 tw4324456023326418012 tw18167915130079203161 tw1958862755795416171 tw13784503956938768741 tw9446173340424955880 tw12770927688764909022 tw6154575867219348548 tw297586849434153103 tw10348741870200055265 tw10308670070351888857 tw8515156158280718070 tw7462008274977645314 tw17233393145921912154 tw12448073940964207995 tw4323105169072814736 tw14726199389975834070 tw15001870820536338965 tw13412863631707237793 tw7396138030082407513 tw13298241554642592912 tw10387009557184010694 tw6420332370842780864 tw1135928622764347692 tw12322004495894158434 tw14087384822021755197 tw17421706933231935542 tw1359517191365164375 tw6428149017853637767 tw535081970994356352 tw4696226615330061424 tw2507642647737670527 tw15533466091161085704 tw686249097366729577 tw7672276919304340077 tw6348021769010436313 tw11440069412056911805 tw11213184610368372868 tw639790566459373882 tw12543732566445598740 tw976573551958606599 tw423225410215481072 tw14882974978220578539 tw7869736617656444068 tw5422506099634958435 tw7758472838403859541 tw16420865394472264040 tw6105236980611653727 tw12110413662995860359 tw3593293724474184106 tw2532406089585552128 tw4645237571266179668 tw17713366126875198969 tw17865846263122030495 tw11562211903892117959 tw17825026032204495953 tw9243386722209656876 tw4920988238314359979 tw14745791901062084272 tw10348590700641828601 tw9104821433695672074 tw6312598121626104030 tw5057832626166509358 tw274718128356162634 tw15640940130555077225 tw6676706121217213774 tw7531201478192254624 tw1148730558110142424 tw11375118904247282773 tw11228363965364589600 tw9773231723766368529 tw2338139414282080423 tw11735682838384158238 tw102628167634894176 tw18326322539533701775 tw6772265648273333409 tw8428841744561874917 tw6059179477335705283 tw2537088004889944535 tw496903982056279650 tw1485294734126864920 tw11882231257079303903 tw8616055884693729852 tw3240021489471325306 tw759747599555933004 tw4406890722925515623 tw18222859367466334842 tw15799760110402898601 tw14852798418961557974 tw4196679033113990629 tw7783755696503286084 tw5268721074689238869 tw8413336255192350596 tw5713937850385574774 tw9550127893259151280 tw2530177853102168394 tw14707421338858709323 tw11056658004338786212 tw9997530672706621870 tw1700979968597372252 tw16186053185587644687 tw8780235039905690618 tw6807844240314091701 tw6786970991371963356 tw1961448999061219601 tw18373751197211353718 tw17870518805206152573 tw16423981356652445205 tw8201844907392755386 tw14087262031862076332 tw12476688817074023368 tw8317212686722394589 tw4578389557942400035 tw4064351132555649151 tw3237182478999960773 tw13673212937974217492 tw9949893882818684342 tw5152607500103474077 tw2085027156851290728 tw14505835600079065224 tw6413239903430497385 tw5881960362408746846 tw2648347260056884011 tw5329208867354961603 tw15950281493779263217 tw11311006991276676732 tw17722708473146945930 tw14822107668591136527 tw11528670185122013095 tw10255401785376278528 tw7575640131896056421 tw18063118270387393762 tw16679995847359289422 tw3081445507805943743 tw12173656450395964088 tw9263827081636181041 tw16661218233020017818 tw11922914171680540229 tw8024085904983425667 tw4563068832151145615 tw9659307584669884895 tw6341368836408951730 tw3865298311531697752 tw9598689820128534881 tw9451760852854186406 tw7656748071719378709 tw2745359222986725226 tw4111986251884925879 tw7160003149912047740 tw662646152850837215 tw2403059410209435733 tw14563335575852051900 tw12957272019405735640 tw12067224838525445807 tw15948358230640186739 tw6672390880420211157 tw2911960982016398396 tw11956947166051076424 tw991923467893913789 tw1082062084079040655 tw2840273994702329016 tw14061233959226781659 tw8865313459366102776 tw7597715425835970779 tw8238691594923465410 tw6972948593851842632 tw13147236013881395579 tw5101357187130459081 tw14702212977236280136 tw6660904071323483104 tw4155174678563367395 tw7079004180855058333 tw15725703793816377206 tw6843204266760286653 tw4547425532444312814 tw1074180305638720329 tw16882365185752986331 tw11389976749775935400 tw13991111015873594045 tw11755225502206007671 tw9310767070234031130 tw2038818017733804324 tw14316398435114164406 tw18247017238120948448 tw7358372668898953845 tw7237754911631843851 tw6709607557046939812 tw6337045472900274045 tw580729820089182940 tw2087743746233303122 tw1930017944804590217 tw13090892393614342705 tw11001055573216438406 tw5285668953148729882 tw1701612383684623374 tw884973395010686057 tw6329446887839026847 tw2026439605707412894 tw11701826363085996219 tw3110281075154729823 tw3531684340337643469 tw8760466382595529652 tw13454441044541792204 tw11359049956848846357 tw17392482773846691774 tw1469602688772918055 tw3182854669458882592 tw14476443624503644919 tw10488034380242947772 tw2216409781303605990 tw16061992590171737477 tw10616826648911228240 tw7848555814260884693 tw5191708550614122269 tw12553958142988314977 tw5269856948349843715 tw5106341596679545941 tw14786817591361354398 tw14118562605042368688 tw16229409329920071105 tw11055568280568757789 tw2014882374397558250 tw15980100381367733111 tw18064229874917342291 tw1959101059179861635 tw1571565483723961266 tw16346598478007799951 tw1053081077396232241 tw1972924982809403413 tw15894838975428611978 tw2454275803691430345 tw12297105061444263790 tw8278287240962078081 tw6333371170810590284 tw8090487251080177814 tw272728728159299067 tw1685188337202940413 tw14288768745448814521 tw9473536484687331612 tw6159992174750110196 tw4756071757031722485 tw4615126444783716387 tw3153436824301785287 tw11416995628670543946 tw15118071221804443736 tw14934368004665290513 tw9971744535615120181 tw3809478304131676772 tw14806595298056306606 tw3827520450538315091 tw1947682574872333844 tw17988609767182119155 tw4097630537309413073 tw1311168521656181606 tw10247214000860447677 tw38031307860317223 tw3343928189672571811 tw1302388574291820939 tw13251250044924288869 tw17756430892636821966 tw16249557024550145338 tw1206221035979567865 tw11512084276572519342 tw4110512978978727310 tw3965289512850534873 tw3953164542438014341 tw25523511054184617 tw2550859524937248882 tw17829160198313568227 tw17813519601575301452 tw16222397083531832210 tw15699483057452481107 tw14204249176388527834 tw13653802502698990027 tw13434676814717924646 tw804960305033314602 tw16335045299516307977 tw16050299215207558271 tw15235717148579504835 tw2014711142591519012 tw17970000655520738596 tw17422919110897362252 tw17058665620004740997 tw1694478823009068482 tw13247285695289610482 tw9278682760845631363 tw9243753785496417360 tw7778873403051606386 tw682506203751247324 tw219374828005296252 tw2118443369137143089 tw17414235023825904750 tw12429825516287539168 tw11335630648363401847 tw10240179939001565415 tw9484983411600594201 tw3522107284559392787 tw17742568511051311310 tw14565249707846570790 tw5973259402796847241 tw5593392439284133305 tw15738108556247008273 tw11894394051512007273 tw9441323469757369345 tw7815124679075680148 tw6880529788690096058 tw5016183858683135966 tw3765417587269529478 tw3368796063105576608 tw269460312993422418 tw2576340165959274863 tw2215185147232694661 tw14146436935694141796 tw12847600369591093101 tw12456708987198448892 tw11048673163930370778 tw10344836395080683128 tw9742070055840383918 tw16297805402920985436 tw10092764489854962928 tw8149044389270798753 tw6285954437914591913 tw13943690979098835599 tw10351211083468903272 tw44477916892745372 tw17221986526657186801 tw369524949429537347 tw15457288434520211924 tw409200991347924637 tw6519416689035593667 tw2427535505316656694 tw14890036094010123208:True)
open PySem PySem.W PyProof.Rows L2 L3
def xZqN:Option Obj->Option Obj
|some ⟨_,_,.freed,_⟩=>none
|o=>o
def xZqP (h:Heap):List Nat->Nat->List Obj->List (Option Obj)
|[],_,_=>[]
|a::l,i,r=>bif i.ble a then xZqN (r.drop (a-i)).head?::xZqP h l a (r.drop (a-i)) else h.get? a::xZqP h l i r
theorem xZqQ (h:Heap):∀l i r,r=h.objs.toList.drop i->xZqP h l i r=l.map h.get?
|[],_,_,_=>rfl
|a::l,i,r,e=>by
 unfold xZqP;cases z:i.ble a with
 |false=>exact congrArg (h.get? a::·) (xZqQ h l i r e)
 |true=>
  have d:r.drop (a-i)=h.objs.toList.drop a:=by have:=Nat.le_of_ble_eq_true z;rw [e,List.drop_drop];congr 1;omega
  show xZqN (r.drop (a-i)).head?::xZqP h l a (r.drop (a-i))=_;rw [xZqQ h l a _ d,d,List.head?_drop,Array.getElem?_toList];rfl
def xZqH (K:Params->Frag) (as:List Addr) (e:∀P,as=(K P).map (·.1)) (_:Unit):Hook:=⟨_,λs=>xZqP s.heap as 0 s.heap.objs.toList,λw=>(K w.params).map λp=>some p.2,InK K,λw s x=>InK.of e w s ((xZqQ s.heap as 0 s.heap.objs.toList rfl).symm.trans x),InK.keeps⟩
local macro_rules|`(tactic|o_head ($f $k $a $e))=>`(tactic|o_head (xZqH $k $a $e ()))
set_option maxRecDepth 100000 in
set_option maxHeartbeats 0 in
theorem PySem.Challenge.cw_callboard_k55_whole_bills_by_the_board_holds : PySem.Challenge.rw_callboard_k55_whole_bills_by_the_board.Holds := by
 w_on;o_law;k_head;(case hw=>w_witness2)
 k_fill
 refine L3.Na (l:=PySem.Challenge.rw_callboard_k55_whole_bills_by_the_board) (sp:=Z.K5) (k:=17) (x:="_law_script") rfl rfl ⟨rfl,by decide,by decide⟩ (λ_ _ Y=>Y) (λns hl=>⟨ns,rfl,hl,rfl⟩) ?F;case F=>
  intro w mg fa h KX G hmg;suffices h:∃a:Z.Ad,Z.Gl _ mg a/\∀(s:Shared) (u:Value),BindsTo s a.ag.d ⟨[u],[]⟩ [("_law_script",u)]by obtain⟨a,g,hb⟩:=h;have e:=hmg.symm.trans g.ag.mg;cases e;exact⟨a.ag.d,hb,λbase _ _=>g.ag.pe ▸ Z.RL g⟩
  refine'⟨⟨_,_,_,_,_,_,_,_,_,_,_,_,_,_,_,_,_,_,_,_,_,_,_,_,_,_,_,_,_,_,_,_,_,_,_,_,_,_,_,_,_,_,_,_,_,_,_,_,_,_,_,_,_,_,_,_,_,_,_,_,_,_,_,_,_,_,_,_,_,_,_,_,_,_,_,_,_,_,_,_,_,_,_,_,_,_,_,_,_,_,_,_,_,_,_,_,_,_,_,_,_,_,_,_,_,_,_,_,_,_,_,_,_,_,_,_,_,_,_,_,_,_,_,_,_,_,_,_,_,_,_,_⟩,⟨wx KX G ..,wx KX G ..,wx KX G ..,wx KX G ..,wx KX G ..,wx KX G ..,wx KX G ..,wx KX G ..,wx KX G ..,wx KX G ..,wx KX G ..,wx KX G ..,wx KX G ..,PySem.W.mg_of KX G ?_,PySem.W.mg_of KX G ?_,qg KX G ..,qg KX G ..,qg KX G ..,qg KX G ..,qg KX G ..,qg KX G ..,qg KX G ..,qg KX G ..,qg KX G ..,qg KX G ..,qg KX G ..,qg KX G ..,qg KX G ..,qg KX G ..,qg KX G ..,qg KX G ..,qg KX G ..,qg KX G ..,qg KX G ..,qg KX G ..,qg KX G ..,qg KX G ..,qg KX G ..,qg KX G ..,qg KX G ..,qg KX G ..,qg KX G ..,qg KX G ..,qg KX G ..,qg KX G ..,qg KX G ..,qg KX G ..,qg KX G ..,qg KX G ..,qg KX G ..,qg KX G ..,qg KX G ..,qg KX G ..,qg KX G ..,qg KX G ..,qg KX G ..,qg KX G ..,qg KX G ..,qg KX G ..,qg KX G ..,qg KX G ..,qg KX G ..,qg KX G ..,qg KX G ..,qg KX G ..,qg KX G ..,qg KX G ..,qg KX G ..,qg KX G ..,qg KX G ..,qg KX G ..,qg KX G ..,qg KX G ..,qg KX G ..,qg KX G ..,qg KX G ..,pW ..,pW ..,pW ..,pW ..,pW ..,pW ..,pW ..,pW ..,pW ..,pW ..,pW ..,pW ..,pW ..,pW ..,pW ..,pW ..,pW ..,pW ..,pW ..,pW ..,pW ..,pW ..,pW ..,pW ..,pW ..,pW ..,pW ..,pW ..,pW ..,pW ..,pW ..,pW ..,pW ..,pW ..,pW ..,pW ..,pW ..,pW ..,pW ..,pW ..,pW ..,pW ..,pW ..,pW ..,pW ..,pW ..,pW ..,pW ..,pW ..,pW ..,pW ..,pW ..,pW ..,pW ..,pW ..,pW ..,NK ?_ ?_ ?_ ?_ ?_ ?_ ?_ ?_ ?_ ?_,JR ?_ ?_ ?_,PQ ?_ ?_ ?_ ?_,⟨?_,?_,?_,?_⟩,⟨?_,?_,?_,?_⟩,⟨?_,?_,?_,?_⟩,⟨?_,?_,?_,?_⟩,⟨?_,?_,?_,?_⟩,⟨?_,?_,?_,?_⟩,⟨?_,?_,?_,?_⟩,⟨?_,?_,?_,?_⟩,⟨?_,?_,?_,?_⟩,⟨?_,?_,?_,?_⟩,⟨?_,?_,?_,?_⟩,⟨?_,?_,?_⟩,⟨?_,?_,?_⟩,⟨?_,?_,?_⟩,⟨?_,?_,?_⟩,⟨?_,?_,?_⟩,⟨?_,?_,?_⟩,⟨?_,?_,?_⟩,⟨?_,?_,?_⟩,⟨?_,?_,?_⟩,⟨?_,?_,?_⟩,⟨?_,?_,?_⟩,⟨?_,?_,?_⟩,⟨?_,?_,?_⟩,⟨?_,?_,?_⟩,⟨?_,?_,?_⟩,⟨?_,?_,?_⟩,⟨?_,?_,?_⟩,⟨?_,?_,?_⟩,⟨?_,?_,?_⟩,⟨?_,?_,?_⟩,⟨?_,?_,?_⟩,(pL ?_ (pL ?_ (pL ?_ (pL ?_ (pL ?_ (pL ?_ (pL ?_ (pL ?_ s8)))))))),(pL ?_ (pL ?_ (pL ?_ (pL ?_ (pL ?_ (pL ?_ s8)))))),(pL ?_ (pL ?_ (pL ?_ s8))),(pL ?_ (pL ?_ (pL ?_ s8))),(pL ?_ (pL ?_ (pL ?_ s8))),(pL ?_ (pL ?_ (pL ?_ (pL ?_ (pL ?_ s8))))),(pL ?_ (pL ?_ (pL ?_ s8))),(pL ?_ (pL ?_ (pL ?_ (pL ?_ s8)))),(pL ?_ (pL ?_ s8)),(pL ?_ (pL ?_ s8)),(pL ?_ (pL ?_ (pL ?_ (pL ?_ (pL ?_ (pL ?_ (pL ?_ (pL ?_ s8)))))))),BE,BE,BE,Rw NZ ?_ (λ_=>rfl),PySem.W.mg_none_of KX G ?_,PySem.W.mg_none_of KX G ?_,PySem.W.mg_none_of KX G ?_,PySem.W.mg_none_of KX G ?_,PySem.W.mg_none_of KX G ?_,PySem.W.mg_none_of KX G ?_,PySem.W.mg_none_of KX G ?_,PySem.W.mg_none_of KX G ?_,PySem.W.mg_none_of KX G ?_,PySem.W.mg_none_of KX G ?_,PySem.W.mg_none_of KX G ?_,PySem.W.mg_none_of KX G ?_,PySem.W.mg_none_of KX G ?_,PySem.W.mg_none_of KX G ?_,vX (PySem.W.mg_of KX G ?_),vX (PySem.W.mg_of KX G ?_),vX (PySem.W.mg_of KX G ?_),vX (PySem.W.mg_of KX G ?_),OJ (PySem.W.mg_of KX G ?_) (tX (ss:=["all","turns"]) ?_ (.cons ⟨_,rfl⟩ (.cons ⟨_,rfl⟩ .nil)) (Nat.le_of_ble_eq_true rfl)),vX (PySem.W.mg_of KX G ?_),vX (PySem.W.mg_of KX G ?_),vX (PySem.W.mg_of KX G ?_),R7 (PySem.W.mg_of KX G ?_),P4 (es:=[⟨_,.str "bar" _,.ref _⟩,⟨_,.str "shut" _,.ref _⟩,⟨_,.str "always" _,.ref _⟩,⟨_,.str "night" _,.ref _⟩,⟨_,.str "busy" _,.ref _⟩,⟨_,.str "silent" _,.ref _⟩,⟨_,.str "wait" _,.ref _⟩,⟨_,.str "breaks" _,.ref _⟩]) (PySem.W.mg_of KX G ?_) ?_ ?_ (.cons rfl ⟨_,rfl,(tX (ss:=["phone","names"]) ?_ (.cons ⟨_,rfl⟩ (.cons ⟨_,rfl⟩ .nil)) (Nat.le_of_ble_eq_true rfl))⟩ (.cons rfl ⟨_,rfl,(tX (ss:=["name","phones"]) ?_ (.cons ⟨_,rfl⟩ (.cons ⟨_,rfl⟩ .nil)) (Nat.le_of_ble_eq_true rfl))⟩ (.cons rfl ⟨_,rfl,(tX (ss:=["name","name"]) ?_ (.cons ⟨_,rfl⟩ (.cons ⟨_,rfl⟩ .nil)) (Nat.le_of_ble_eq_true rfl))⟩ (.cons rfl ⟨_,rfl,(tX (ss:=["name","name","hour","hour"]) ?_ (.cons ⟨_,rfl⟩ (.cons ⟨_,rfl⟩ (.cons ⟨_,rfl⟩ (.cons ⟨_,rfl⟩ .nil)))) (Nat.le_of_ble_eq_true rfl))⟩ (.cons rfl ⟨_,rfl,(tX (ss:=["name","name"]) ?_ (.cons ⟨_,rfl⟩ (.cons ⟨_,rfl⟩ .nil)) (Nat.le_of_ble_eq_true rfl))⟩ (.cons rfl ⟨_,rfl,(tX (ss:=["name","name","turns"]) ?_ (.cons ⟨_,rfl⟩ (.cons ⟨_,rfl⟩ (.cons ⟨_,rfl⟩ .nil))) (Nat.le_of_ble_eq_true rfl))⟩ (.cons rfl ⟨_,rfl,(tX (ss:=["phone"]) ?_ (.cons ⟨_,rfl⟩ .nil) (Nat.le_of_ble_eq_true rfl))⟩ (.cons rfl ⟨_,rfl,(tX (ss:=["phone"]) ?_ (.cons ⟨_,rfl⟩ .nil) (Nat.le_of_ble_eq_true rfl))⟩ .nil)))))))),vX (PySem.W.mg_of KX G ?_),vX (PySem.W.mg_of KX G ?_),vX (PySem.W.mg_of KX G ?_)⟩,λs u=>.of_eq rfl⟩
  all_goals try first|k_is|(intro _ _ _ _ _ _ us hl;rcases us with _|⟨_,_|⟨_,_|⟨_,_|⟨_,_|⟨_,_|⟨_,_|⟨_,us⟩⟩⟩⟩⟩⟩⟩<;>first|rfl|(exfalso;revert hl;simp;done))|rfl
