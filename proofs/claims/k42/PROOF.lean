import PyProof.Rows.All
import Wide.All
import OpenK.AllK
import Wide.FinOn
import PyProof.EqAt
import PyProof.EqKinds
import PyProof.TupleCall
import PyProof.AttrMiss
import PyProof.IsiH_list
import PyProof.Rows.SetFrom
import KE.KDictOf
import KE.KTab
import PyProof.AutoListH
import KE.KSortTup
import KE.KItemsList
import KE.KEqDict
import KE.KIntText
import Lean
import PyProof.RulesRaise
import PyProof.RulesTry
import KE.KTryDeep
import KE.KTryMore
import KE.KTryOn
import KE.TryInHelper
import KE.TryLedger
import PyProof.ExcArgsOwn
import PyProof.ExcAttrAll.ValueError
import KE.KIsAll
import PyProof.ExcBaseAll.ValueError
import PyProof.InstStoreFacts
import PyProof.ExcInit
import PyProof.SeqI3
import PyProof.ConsumeWalk
import PySem.Challenge.RW_callboard_k42_deeds_at_calls
set_option Elab.async false
set_option linter.all false
set_option maxRecDepth 100000
set_option maxHeartbeats 4000000
open List renaming length_map->cT,getElem?_eq_some_iff->cV,getElem?_eq_getElem->cW,length_append->cX,mem_cons->df,size_toArray->dq,mem_map->dz,getElem?_map->dA,not_mem_nil->dB,mem_cons_of_mem->dC,mem_singleton->dD,length_nil->dI,mem_cons_self->dN,nodup_cons->dO,map_append->dP,length_singleton->dQ,map_cons->dS,mem_append->dW,nil_append->dX,mem_append_right->dZ,length_cons->d6,map_map->d9,length_range->eD,replicate_succ->eF,nodup_nil->eG,getElem?_set_self->eJ,lookup_cons->eK,all_eq_true->eL,getElem?_set_ne->eP,getElem?_append_right->eS,length_modify->eU,append_nil->eY,getElem?_append_left->eZ,mem_append_left->fg,append_assoc->fj,all_cons->ft,length_pos_iff->fA,exists_cons_of_ne_nil->fD,cons_ne_nil->fE,mem_filter->fG,find?_cons->fH,length_eq_zero_iff->fL,length_take->fM,take_length->fN,flatten_cons->fO,mem_of_getElem?->fQ,foldl_cons->fT,filterMap_cons->fU,filter_sublist->fV,any_cons->fX,length_drop->fY,drop_eq_getElem_cons->gc,nodup_append->gh,mem_range->gk,any_eq_true->gp,getElem?_eq_none->gw,length_filter_le->gx,getD_eq_getElem?_getD->gy,mem_of_find?_eq_some->gD,getLast?_eq_none_iff->gF,filter_cons->gH,getElem_of_mem->gJ,map_congr_left->gK,filter_map->gQ,find?_eq_none->gR,take_of_length_le->gT,take_add_one->gW,findIdx?_map->gY,getElem_mem->hZ,length_set->ib,getLastD_eq_getLast?->ic,contains_cons->il,filter_cons_of_pos->ip,filter_cons_of_neg->iq,getElem?_cons_zero->ir,findIdx?_eq_some_iff_getElem->iw,length_replicate->iB,getElem?_toArray->iC,map_nil->iG,set_set->iK,filter_nil->iL,mem_of_mem_take->iM,mem_of_mem_drop->iN,mem_of_getLast?->iO,dropLast_subset->iP,getElem?_modify->iQ,drop_zero->iX,map_id->iZ,filter_append->jf,sublist_append_right->jr,pairwise_iff_getElem->js,getLast?_eq_getElem?->jt,findIdx?_eq_none_iff->ju,drop_length->jB,any_map->jE,eq_of_mem_replicate->jF,getElem?_replicate->jG,of_mem_zip->jJ,forIn_cons->jK,range_succ->jO,forIn_nil->jU,set_append_right->j4,map_drop->km,getElem?_range->kr,filter_eq_self->ky,modify_eq_self->kz,mem_filterMap->kE,getElem_range->kQ,set_cons_succ->kS,any_eq_false->kW,foldl_append->kZ,getElem_inj->lz,zipIdx_cons->lJ,getElem_map->lN,zipIdx_nil->lR,any_append->lT,map_take->lX,all_map->l8,map_set->me
open PySem renaming wpAny_bind->cU,wpAny_pure->de,sizeLine_eq->dM,wpAny_mono->eA,wpAny_holding->eC,wpAny_field->fh,wpAny_truthy_bool->fi,wpAny_callSpecial?_slot->fK,wpAny_newObj_type->fR,wpAny_call_entry->fZ,wpAny_Call_Name_kw->gb,codeAny_mono->gf,wpAny_seqItems->gm,wpAny_setField_rec->gu,wpAny_passesOwn->gv,wpAny_pyIter_list->gA,mem_of_lookup->gI,wpAny_standAt->gL,wpAny_execs_nil->gN,codeAny_builtin->gO,wpAny_loadPart_at->gX,wpAny_setField->g9,wpAny_call->hJ,codeAny_call_builtin->hW,wpAny_pyIter_tuple->ik,wpAny_onRaise->iz,plainObj_wpAny_Assign_Attribute->iD,wpAny_specialOf->iH,wpAny_updateSeq_pair->iI,isSubtype_type->iW,tupleKind_room_in1->jb,slot_dict_contains->jd,wpAny_sequenceKey->jk,call_meets->jp,wpAny_execs_cons->jv,wpAny_typeOf->jy,wpAny_comprehension_free->jA,codeAny_of_tree->jM,wpAny_pyNext_list_item->jQ,wpAny_pyNext_list_end->jT,builtinLookup_eq_fast->jV,weight_type_call_type->jW,getitemInPython_of_ne->jX,wpAny_rule->j7,wpAny_letTemporaryGo->j9,plainId_quiet->kh,wpAny_attempt->kl,wpAny_isSubtype_exc->kx,concat_meets->kG,seqIndex_neg->kI,wpAny_assign_Name->kT,wpAny_Assign_Name->kU,slot_list_getitem->kY,slot_dict_getitem->lb,wpAny_pyIter_enum->lh,seqIndex_of->lu,wpAny_letGo->lw,wpAny_pyHash_str->ly,wpAny_lookBehind->lA,pastItsLine_dict->lB,noFill_tuple_add->lD,check_set_init_1->lH,wpAny_pyIter_zip->lL,wpAny_Name->lO,typeIs_int->lP
def cY:=@if_neg
def c9:=@if_pos
def dR:=@decide_eq_true
def eB:=@decide_eq_true_eq
def eE:=@congrArg
def eM:=@beq_self_eq_true
def eO:=@decide_eq_false
def eW:=@or_false
def fk:=@beq_iff_eq
def fJ:=@not_or
def fP:=@of_decide_eq_true
def gj:=@beq_eq_false_iff_ne
def iV:=@if_true
def j6:=@if_false
open PySem.Heap renaming get?_push_of_some->cZ,lt_size->dv,get?_push_size->dF,size_push->fm,get?_update_self->fF,get?_update_other->fW,get?_none_of_le->gC,get?_update_ne->ku
open Nat renaming le_refl->dg,ne_of_lt->dG,lt_of_lt_of_le->dH,le_trans->dY,zero_le->eX,lt_irrefl->e9,lt_succ_self->fv,ne_of_gt->gG,le_succ->gS,lt_succ_of_lt->gU,sub_self->hG,succ_le_succ->h9,lt_of_le_of_lt->io,le_add_right->iA,le_succ_of_le->jn,lt_trans->jz,mul_le_mul->jY,le_of_lt->kD,sub_zero->kM,min_eq_left->lU,le_of_eq->lZ,succ_mul->l0,zero_add->ma,succ_pos->mf
open Option.some renaming inj->dh,injEq->jm
open Bool renaming false_ne_true->dw,eq_false_iff->dE,and_eq_true->dU,true_and->eI,false_and->eR,false_or->fC,eq_iff_iff->gg,not_eq_true'->gB,or_eq_true->gP,true_or->gZ,or_false->iy,not_eq_false->jo,or_true->kO,false_eq_true->kP,beq_comm->lW
open Ne renaming symm->dJ
open Int renaming eq_ofNat_of_zero_le->eh,emod_lt_of_pos->eN,emod_nonneg->eQ,mul_le_mul_of_nonneg_left->iR,toNat_natCast->jj,emod_add_mul_ediv->j3,zero_add->mh
open PySem.PassesOwn renaming never->fu
open PySem.F renaming called_set->fz,slot_tuple_iterator_next->gz,slot_list_getattribute->ie,slot_zip_next->iJ,args_tuple_iterator_next_1->iY,entry_tuple_iterator_next->je,slot_dict_getitem->jq,args_tuple_add_2->jx,store_ValueError->jD,entry_tuple_add->jI,slot_tuple_add->jR,attrBase_ValueError->jZ,excBase_ValueError->kc,entry_type_call->k9,args_zip_next_1->lj,typeCall_set_1->lF,entry_set_init->lG,entry_zip_next->lK,slot_int_rmul->lQ
open PyProof.Rows renaming slot_tuple_getitem->fB,callWith_type1->fS,SetOf_congr->ii,callWith_builtin1->iF,setObjOf_fresh->jc,subscriptTail_builtinR->jS,entry_tuple_getitem->ko,args_tuple_getitem->kH
open PySem.W renaming kia_one->gi,callWith_K->iE,looks_findIn->iU,methodCall_KW->jN,plainGet_of->ke,looks_clsIn->kg,kitx_list->ls,cellsFrom_some->lC
open PyProof.Rows.F renaming plain_set_update_loop->gq,entry_set_update_loop->ig
open List.cons renaming inj->gM
open PySem.Around renaming under_plainId->hU,under_plain->kK
open Array renaming getElem?_setIfInBounds_self_of_lt->ia,length_toList->iS,toList_append->iT,size_setIfInBounds->jC,mem_toList_iff->j5,append_assoc->kC,find?_toList->kF
open PySem.Code renaming quiet_builtin->ij
open List.Nodup renaming sublist->im
open Option renaming map_eq_some_iff->iu,isSome_map->jl,isSome_iff_exists->jw,map_some->jL,getD_none->lE,bind_some->lM
open PySem.Calls renaming spliced_cons->ja,Name_function_global->jh,spliced_nil->ji
open PySem.Paired renaming length->jg,snoc->mj
open Sum.inr renaming inj->jP
open PySem.Walks renaming list->j8
open PySem.Heap.SameBut renaming update->kt
open PySem.SeqAt.EqAt renaming int_str->kA,str_int->kB
open PySem.Obj renaming data_mapFields->kN
open PySem.Heap.Ns1 renaming of_empty->kX
open Eq renaming symm->lV
open PySem.W.Looks renaming here->lY
open PySem.Heap.FunFrames renaming of_keeps->mi
open PySem.Moved renaming trans->mo
open PySem.Heap.IsSliceOf renaming new->mq
abbrev pY:=PySem.W.Frag
local macro_rules | `(tactic| walk_at "l") => `(tactic| (intro _ _ _ h; repeat (first | (obtain ⟨e, _⟩ := h; subst e; rfl; done) | (cases h; rename_i h))))
local macro_rules | `(tactic| walk_at "m") => `(tactic| (intro _ _ _ _ h; repeat (first | (obtain ⟨e, _⟩ := h; subst e; rfl; done) | (cases h; rename_i h))))
abbrev Vl:=PySem.Value
abbrev Sd:=PySem.Shared
abbrev Pg:=PySem.Program
abbrev Ar:=PySem.Around
abbrev Wo:=PySem.World
namespace L2
open PySem PySem.Spec PyProof.Rows
def x5{α:Sort u}{β:Sort v}{p q r:α->β->Prop}{C:Prop}(h:∃a b,p a b/\q a b/\r a b)(f:∀a b,p a b->q a b->r a b->C):C:=by obtain⟨a,b,h1,h2,h3⟩:=h;exact f a b h1 h2 h3
abbrev qR:=Sum Int Str
def C8:qR->Vl->Bool
 | .inl k,v=>Value.isInt k v
 | .inr x,v=>Value.isStrOf x v
def UG(w:Wo):qR->Int
 | .inl k=>hashInt k
 | .inr x=>hashStr w x
def rL:∀{k:qR} {v:Vl},C8 k v=true->(∃i t,k=Sum.inl i/\v=Value.int i t)\/(∃x t,k=Sum.inr x/\v=Value.str x t)
 | .inl i,v,h=>by obtain⟨t,e⟩:=Value.isInt_shape (k:=i) (v:=v) h;exact .inl ⟨i,t,rfl,e⟩
 | .inr x,v,h=>by obtain⟨t,e⟩:=Value.isStrOf_shape (x:=x) (v:=v) h;exact .inr ⟨x,t,rfl,e⟩
def JP(i:Int)(t:Tok):C8 (.inl i) (.int i t)=true:=by simp[C8,Value.isInt]
def JX(x:Str)(t:Tok):C8 (.inr x) (.str x t)=true:=by simp[C8,Value.isStrOf]
def Qu(a b:Int):decide ((Sum.inl a:qR)=Sum.inl b)=(a==b):=by
 by_cases e:a=b
 .subst e;simp
 .have h:¬(Sum.inl a:qR)=Sum.inl b:=λq=>e (Sum.inl.inj q);rw[eO h];exact(gj.mpr e).symm
def R6(a b:Str):decide ((Sum.inr a:qR)=Sum.inr b)=decide (a=b):=by
 by_cases e:a=b
 .subst e;simp
 .have h:¬(Sum.inr a:qR)=Sum.inr b:=λq=>e (jP q);rw[eO h,eO e]
def QO(a:Int)(b:Str):decide ((Sum.inl a:qR)=Sum.inr b)=false:=eO (λq=>nomatch q)
def Q0(a:Str)(b:Int):decide ((Sum.inr a:qR)=Sum.inl b)=false:=eO (λq=>nomatch q)
def rb(prog:Pg)(w:Wo):PySem.KeyKind prog w qR where
 is:=C8
 hash:=UG w
 inj:=λv a b ha hb=>by
  rcases rL ha with⟨i,t,rfl,rfl⟩|⟨x,t,rfl,rfl⟩
  .rcases rL hb with⟨j,u,rfl,e⟩|⟨y,u,rfl,e⟩
   .injection e with e1 _;rw[e1]
   .exact nomatch e
  .rcases rL hb with⟨j,u,rfl,e⟩|⟨y,u,rfl,e⟩
   .exact nomatch e
   .injection e with e1 _;rw[e1]
 byValue:=λk v h=>by rcases rL h with⟨i,t,rfl,rfl⟩|⟨x,t,rfl,rfl⟩<;>rfl
 pyHash:=λhv h=>by
  rcases rL hv with⟨i,t,rfl,rfl⟩|⟨x,t,rfl,rfl⟩
  .exact wpAny_pyHash_int h
  .exact ly h
 eqBool:=λhu hv h=>by
  rcases rL hu with⟨i,t,rfl,rfl⟩|⟨x,t,rfl,rfl⟩
  .rcases rL hv with⟨j,u,rfl,rfl⟩|⟨y,u,rfl,rfl⟩
   .rw[Qu]at h;exact wpAny_eqBool_int h
   .rw[QO]at h;exact kA i t y u _ _ _ _ h
  .rcases rL hv with⟨j,u,rfl,rfl⟩|⟨y,u,rfl,rfl⟩
   .rw[Q0]at h;exact kB x t j u _ _ _ _ h
   .rw[R6]at h;exact wpAny_eqBool_str h
 «strs»:=λk x t v h=>by
  rcases rL h with⟨i,u,rfl,e⟩|⟨y,u,rfl,e⟩
  .exact nomatch e
  .injection e with e1 _
   subst e1;cases v<;>rfl
def FY(prog:Pg)(w:Wo)(i:Int)(t:Tok):(rb prog w).is (.inl i) (.int i t)=true:=JP i t
def Ae(prog:Pg)(w:Wo)(x:Str)(t:Tok):(rb prog w).is (.inr x) (.str x t)=true:=JX x t
inductive V where
 | mC|bl (b:Bool)|int (i:Int)|str (x:Str)|byt (b:Array UInt8)|flt (b:UInt64)|ref (a:Addr)|ty (n:String)
 deriving DecidableEq
def qy:V->Vl->Prop
 | .mC,u=>u=Value.none
 | .bl b,u=>u=Value.bool b
 | .int i,u=>∃t,u=Value.int i t
 | .str x,u=>∃t,u=Value.str x t
 | .byt b,u=>∃t,u=Value.bytes b t
 | .flt b,u=>∃t,u=Value.float b t
 | .ref a,u=>u=Value.ref a
 | .ty n,u=>u=Value.type n
abbrev qo:List V->List Vl->Prop:=Paired qy
def qo.length{xs:List V}{us:List Vl}(r:qo xs us):xs.length=us.length:=jg r
theorem qo.get:∀{xs:List V} {us:List Vl} {i:Nat} {x:V},qo xs us->xs[i]?=some x->∃u,us[i]?=some u/\qy x u
 | _,_,_,_,.nil,e=>by simp at e
 | _,_,0,_,.cons r _,e=>by simp at e;subst e;exact⟨_,rfl,r⟩
 | _,_,i+1,x,.cons _ t,e=>by obtain⟨u,h1,h2⟩:=qo.get (i:=i) (x:=x) t (by simpa using e);exact⟨u,by simpa using h1,h2⟩
theorem qo.set{x:V}{u:Vl}(r:qy x u):∀{xs:List V} {us:List Vl} (i:Nat),qo xs us->qo (xs.set i x) (us.set i u)
 | _,_,_,.nil=>.nil
 | _,_,0,.cons _ t=>.cons r t
 | _,_,i+1,.cons q t=>.cons q (qo.set r i t)
theorem qo.append:∀{xs ys:List V} {us ws:List Vl},qo xs us->qo ys ws->qo (xs++ys) (us++ws)
 | _,_,_,_,.nil,s=>s
 | _,_,_,_,.cons r t,s=>.cons r (qo.append t s)
theorem qo.take:∀{xs:List V} {us:List Vl} (n:Nat),qo xs us->qo (xs.take n) (us.take n)
 | _,_,0,_=>.nil
 | _,_,_+1,.nil=>.nil
 | _,_,n+1,.cons r t=>.cons r (qo.take n t)
theorem qo.drop:∀{xs:List V} {us:List Vl} (n:Nat),qo xs us->qo (xs.drop n) (us.drop n)
 | _,_,0,r=>r
 | _,_,_+1,.nil=>.nil
 | _,_,n+1,.cons _ t=>qo.drop n t
def xY:Option V->Option Vl->Prop
 | some v,some u=>qy v u
 | none,none=>True
 | _,_=>False
def KV{κ:Type}:List (κ×V)->List (κ×Vl)->Prop:=Paired λ(p:κ×V) (q:κ×Vl)=>p.1=q.1/\qy p.2 q.2
def kV:qR->V
 | .inl i=>.int i
 | .inr x=>.str x
inductive HO where
 | lst (xs:List V)
 | tup (xs:List V)
 | dK (kvs:List (qR×V))|dT (kvs:List (List qR×V))
 | set (S:Int->Bool) (n:Nat)
 | ins (C dx:Addr) (fs:List (Str×V))
 | own (x:Addr)
 | xd (fs:List (Str×V))
 | met (f x:Addr)
 | rng (lo hi:Int)
 | frz (o:Obj) (u:HO)
 | tbl (ps:Array Vl)
 | ext (φ:Heap->Prop)
abbrev Hp:=Addr->Option HO
def upd(H:Hp)(a:Addr)(o:HO):Hp:=λb=>if b=a then some o else H b
def pS{H:Hp}{a:Addr}{o:HO}:upd H a o a=some o:=by unfold upd;rw[c9 rfl]
def pL{H:Hp}{a b:Addr}{o:HO}(h:b≠a):upd H a o b=H b:=by unfold upd;rw[cY h]
def NM{H:Hp}{a:Addr}{o u:HO}:upd (upd H a o) a u=upd H a u:=by funext b;unfold upd;split<;>rfl
def S8{H:Hp}{a b:Addr}{o u:HO}(h:H a=some o)(h':H b=some u)(d:o≠u):a≠b:=by intro e;subst e;rw[h]at h';exact d (dh h')
def qD{H:Hp}{a b:Addr}{o:HO}(h:H a=some o)(h':H b=none):a≠b:=by intro e;subst e;rw[h]at h';cases h'
section
variable (P:Pg)(w:Wo)
def D3(h:Heap)(a:Addr)(its:Array Vl):Prop:=∃o,h.get? a=some o/\o.cls=.type "tuple"/\(∃n,o.data=.seq its n)/\o.dict=none
def rP(H:Hp)(h:Heap)(a:Addr):HO->Prop
 | .lst xs=>xs.length<=sizeLine/\∃(its:List Vl) (n:Nat),qo xs its/\h.get? a=some {cls:=.type "list",data:=.seq its.toArray n}
 | .tup xs=>xs.length<=sizeLine/\∃its:List Vl,qo xs its/\D3 h a its.toArray
 | .dK kvs=>kvs.length<=sizeLine/\(a==sysModules)=false/\∃vs,KV kvs vs/\h.DictOf (rb P w) a vs
 | .dT kvs=>kvs.length<=sizeLine/\(a==sysModules)=false/\∃xs:List (List qR×Addr×Vl),Paired (λ(p:List qR×V) (q:List qR×Addr×Vl)=>p.1=q.1/\H q.2.1=some (.tup (p.1.map kV))/\qy p.2 q.2.2) kvs xs/\
   ∃o es ep,h.get? a=some o/\o.ExactDict/\o.data=.dict es ep/\es.toList=xs.map (entryOfKey (tupleKind (rb P w)))/\(xs.map (·.1)).Nodup
 | .set S n=>h.SetOf (intKind P w) a S n
 | .ins C dx fs=>H dx=some (.own a)/\fs.length<=1000/\dx≠a/\h.get? a=some (W.instObj C dx)/\
   ∃mA,h.Ns1 dx mA/\(∀f,xY (fs.lookup f) (mA f))/\PySem.Within mA (fs.map (·.1))
 | .own _=>∃o,h.get? a=some o
 | .xd fs=>∃mA,h.Ns1 a mA/\∀f,xY (fs.lookup f) (mA f)
 | .rng lo hi=>∃t u v,h.get? a=some {cls:=.type "range",data:=.fields #[.int lo t,.int hi u,.int 1 v]}
 | .frz o u=>h.get? a=some o/\rP H h a u
 | .tbl ps=>h.get? a=some {cls:=.none,data:=.fields ps}
 | .met f x=>h.get? a=some (W.methodObj (.ref f) (.ref x))
 | .ext φ=>φ h/\(∃o,h.get? a=some o)/\∀h1 h2:Heap,φ h1->(∀o,h1.get? a=some o->h2.get? a=some o)->φ h2
def x9(H:Hp)(h:Heap):Prop:=∀a o,H a=some o->rP P w H h a o
end
variable {H H':Hp}{h h':Heap}
section
variable {P:Pg}{w:Wo}{a:Addr}{o:HO}
def D3.is{its:Array Vl}(x:D3 h a its):IsTup h a its:=let⟨o,e,c,d,_⟩:=x;⟨o,e,c,d⟩
def D3.new(h:Heap)(Wl:Array Vl):D3 (h.push {cls:=.type "tuple",data:=.seq Wl}) h.objs.size Wl:=⟨_,dF _ rfl,rfl,⟨_,rfl⟩,rfl⟩
def rP.lt(x:rP P w H h a o):a<h.objs.size:=by
 cases o with
 | lst xs=>obtain⟨_,_,_,_,e⟩:=x;exact dv e
 | tup xs=>obtain⟨_,_,_,_,e,_⟩:=x;exact dv e
 | dK kvs=>obtain⟨_,_,_,_,o,_,_,e,_⟩:=x;exact dv e
 | dT kvs=>obtain⟨_,_,_,_,o,_,_,e,_⟩:=x;exact dv e
 | set S n=>obtain⟨o,_,_,_,e,_⟩:=x;exact dv e
 | ins C dx fs=>obtain⟨_,_,_,e,_⟩:=x;exact dv e
 | own y=>obtain⟨_,e⟩:=x;exact dv e
 | xd fs=>obtain⟨_,⟨_,_,_,e,_⟩,_⟩:=x;exact dv e
 | rng lo hi=>obtain⟨_,_,_,e⟩:=x;exact dv e
 | frz ob u=>obtain⟨e,_⟩:=x;exact dv e
 | tbl ps=>exact dv (show h.get? a=some _ from x)
 | met f y=>exact dv (show h.get? a=some _ from x)
 | ext φ=>obtain⟨_,⟨_,e⟩,_⟩:=x;exact dv e
theorem Paired.oa{α β:Type}{F G:α->β->Prop}:∀{l₁:List α} {l₂:List β},Paired F l₁ l₂->(∀a b,F a b->G a b)->Paired G l₁ l₂
 | _,_,.nil,_=>.nil
 | _,_,.cons r t,f=>.cons (f _ _ r) (Paired.oa t f)
def rP.m7(x:rP P w H h a o)(k:∀b u,(b=a\/H b=some (.own a))->h.get? b=some u->h'.get? b=some u) (ho:∀b,H b=some (.own a)->H' b=some (.own a)) (ht:∀b xs,H b=some (.tup xs)->H' b=some (.tup xs)):rP P w H' h' a o:=by
 induction o with
 | lst xs=>obtain⟨z,its,n,r,e⟩:=x;exact⟨z,its,n,r,k _ _ (.inl rfl) e⟩
 | tup xs=>obtain⟨z,its,r,ob,e,c⟩:=x;exact⟨z,its,r,ob,k _ _ (.inl rfl) e,c⟩
 | dK kvs=>obtain⟨z,y,vs,r,ob,es,ep,e,c⟩:=x;exact⟨z,y,vs,r,ob,es,ep,k _ _ (.inl rfl) e,c⟩
 | dT kvs=>obtain⟨z,y,xs,r,ob,es,ep,e,c⟩:=x;exact⟨z,y,xs,Paired.oa r λp q z=>⟨z.1,ht _ _ z.2.1,z.2.2⟩,ob,es,ep,k _ _ (.inl rfl) e,c⟩
 | set S n=>obtain⟨ob,es,ep,t,e,c⟩:=x;exact⟨ob,es,ep,t,k _ _ (.inl rfl) e,c⟩
 | ins C dx fs=>obtain⟨d,z,ne,e,mA,⟨od,es,ep,e2,c⟩,r⟩:=x;exact⟨ho _ d,z,ne,k _ _ (.inl rfl) e,mA,⟨od,es,ep,k _ _ (.inr d) e2,c⟩,r⟩
 | own y=>obtain⟨ob,e⟩:=x;exact⟨ob,k _ _ (.inl rfl) e⟩
 | xd fs=>obtain⟨mA,⟨od,es,ep,e,c⟩,r⟩:=x;exact⟨mA,⟨od,es,ep,k _ _ (.inl rfl) e,c⟩,r⟩
 | rng lo hi=>obtain⟨t,u,v,e⟩:=x;exact⟨t,u,v,k _ _ (.inl rfl) e⟩
 | frz ob u ih=>obtain⟨e,q⟩:=x;exact⟨k _ _ (.inl rfl) e,ih q⟩
 | tbl ps=>have e:h.get? a=some {cls:=.none,data:=.fields ps}:=x;show h'.get? a=some {cls:=.none,data:=.fields ps};exact k a _ (.inl rfl) e
 | met f y=>have e:h.get? a=some (W.methodObj (.ref f) (.ref y)):=x;show h'.get? a=some (W.methodObj (.ref f) (.ref y));exact k a _ (.inl rfl) e
 | ext φ=>obtain⟨p,⟨o,e⟩,st⟩:=x;exact⟨st _ _ p λo q=>k _ _ (.inl rfl) q,⟨o,k _ _ (.inl rfl) e⟩,st⟩
def x9.lt(x:x9 P w H h)(e:H a=some o):a<h.objs.size:=(x a o e).lt
def x9.fresh(x:x9 P w H h)(e:h.objs.size<=a):H a=none:=by
 cases q:H a with
 | none=>rfl
 | some u=>exact absurd (dH (x.lt q) e) (e9 _)
def x9.kept(x:x9 P w H h)(k:∀b u,h.get? b=some u->h'.get? b=some u):x9 P w H h':=λa o e=>(x a o e).m7 (λb u _ q=>k b u q) (λ_ q=>q) λ_ _ q=>q
def x9.laid(x:x9 P w H h)(k:∀b u,h.get? b=some u->h'.get? b=some u)(hp:h.objs.size<=a)(new:rP P w (upd H a o) h' a o):x9 P w (upd H a o) h':=λb u e=>by
 have hn:=x.fresh hp;by_cases hb:b=a
 .subst hb;rw[pS]at e;cases e;exact new
 .rw[pL hb]at e;exact(x b u e).m7 (λc v _ q=>k c v q) (λc q=>by rw[pL (qD q hn)];exact q) λc xs q=>by rw[pL (qD q hn)];exact q
end
def Rd(H:Hp)(a:Addr)(u:HO):Prop:=H a=some u\/∃o,H a=some (.frz o u)
def Rd.ok{P:Pg}{w:Wo}{H:Hp}{h:Heap}{a:Addr}{u:HO}(r:Rd H a u)(x:x9 P w H h):rP P w H h a u:=by
 rcases r with r|⟨o,r⟩
 .exact x a u r
 .obtain⟨_,q⟩:=x a _ r;exact q
def Uk:Option HO->Prop
 | some (.lst _)=>True
 | some (.dK _)=>True
 | some (.dT _)=>True
 | some (.set _ _)=>True
 | some (.ins _ _ _)=>True
 | some (.ext _)=>True
 | _=>False
variable {o':HO}
section
variable {P:Pg}{w:Wo}{x e:Addr}
def x9.write(ok:x9 P w H h)(mu:Uk (H x))(he:e=x\/H e=some (.own x))(k:∀b u,b≠e->h.get? b=some u->h'.get? b=some u)(heo:∃u,h'.get? e=some u) (new:rP P w (upd H x o') h' x o'):x9 P w (upd H x o') h':=λb u q=>by
 have nown:∀c y,H c=some (.own y)->c≠x:=λc y r z=>by subst z;rw[r]at mu;exact mu
 have ntup:∀c xs,H c=some (.tup xs)->c≠x:=λc xs r z=>by subst z;rw[r]at mu;exact mu
 by_cases hb:b=x
 .subst hb;rw[pS]at q;cases q;exact new
 .rw[pL hb]at q;by_cases hbe:b=e
  .have q':H b=some (.own x):=by
    rcases he with z|z
    .exact absurd (hbe.trans z) hb
    .rw[hbe];exact z
   rw[q]at q';cases q';obtain⟨v,hv⟩:=heo;exact⟨v,by rw[hbe];exact hv⟩
  .refine(ok b u q).m7 (λc v hc r=>k c v ?_ r) (λc r=>by rw[pL (nown c b r)];exact r) λc xs r=>by rw[pL (ntup c xs r)];exact r
   rcases hc with rfl|hc
   .exact hbe
   .rintro rfl
    rcases he with z|z
    .exact nown c b hc z
    .rw[hc]at z;cases z;exact hb rfl
end
structure Un(fs ex:List Addr)(H H':Hp)(h h':Heap):Prop where
 keep:∀b o,h.get? b=some o->H b=none->b∉fs->b∉ex->h'.get? b=some o
 slot:∀b o,h.get? b=some o->H b=none->b∈fs->b∉ex->∃sl,h'.get? b=some {o with slots:=sl}
 free:∀b o,h.get? b=some o->H b=none->b∉ex->H' b=none
 there:∀b o,h.get? b=some o->b∉ex->∃o',h'.get? b=some o'
 mZ:∀b xs,H b=some (.tup xs)->H' b=some (.tup xs)
 mY:∀b o u,H b=some (.frz o u)->H' b=some (.frz o u)
 nq:∀b ps,H b=some (.tbl ps)->∃more,H' b=some (.tbl (ps++more))
variable {ex ex':List Addr}{H1 H2:Hp}{h1 h2:Heap}
section
variable {fs fs':List Addr}{a x e:Addr}{o:HO}
def Un.any(u:Un fs ex H H1 h h1){b:Addr}{ob:Obj}(q:h.get? b=some ob)(n:H b=none)(hx:b∉ex):∃sl,h1.get? b=some {ob with slots:=sl}:=by
 by_cases hb:b∈fs
 .exact u.slot b ob q n hb hx
 .exact⟨ob.slots,u.keep b ob q n hb hx⟩
def Un.trans(a:Un fs ex H H1 h h1)(b:Un fs ex H1 H2 h1 h2):Un fs ex H H2 h h2 where
 keep:=λc ob q n hc hx=>b.keep c ob (a.keep c ob q n hc hx) (a.free c ob q n hx) hc hx
 slot:=λc ob q n hc hx=>by obtain⟨sl,e1⟩:=a.slot c ob q n hc hx;obtain⟨XJ,e2⟩:=b.slot c _ e1 (a.free c ob q n hx) hc hx;exact⟨XJ,e2⟩
 free:=λc ob q n hx=>by obtain⟨o',e1⟩:=a.there c ob q hx;exact b.free c o' e1 (a.free c ob q n hx) hx
 there:=λc ob q hx=>by obtain⟨o',e1⟩:=a.there c ob q hx;exact b.there c o' e1 hx
 mZ:=λc xs q=>b.mZ c xs (a.mZ c xs q)
 mY:=λc ob xs q=>b.mY c ob xs (a.mY c ob xs q)
 nq:=λc ps q=>by obtain⟨m1,e1⟩:=a.nq c ps q;obtain⟨m2,e2⟩:=b.nq c _ e1;exact⟨m1++m2,by rw[e2,kC]⟩
def Un.kept(k:∀b u,h.get? b=some u->h'.get? b=some u):Un fs ex H H h h':=
 ⟨λb ob q _ _ _=>k b ob q,λb ob q _ _ _=>⟨ob.slots,k b ob q⟩,λ_ _ _ n _=>n,λb ob q _=>⟨ob,k b ob q⟩,λ_ _ q=>q,λ_ _ _ q=>q,λ_ ps q=>⟨#[],by rw[q];simp⟩⟩
def Un.refl:Un fs ex H H h h:=Un.kept λ_ _ q=>q
def Un.laid(k:∀b u,h.get? b=some u->h'.get? b=some u)(hp:h.objs.size<=a)(hn:H a=none):Un fs ex H (upd H a o) h h' where
 keep:=λb u q _ _ _=>k b u q
 slot:=λb u q _ _ _=>⟨u.slots,k b u q⟩
 free:=λb u q n _=>by rw[pL (dG (dH (dv q) hp))];exact n
 there:=λb u q _=>⟨u,k b u q⟩
 mZ:=λb xs q=>by rw[pL (qD q hn)];exact q
 mY:=λb u xs q=>by rw[pL (qD q hn)];exact q
 nq:=λb ps q=>⟨#[],by rw[pL (qD q hn),q];simp⟩
def Un.write(mu:Uk (H x))(he:e=x\/H e=some (.own x))(k:∀b u,b≠e->h.get? b=some u->h'.get? b=some u)(heo:∃u,h'.get? e=some u):Un fs ex H (upd H x o) h h':=by
 have hx:∀b,H b=none->b≠x:=λb n z=>by subst z;rw[n]at mu;exact mu
 have hb:∀b,H b=none->b≠e:=λb n z=>by
  subst z;rcases he with r|r
  .exact hx b n r
  .rw[n]at r;cases r
 have hm:∀b u,H b=some u->¬Uk (some u)->b≠x:=λb u q nm z=>by subst z;rw[q]at mu;exact nm mu
 refine⟨λb u q n _ _=>k b u (hb b n) q,λb u q n _ _=>⟨u.slots,k b u (hb b n) q⟩,λb u q n _=>by rw[pL (hx b n)];exact n,λb u q _=>?_,λb xs q=>by rw[pL (hm b _ q λz=>z)];exact q,λb u xs q=>by rw[pL (hm b _ q λz=>z)];exact q,λb ps q=>⟨#[],by rw[pL (hm b _ q λz=>z),q];simp⟩⟩
 by_cases hbe:b=e
 .subst hbe;exact heo
 .exact⟨u,k b u hbe q⟩
end
def Uv(h:Heap)(H:Hp):List Addr:=(List.range h.objs.size).filter λa=>(H a).isSome
def En(h:Heap)(H:Hp):Heap:=W.hideAll h (Uv h H)
def JB(h:Heap)(H:Hp):(En h H).objs.size=h.objs.size:=W.hideAll_size _ _
def Ki{h:Heap}{H:Hp}{b:Addr}{o:Obj}(e:h.get? b=some o)(n:H b=none):(En h H).get? b=some o:=
 W.hideAll_get _ e λhm=>by have q:(H b).isSome=true:=(fG.mp hm).2;rw[n]at q;simp at q
def Pa{h:Heap}{H:Hp}{b:Addr}{o:Obj}(e:(En h H).get? b=some o):h.get? b=some o/\H b=none:=by
 have e':h.get? b=some o:=W.of_hideAll (Uv h H) e;refine⟨e',?_⟩;cases q:H b with
 | none=>rfl
 | some x=>have hm:b∈Uv h H:=fG.mpr ⟨gk.mpr (dv e'),by simp[q]⟩;have z:(En h H).get? b=none:=W.hideAll_none (Uv h H) hm;rw[z]at e;cases e
structure Mod(K:pY)(mg:Str->Option Vl)(base:Heap):Prop where
 oh:K.In base
 glob:base.Ns mainGlobals mg
 blt:∃mb,base.Ns builtinsNs mb/\∀x:Str,x≠"__name__"->mb x=bootBuiltins x
 nolimit:base.NoLimit
structure Cx where
 prog:Pg
 w:Wo
 K:pY
 mg:Str->Option Vl
 base:Heap
 A:Ar
 N:List Str
 s₀:Sd
 H₀:Hp
 env:Env
 outer:List Env
 stack:List Env
 ex:List Addr
 fn:Str->Bool
 calm:Bool
 pn:List (Addr×Obj)
 xe:Vl->Sd->Prop
abbrev AV(X:Cx)(e:Expr)(es:List Expr):Prop:=starEach (e::es) X.env=(false,eval e X.env)::starEach es X.env
abbrev Cd(X:Cx)(p:Pos)(es:List Expr):Prop:=(backTo p (starEach es X.env)).any (·.1)=false
abbrev yk(x:Str):Prop:=(x==("__debug__":Str))=false
abbrev Kf(X:Cx)(x:Str):Prop:=X.fn x=true\/X.env.scope.names.lookup x=some .local
def vJ(l:List Env):List Addr:=l.filterMap (·.frame)
abbrev Cx.fs(X:Cx):List Addr:=vJ X.outer
def Ru(sc:Scope)(x:Str):Prop:=sc.names.lookup x=some .local\/sc.names.lookup x=some .cell\/sc.names.lookup x=some .free
def Kd(sc:Scope)(x:Str):Prop:=sc.names.lookup x=some .local\/sc.names.lookup x=some .cell
def TB(env:Env)(h:Heap)(m:Str->Option Vl)(x:Str)(u:Vl):Prop:=
 (env.kindOf x=some .local/\m x=some u)\/((env.kindOf x=some .cell\/env.kindOf x=some .free)/\∃c,env.cells.lookup x=some c/\h.IsCell c (some u))
structure Cx.Ok(X:Cx):Prop where
 mod:Mod X.K X.mg X.base
 kind:X.env.scope.kind=.function
 glob:X.env.globals=mainGlobals
 blt:X.env.builtins=builtinsNs
 above:X.s₀.heap.objs.size<=X.env.locals
 inj:∀x y c,X.env.cells.lookup x=some c->X.env.cells.lookup y=some c->x=y
 has:∀x,(X.env.kindOf x=some .cell\/X.env.kindOf x=some .free)->∃c,X.env.cells.lookup x=some c
 om:∀x c,X.fn x=true->X.env.cells.lookup x=some c->X.s₀.heap.objs.size<=c
 hd:X.calm=true->X.A.handled=none
 frames:X.A.frames=some X.stack
 oq:X.stack=X.outer\/(X.stack=X.env::X.outer/\X.env.frame=some X.env.locals)
 oK:∀b∈X.ex,b≠X.env.locals/\∀x c,X.env.cells.lookup x=some c->c≠b
 bs:∀b o,X.base.get? b=some o->X.s₀.heap.get? b=some o/\X.H₀ b=none
 nO:X.base.objs.size<=X.s₀.heap.objs.size
 nF:∀b o,X.base.get? b=some o->b∉X.ex
 nJ:∀b∈X.ex,b∉X.fs
 m8:X.s₀.heap.FunFrames X.base X.outer
 nU:∀b∈X.fs,X.H₀ b=none
structure Inv(X:Cx)(Wk:List (Addr×Obj))(σ:List (Option V))(H:Hp)(s:Sd):Prop where
 ok:X.Ok
 os:s.os=X.s₀.os
 bare:AllBare s.gens
 base:Un X.fs X.ex X.H₀ H X.s₀.heap s.heap
 loc:∃m,s.heap.Ns X.env.locals m/\∀(i:Nat) (x:Str) (v:V),X.N[i]?=some x->σ[i]?=some (some v)->Ru X.env.scope x->∃u,qy v u/\TB X.env s.heap m x u
 cell:∀x c,X.env.cells.lookup x=some c->∃v,s.heap.IsCell c v
 free:H X.env.locals=none
 mM:∀x c,X.env.cells.lookup x=some c->H c=none
 pin:∀p∈X.pn++Wk,s.heap.get? p.1=some p.2/\H p.1=none/\p.1≠X.env.locals/\p.1∉X.fs/\∀v,p.2.data≠.cell v
 mG:x9 X.prog X.w H s.heap
 len:σ.length=X.N.length
variable {X:Cx}{Wk:List (Addr × Obj)}{s:Sd}
section
variable {σ:List (Option V)}
def Cx.Ok.nofr(ok:X.Ok){b:Addr}{o:Obj}(e:X.base.get? b=some o):b∉X.fs:=λhb=>by have:=(ok.m8.mem hb).1;rw[e]at this;cases this
def Inv.bs(I:Inv X Wk σ H s):∀b o,X.base.get? b=some o->s.heap.get? b=some o/\H b=none:=λb o e=>⟨I.base.keep b o (I.ok.bs b o e).1 (I.ok.bs b o e).2 (I.ok.nofr e) (I.ok.nF b o e),I.base.free b o (I.ok.bs b o e).1 (I.ok.bs b o e).2 (I.ok.nF b o e)⟩
def Inv.bk(I:Inv X Wk σ H s):∀b o,X.base.get? b=some o->s.heap.get? b=some o:=λb o e=>(I.bs b o e).1
def Inv.mod(I:Inv X Wk σ H s):Mod X.K X.mg X.base:=I.ok.mod
def Inv.mQ(I:Inv X Wk σ H s):X.K.In s.heap:=I.ok.mod.oh.keeps I.bk
def Inv.lt(I:Inv X Wk σ H s):X.env.locals<s.heap.objs.size:=let⟨_,hn,_⟩:=I.loc;hn.lt
def Inv.sz(I:Inv X Wk σ H s):X.s₀.heap.objs.size<=s.heap.objs.size:=dY I.ok.above (kD I.lt)
def Inv.oF(I:Inv X Wk σ H s){a:Addr}(h:s.heap.objs.size<=a):a∉X.fs:=λhb=>by obtain⟨_,o,ho,_⟩:=I.ok.m8.mem hb;exact absurd (dH (dv ho) (dY I.sz h)) (e9 _)
def Inv.oM(I:Inv X Wk σ H s):∀x c,X.env.cells.lookup x=some c->c≠X.env.locals:=λx c e z=>by obtain⟨v,o,ho,hd⟩:=I.cell x c e;obtain⟨m,⟨o',es,ep,WZ,hd',_⟩,_⟩:=I.loc;rw[z,WZ]at ho;cases ho;rw[hd']at hd;cases hd
def Inv.m8(I:Inv X Wk σ H s):s.heap.FunFrames X.base X.outer:=by
 have all:∀(l:List Env),(∀b∈vJ l,b∈X.fs)->X.s₀.heap.FunFrames X.base l->s.heap.FunFrames X.base l:=by
  intro l;induction l with
  | nil=>intro _ _;trivial
  | cons env r ih=>intro hs hl;obtain⟨hk,⟨L,o,hf,hn,ho,hd⟩,hr⟩:=hl;have hL:L∈X.fs:=hs L (by unfold vJ;rw[fU,hf];exact dN);obtain⟨sl,e⟩:=I.base.slot L o ho (I.ok.nU L hL) hL λz=>I.ok.nJ L z hL;exact⟨hk,⟨L,_,hf,hn,e,hd⟩,ih (λb hb=>hs b (by unfold vJ;rw[fU,hf];exact dC _ hb)) hr⟩
 exact all X.outer (λ_ hb=>hb) I.ok.m8
def Inv.stack(I:Inv X Wk σ H s):s.heap.FunFrames X.base X.stack:=by
 rcases I.ok.oq with e|⟨e,hf⟩
 .rw[e];exact I.m8
 .rw[e];obtain⟨m,hn,_⟩:=I.loc;refine .cons (by rw[I.ok.kind];decide) hf hn ?_ I.m8;exact gC (dY I.ok.nO I.ok.above)
def Inv.ni(I:Inv X Wk σ H s):∀b∈vJ X.stack,b∈X.env.locals::X.fs:=λb hb=>by
 rcases I.ok.oq with e|⟨e,hf⟩
 .rw[e]at hb;exact dC _ hb
 .rw[e]at hb;unfold vJ at hb;rw[fU,hf]at hb;exact hb
def Inv.nu(I:Inv X Wk σ H s):∀b∈vJ X.stack,H b=none:=λb hb=>by
 rcases df.mp (I.ni b hb)with e|hb
 .rw[e];exact I.free
 .obtain⟨_,o,ho,_⟩:=I.ok.m8.mem hb;exact I.base.free b o ho (I.ok.nU b hb) λz=>I.ok.nJ b z hb
def Inv.step{g':Array GenState}{t':Nat}{d':Drawn}{ch:List Addr}(I:Inv X Wk σ H s) (Xg:∀b∈ch,(b∈X.ex\/X.s₀.heap.objs.size<=b)/\b≠X.env.locals/\(∀x c,X.env.cells.lookup x=some c->c≠b)/\∀p∈X.pn++Wk,p.1≠b) (keep:∀b o,b≠X.env.locals->b∉X.fs->b∉ch->s.heap.get? b=some o->H b=none->h'.get? b=some o) (slot:∀b o,b≠X.env.locals->b∈X.fs->b∉ch->s.heap.get? b=some o->H b=none->∃sl,h'.get? b=some {o with slots:=sl}) (free:∀b o,b∉ch->s.heap.get? b=some o->H b=none->H' b=none)
  (there:∀b o,b∉ch->s.heap.get? b=some o->∃o',h'.get? b=some o')
  (mZ:∀b xs,H b=some (.tup xs)->H' b=some (.tup xs)) (mY:∀b o u,H b=some (.frz o u)->H' b=some (.frz o u)) (nq:∀b ps,H b=some (.tbl ps)->∃more,H' b=some (.tbl (ps++more)))
  (ns:∀m,s.heap.Ns X.env.locals m->h'.Ns X.env.locals m) (mG:x9 X.prog X.w H' h') (hg:AllBare g'):
  Inv X Wk σ H' {s with heap:=h',gens:=g',drawn:=d',toks:=t'}:=by
 have neL:∀b o,X.s₀.heap.get? b=some o->b≠X.env.locals:=λb o e=>dG (dH (dv e) I.ok.above);have neC:∀b o,X.s₀.heap.get? b=some o->b∉X.ex->b∉ch:=λb o e hx hb=>by
  rcases(Xg b hb).1 with z|z
  .exact hx z
  .exact absurd (dH (dv e) z) (e9 _)
 have YM:∀x c,X.env.cells.lookup x=some c->∀v,s.heap.IsCell c v->h'.IsCell c v:=λx c e v ⟨o,ho,hd⟩=>by
  have nch:c∉ch:=λz=>(Xg c z).2.2.1 x c e rfl;by_cases hc:c∈X.fs
  .obtain⟨sl,q⟩:=slot c o (I.oM x c e) hc nch ho (I.mM x c e);exact⟨_,q,hd⟩
  .exact⟨o,keep c o (I.oM x c e) hc nch ho (I.mM x c e),hd⟩
 refine⟨I.ok,I.os,hg,⟨λb o e n hb hx=>?_,λb o e n hb hx=>?_,λb o e n hx=>?_,λb o e hx=>?_,λb xs e=>mZ b xs (I.base.mZ b xs e),λb o xs e=>mY b o xs (I.base.mY b o xs e),λb ps e=>?_⟩,?_,λx c e=>?_,?_,λx c e=>?_,λp hp=>?_,mG,I.len⟩
 .exact keep b o (neL b o e) hb (neC b o e hx) (I.base.keep b o e n hb hx) (I.base.free b o e n hx)
 .obtain⟨sl,e1⟩:=I.base.slot b o e n hb hx;obtain⟨XJ,e2⟩:=slot b _ (neL b o e) hb (neC b o e hx) e1 (I.base.free b o e n hx);exact⟨XJ,e2⟩
 .obtain⟨o',e1⟩:=I.base.there b o e hx;exact free b o' (neC b o e hx) e1 (I.base.free b o e n hx)
 .obtain⟨o',e1⟩:=I.base.there b o e hx;exact there b o' (neC b o e hx) e1
 .obtain⟨m1,e1⟩:=I.base.nq b ps e;obtain⟨m2,e2⟩:=nq b _ e1;exact⟨m1++m2,by rw[e2,kC]⟩
 .obtain⟨m,hn,hl⟩:=I.loc;refine⟨m,ns m hn,λi x v e1 e2 e3=>?_⟩;obtain⟨u,r,l⟩:=hl i x v e1 e2 e3;refine⟨u,r,?_⟩;rcases l with l|⟨k,c,e,z⟩
  .exact .inl l
  .exact .inr ⟨k,c,e,YM x c e _ z⟩
 .obtain⟨v,z⟩:=I.cell x c e;exact⟨v,YM x c e v z⟩
 .obtain⟨m,⟨o,_,_,ho,_⟩,_⟩:=I.loc;exact free _ o (λz=>(Xg _ z).2.1 rfl) ho I.free
 .obtain⟨v,o,ho,hd⟩:=I.cell x c e;exact free c o (λz=>(Xg c z).2.2.1 x c e rfl) ho (I.mM x c e)
 .obtain⟨e,n,ne,nf,d⟩:=I.pin p hp;have nch:p.1∉ch:=λz=>(Xg p.1 z).2.2.2 p hp rfl;exact⟨keep p.1 p.2 ne nf nch e n,free p.1 p.2 nch e n,ne,nf,d⟩
def Inv.un{t':Nat}(I:Inv X Wk σ H s)(u:Un X.fs [] H H' s.heap h')(mG:x9 X.prog X.w H' h'):Inv X Wk σ H' {s with heap:=h',toks:=t'}:=by
 obtain⟨m,⟨o,es,ep,ho,r⟩,_⟩:=id I.loc;obtain⟨sl,hL⟩:=u.any ho I.free (by simp);exact I.step (g':=s.gens) (d':=s.drawn) (ch:=[]) (λ_ z=>nomatch z) (λb o _ hb _ e n=>u.keep b o e n hb (by simp)) (λb o _ hb _ e n=>u.slot b o e n hb (by simp)) (λb o _ e n=>u.free b o e n (by simp)) (λb o _ e=>u.there b o e (by simp)) u.mZ u.mY u.nq (λm' hm=>by
  obtain⟨o',es',ep',WZ,r'⟩:=hm;rw[ho]at WZ;cases WZ;exact⟨_,es',ep',hL,r'⟩) mG I.bare
def Inv.call{g':Array GenState}{t':Nat}{d':Drawn}{ch:List Addr}(I:Inv X Wk σ H s)(u:Un (vJ X.stack) ch H H' s.heap h')(mG:x9 X.prog X.w H' h')(hg:AllBare g') (Xg:∀b∈ch,(b∈X.ex\/X.s₀.heap.objs.size<=b)/\b≠X.env.locals/\(∀x c,X.env.cells.lookup x=some c->c≠b)/\∀p∈X.pn++Wk,p.1≠b):
  Inv X Wk σ H' {s with heap:=h',gens:=g',drawn:=d',toks:=t'}:=by
 obtain⟨m,⟨o,es,ep,ho,r⟩,_⟩:=id I.loc;obtain⟨sl,hL⟩:=u.any ho I.free λz=>(Xg _ z).2.1 rfl;exact I.step (ch:=ch) Xg (λb o hL hb hc e n=>u.keep b o e n (λz=>(df.mp (I.ni b z)).elim hL hb) hc) (λb o _ _ hc e n=>u.any e n hc) (λb o hc e n=>u.free b o e n hc) (λb o hc e=>u.there b o e hc) u.mZ u.mY u.nq (λm' hm=>by
  obtain⟨o',es',ep',WZ,r'⟩:=hm;rw[ho]at WZ;cases WZ;exact⟨_,es',ep',hL,r'⟩) mG hg
def Inv.turned{t':Nat}{it:Addr}(I:Inv X Wk σ H s)(k:∀b o,b≠it->s.heap.get? b=some o->h'.get? b=some o)(hn:H it=none)(hL:it≠X.env.locals) (h1:it∈X.ex\/X.s₀.heap.objs.size<=it) (h2:∀x c,X.env.cells.lookup x=some c->c≠it) (h3:∀p∈X.pn++Wk,p.1≠it):Inv X Wk σ H {s with heap:=h',toks:=t'}:=by
 have nit:∀b u,H b=some u->b≠it:=λb u e z=>by rw[z,hn]at e;cases e
 refine I.step (g':=s.gens) (d':=s.drawn) (ch:=[it]) (λb hb=>?_) (λb o _ _ hc e _=>k b o (λz=>hc (by simp[z])) e) (λb o _ _ hc e _=>⟨o.slots,k b o (λz=>hc (by simp[z])) e⟩) (λ_ _ _ _ n=>n)
  (λb o hc e=>⟨o,k b o (λz=>hc (by simp[z])) e⟩) (λ_ _ e=>e) (λ_ _ _ e=>e) (λb ps e=>⟨#[],by rw[e];simp⟩) (λm hm=>?_) (λb u e=>?_) I.bare
 .have e:b=it:=by simpa using hb
  subst e;exact⟨h1,hL,h2,h3⟩
 .obtain⟨o,es,ep,ho,r⟩:=hm;exact⟨o,es,ep,k _ o (dJ hL) ho,r⟩
 .refine(I.mG b u e).m7 (λc v hc q=>k c v ?_ q) (λ_ q=>q) λ_ _ q=>q;rcases hc with z|z
  .rw[z];exact nit b u e
  .exact nit c _ z
def Inv.tok(I:Inv X Wk σ H s)(t:Nat):Inv X Wk σ H {s with toks:=t}:=I.un (h':=s.heap) (t':=t) Un.refl I.mG
def Inv.kept{t':Nat}(I:Inv X Wk σ H s)(k:∀b u,s.heap.get? b=some u->h'.get? b=some u):Inv X Wk σ H {s with heap:=h',toks:=t'}:=I.un (Un.kept k) (I.mG.kept k)
def Inv.laid{a:Addr}{o:HO}{t':Nat}(I:Inv X Wk σ H s)(k:∀b u,s.heap.get? b=some u->h'.get? b=some u)(hp:s.heap.objs.size<=a)(new:rP X.prog X.w (upd H a o) h' a o):
  Inv X Wk σ (upd H a o) {s with heap:=h',toks:=t'}:=I.un (Un.laid k hp (I.mG.fresh hp)) (I.mG.laid k hp new)
def Inv.write{x e:Addr}{o:HO}{t':Nat}(I:Inv X Wk σ H s)(mu:Uk (H x))(he:e=x\/H e=some (.own x))(k:∀b u,b≠e->s.heap.get? b=some u->h'.get? b=some u)(heo:∃u,h'.get? e=some u) (new:rP X.prog X.w (upd H x o) h' x o):Inv X Wk σ (upd H x o) {s with heap:=h',toks:=t'}:=I.un (Un.write mu he k heo) (I.mG.write mu he k heo new)
def Inv.nC{Xh:List (Addr×Obj)}(I:Inv X Wk σ H s)(h:∀p∈Xh,s.heap.get? p.1=some p.2/\H p.1=none/\p.1≠X.env.locals/\p.1∉X.fs/\∀v,p.2.data≠.cell v):Inv X Xh σ H s:=
 ⟨I.ok,I.os,I.bare,I.base,I.loc,I.cell,I.free,I.mM,λp hp=>(dW.mp hp).elim (λz=>I.pin p (fg _ z)) (h p),I.mG,I.len⟩
def A6{N:List Str}(hN:N.Nodup){i j:Nat}{x:Str}(a:N[i]?=some x)(b:N[j]?=some x):i=j:=by obtain⟨h1,e1⟩:=cV.mp a;obtain⟨h2,e2⟩:=cV.mp b;exact(lz hN).mp (e1.trans e2.symm)
def Dx{M:Model}{A:Ar}{E:Vl->Sd->Prop}{i:Nat}{x:Str}{v:V}{u:Vl}{Q:Unit->Sd->Prop}(I:Inv X Wk σ H s)(hN:X.N.Nodup)(hi:X.N[i]?=some x)(hx:Kd X.env.scope x)(r:qy v u) (h:∀s',Inv X Wk (σ.set i (some v)) H s'->(∃a,Heap.SameBut a s.heap s'.heap/\(a=X.env.locals\/X.env.cells.lookup x=some a))->Q () s') (hf:Kf X x:=by first|exact .inl rfl|exact .inr rfl|assumption):wpAny M A (storeName X.env x u) Q E s:=by
 obtain⟨m,hn,hl⟩:=id I.loc;have Y5:(X.env.scope.kind==.class||(X.env.scope.kind==.module&&X.env.locals != X.env.globals))=false:=by rw[I.ok.kind];rfl
 have hiσ:i<σ.length:=by rw[I.len];exact(cV.mp hi).1
 have oM:=I.oM;have Wz:∀{a:Addr} {h':Heap},(∃o,s.heap.get? a=some o/\H a=none)->Heap.SameBut a s.heap h'->x9 X.prog X.w H h':=λ{a h'} ha hs b ob e=>by
  obtain⟨_,_,W6⟩:=ha;refine(I.mG b ob e).m7 (λc w' hc q=>(hs.2 c ?_).trans q) (λ_ q=>q) λ_ _ q=>q
  rintro rfl
  rcases hc with rfl|hc
  .rw[W6]at e;cases e
  .rw[W6]at hc;cases hc
 rcases hx with hk|hk
 .refine wpAny_storeName_local hk hn (λh' XU hs=>?_) Y5;obtain⟨oL,_,_,hoL,_⟩:=id hn;refine h _ ⟨I.ok,I.os,I.bare,⟨λb o e n hb hx=>?_,λb o e n hb hx=>?_,I.base.free,λb o e hx=>?_,I.base.mZ,I.base.mY,I.base.nq⟩,⟨_,XU,λj y v' e1 e2 e3=>?_⟩,λy c e=>?_,I.free,I.mM,λp hp=>?_,Wz ⟨oL,hoL,I.free⟩ hs,by simpa using I.len⟩ ⟨_,hs,.inl rfl⟩
  .exact(hs.2 b (dG (dH (dv e) I.ok.above))).trans (I.base.keep b o e n hb hx)
  .obtain⟨sl,e1⟩:=I.base.slot b o e n hb hx;exact⟨sl,(hs.2 b (dG (dH (dv e) I.ok.above))).trans e1⟩
  .obtain⟨o',e1⟩:=I.base.there b o e hx;exact⟨o',(hs.2 b (dG (dH (dv e) I.ok.above))).trans e1⟩
  .by_cases hj:j=i
   .subst hj;rw[hi]at e1;cases e1;rw[eJ hiσ]at e2;cases e2;exact⟨u,r,.inl ⟨hk,by simp⟩⟩
   .rw[eP (dJ hj)]at e2;obtain⟨u',r',q⟩:=hl j y v' e1 e2 e3;refine⟨u',r',?_⟩;rcases q with⟨k,e⟩|⟨k,c,e,z⟩
    .refine .inl ⟨k,?_⟩;have:y≠x:=λe=>hj (A6 hN e1 (e ▸ hi));simp[this,e]
    .exact .inr ⟨k,c,e,z.sameBut hs (oM y c e)⟩
  .obtain⟨w',z⟩:=I.cell y c e;exact⟨w',z.sameBut hs (oM y c e)⟩
  .obtain⟨e,n,ne,nf,d⟩:=I.pin p hp;exact⟨(hs.2 p.1 ne).trans e,n,ne,nf,d⟩
 .have hfn:X.fn x=true:=by
   rcases hf with z|z
   .exact z
   .rw[z]at hk;cases hk
  obtain⟨c,hc⟩:=I.ok.has x (.inl hk);obtain⟨w',z⟩:=I.cell x c hc;refine wpAny_storeName_cell I.ok.kind hk hc z (λh' hc' hs=>?_);obtain⟨oc,hoc,hocd⟩:=id z;refine h {s with heap:=h'} ⟨I.ok,I.os,I.bare,⟨λb o e n hb hx=>?_,λb o e n hb hx=>?_,I.base.free,λb o e hx=>?_,I.base.mZ,I.base.mY,I.base.nq⟩,⟨m,hn.sameBut hs (dJ (oM x c hc)),λj y v' e1 e2 e3=>?_⟩,λy c' e=>?_,I.free,I.mM,λp hp=>?_,Wz ⟨oc,hoc,I.mM x c hc⟩ hs,by simpa using I.len⟩ ⟨c,hs,.inr hc⟩
  .exact(hs.2 b (dG (dH (dv e) (I.ok.om x c hfn hc)))).trans (I.base.keep b o e n hb hx)
  .obtain⟨sl,e1⟩:=I.base.slot b o e n hb hx;exact⟨sl,(hs.2 b (dG (dH (dv e) (I.ok.om x c hfn hc)))).trans e1⟩
  .obtain⟨o',e1⟩:=I.base.there b o e hx;exact⟨o',(hs.2 b (dG (dH (dv e) (I.ok.om x c hfn hc)))).trans e1⟩
  .by_cases hj:j=i
   .subst hj;rw[hi]at e1;cases e1;rw[eJ hiσ]at e2;cases e2;exact⟨u,r,.inr ⟨.inl hk,c,hc,hc'⟩⟩
   .rw[eP (dJ hj)]at e2;obtain⟨u',r',q⟩:=hl j y v' e1 e2 e3;refine⟨u',r',?_⟩;rcases q with q|⟨k,c',e,z'⟩
    .exact .inl q
    .refine .inr ⟨k,c',e,z'.sameBut hs ?_⟩
     rintro rfl
     exact hj (A6 hN e1 (I.ok.inj _ _ _ e hc ▸ hi))
  .by_cases YN:c'=c
   .subst YN;exact⟨_,hc'⟩
   .obtain⟨w2,z2⟩:=I.cell y c' e;exact⟨w2,z2.sameBut hs YN⟩
  .obtain⟨e,n,ne,nf,d⟩:=I.pin p hp;refine⟨(hs.2 p.1 ?_).trans e,n,ne,nf,d⟩;intro q;rw[q,hoc]at e;have q':oc=p.2:=dh e;exact d w' (by rw[<-q'];exact hocd)
def xp{M:Model}{A:Ar}{E:Vl->Sd->Prop}{i:Nat}{x:Str}{v:V}{u:Vl}{Q:Unit->Sd->Prop}(I:Inv X Wk σ H s)(hN:X.N.Nodup)(hi:X.N[i]?=some x)(hx:Kd X.env.scope x)(r:qy v u) (h:∀s',Inv X Wk (σ.set i (some v)) H s'->Q () s') (hf:Kf X x:=by first|exact .inl rfl|exact .inr rfl|assumption):wpAny M A (storeName X.env x u) Q E s:=
 Dx I hN hi hx r (λs' I' _=>h s' I') hf
def Inv.oG{s':Sd}{ch:List Addr}(I:Inv X Wk σ H s)(ho:s'.os=s.os)(u:Un (vJ X.stack) ch H H' s.heap s'.heap)(mG:x9 X.prog X.w H' s'.heap)(hg:AllBare s'.gens) (Xg:∀b∈ch,(b∈X.ex\/X.s₀.heap.objs.size<=b)/\b≠X.env.locals/\(∀x c,X.env.cells.lookup x=some c->c≠b)/\∀p∈X.pn++Wk,p.1≠b):Inv X Wk σ H' s':=by
 obtain⟨h',g',d',t',o'⟩:=s';have e:o'=s.os:=ho;subst e;exact I.call (g':=g') (t':=t') (d':=d') u mG hg Xg
end
abbrev XK:=Vl->Option Addr->Hp->Prop
abbrev St:=List (Option V)
abbrev VK:=V->Hp->Prop
abbrev TE:=St->Hp->VK->Prop
abbrev TT:=St->Hp->(Bool->Hp->Prop)->Prop
abbrev TA:=St->Hp->(List V->Hp->Prop)->Prop
structure Ek where
 nx:St->Hp->Prop
 rt:VK
 bk:St->Hp->Prop:=λ_ _=>False
 ct:St->Hp->Prop:=λ_ _=>False
abbrev TS:=Ek->St->Hp->Prop
def EP(X:Cx)(Wk:List (Addr×Obj))(σ:St)(Q:VK)(u:Vl)(s':Sd):Prop:=∃v H',Inv X Wk σ H' s'/\qy v u/\Q v H'
def TP(X:Cx)(Wk:List (Addr×Obj))(σ:St)(Q:Bool->Hp->Prop)(b:Bool)(s':Sd):Prop:=∃H',Inv X Wk σ H' s'/\Q b H'
def AP(X:Cx)(Wk:List (Addr×Obj))(σ:St)(Q:List V->Hp->Prop)(us:List Vl)(s':Sd):Prop:=∃vs H',Inv X Wk σ H' s'/\qo vs us/\Q vs H'
def SP(X:Cx)(Wk:List (Addr×Obj))(D:Ek)(f:Flow)(s':Sd):Prop:=
 match f with
 | .next=>∃σ' H',Inv X Wk σ' H' s'/\D.nx σ' H'
 | .brk=>∃σ' H',Inv X Wk σ' H' s'/\D.bk σ' H'
 | .cont=>∃σ' H',Inv X Wk σ' H' s'/\D.ct σ' H'
 | .ret u=>∃v σ' H',Inv X Wk σ' H' s'/\qy v u/\D.rt v H'
def PE(X:Cx)(e:Expr)(t:TE):Prop:=
 ∀(Wk:List (Addr×Obj)) (s:Sd) (σ:St) (H:Hp) (Q:VK),Inv X Wk σ H s->t σ H Q->wpAny (model X.prog X.w) X.A (eval e X.env) (EP X Wk σ Q) X.xe s
def PT(X:Cx)(e:Expr)(t:TT):Prop:=
 ∀(Wk:List (Addr×Obj)) (s:Sd) (σ:St) (H:Hp) (Q:Bool->Hp->Prop),Inv X Wk σ H s->t σ H Q->wpAny (model X.prog X.w) X.A (isTrue e X.env (eval e X.env)) (TP X Wk σ Q) X.xe s
def PW(X:Cx)(e:Expr)(t:TT):Prop:=
 ∀(WS:Sem Vl) (Wk:List (Addr×Obj)) (s:Sd) (σ:St) (H:Hp) (Q:Bool->Hp->Prop),Inv X Wk σ H s->t σ H Q->wpAny (model X.prog X.w) X.A (isTrue e X.env WS) (TP X Wk σ Q) X.xe s
def PW.pt{X:Cx}{e:Expr}{t:TT}(h:PW X e t):PT X e t:=h _
def PA(X:Cx)(es:List Expr)(t:TA):Prop:=
 ∀(pos:Pos) (Wk:List (Addr×Obj)) (s:Sd) (σ:St) (H:Hp) (Q:List V->Hp->Prop),Inv X Wk σ H s->t σ H Q->wpAny (model X.prog X.w) X.A (spliced (backTo pos (starEach es X.env))) (AP X Wk σ Q) X.xe s
def PS(X:Cx)(st:Stmt)(t:TS):Prop:=
 ∀(Wk:List (Addr×Obj)) (s:Sd) (σ:St) (H:Hp) (D:Ek),Inv X Wk σ H s->t D σ H->wpAny (model X.prog X.w) X.A (exec st X.env) (SP X Wk D) X.xe s
def Be(X:Cx)(st:List Stmt)(t:TS):Prop:=
 ∀(Wk:List (Addr×Obj)) (s:Sd) (σ:St) (H:Hp) (D:Ek),Inv X Wk σ H s->t D σ H->wpAny (model X.prog X.w) X.A (execs st X.env) (SP X Wk D) X.xe s
def rV{α:Type}{t:Sem α}{Q Q':α->Sd->Prop}{M:Model}{A:Ar}{E:Vl->Sd->Prop}{s:Sd}(h:wpAny M A t Q E s)(hQ:∀a s,Q a s->Q' a s):wpAny M A t Q' E s:=eA h hQ λ_ _ x=>x
variable {tA tB':TT}{ta tb:TE}{pos:Pos}
section
def E1(i:Nat):TE:=λσ H Q=>∃v,σ[i]?=some (some v)/\Q v H
def tC(v:V):TE:=λ_ H Q=>Q v H
def KF{i:Nat}{x:Str}{pos:Pos}(hN:X.N[i]?=some x)(hv:Ru X.env.scope x)(hd:yk x:=by decide)(Xi:(x==("__classdict__":Str))=false:=by decide):PE X (.Name x pos) (E1 i):=by
 intro Wk s σ H Q I h;obtain⟨v,e,h⟩:=h;obtain⟨m,hn,hl⟩:=I.loc;obtain⟨u,r,l⟩:=hl i x v hN e hv;have Wp:EP X Wk σ Q u s:=⟨v,H,I,r,h⟩;rcases l with⟨hk,hm⟩|⟨hk,c,hc,hcell⟩
 .exact lO (wpAny_loadName_local I.ok.kind hk hn hm Wp) hd
 .rcases hk with hk|hk
  .exact lO (wpAny_loadName_cell I.ok.kind hk hc hcell Wp) hd
  .exact lO (wpAny_loadName_free I.ok.kind hk hc hcell Wp Xi) hd
def Q3{i j pos}:PE X (.Constant (.int i) j pos) (tC (.int i)):=λ_ _ _ H _ I h=>wpAny_Constant_int ⟨.int i,H,I.tok _,⟨_,rfl⟩,h⟩
def TH{b j pos}:PE X (.Constant (.bool b) j pos) (tC (.bl b)):=λ_ _ _ H _ I h=>Constant_bool ⟨.bl b,H,I,rfl,h⟩
def Rm{j pos}:PE X (.Constant .none j pos) (tC .mC):=λ_ _ _ H _ I h=>Constant_none ⟨.mC,H,I,rfl,h⟩
def QC{x j pos}:PE X (.Constant (.str x) j pos) (tC (.str x)):=λ_ _ _ H _ I h=>Calls.Constant_str ⟨.str x,H,I.tok _,⟨_,rfl⟩,h⟩
def Gl(X:Cx)(x:Str):Prop:=X.env.kindOf x=some .globalImplicit
def wB{E:Vl->Sd->Prop}{Wk:List (Addr×Obj)}{s:Sd}{σ:St}{H:Hp}{x:Str}{u:Vl}{pos:Pos}{Q:Vl->Sd->Prop}(I:Inv X Wk σ H s)(hg:Gl X x)(hm:X.mg x=some u)(h:Q u s) (hd:yk x:=by decide):wpAny (model X.prog X.w) X.A (eval (.Name x pos) X.env) Q E s:=
 jh I.ok.kind hg (Calls.loadGlobal_global (by rw[I.ok.glob];exact I.mod.glob.keeps I.bk) hm h) hd
def xc{E:Vl->Sd->Prop}{Wk:List (Addr×Obj)}{s:Sd}{σ:St}{H:Hp}{x:Str}{u:Vl}{pos:Pos}{Q:Vl->Sd->Prop}(I:Inv X Wk σ H s)(hg:Gl X x)(hm:X.mg x=none)(hv:bootBuiltins x=some u)(h:Q u s) (hn:x≠"__name__":=by decide) (hd:yk x:=by decide):wpAny (model X.prog X.w) X.A (eval (.Name x pos) X.env) Q E s:=by
 obtain⟨mb,h1,h2⟩:=I.mod.blt;exact jh I.ok.kind hg (Calls.loadGlobal_builtin (by rw[I.ok.glob];exact I.mod.glob.keeps I.bk) hm (by rw[I.ok.blt];exact h1.keeps I.bk) ((h2 x hn).trans hv) h) hd
def DQ{x:Str}{v:V}{u:Vl}{pos:Pos}(hg:Gl X x)(hm:X.mg x=some u)(r:qy v u)(hd:yk x:=by decide):PE X (.Name x pos) (tC v):=
 λ_ _ _ H _ I h=>wB I hg hm ⟨v,H,I,r,h⟩ hd
def Ou{x:Str}{v:V}{u:Vl}{pos:Pos}(hg:Gl X x)(hm:X.mg x=none)(hv:bootBuiltins x=some u)(r:qy v u)(hn:x≠"__name__":=by decide)(hd:yk x:=by decide):PE X (.Name x pos) (tC v):=
 λ_ _ _ H _ I h=>xc I hg hm hv ⟨v,H,I,r,h⟩ hn hd
variable {a b:Expr}
def tB(t:TE):TT:=λσ H Q=>t σ H λx H1=>∃c,x=.bl c/\Q c H1
def RT{e:Expr}{t:TE}(h:PE X e t)(he:∀WS,isTrue e X.env WS=(do let v<-WS;standAt e.pos;holding [v] (truthy v)):=by intro _;rfl):PT X e (tB t):=by intro Wk s σ H Q I hw;refine isTrue_plain (rV (h Wk s σ H _ I hw) λv s1 zz=>x5 zz λx H1 I1 r1 q1=>?_) (he _);obtain⟨d,rfl,q⟩:=q1;cases r1;exact fi ⟨H1,I1,q⟩
variable {rest:List Expr}
def Vd(t u:TT):TT:=λσ H Q=>t σ H λc H1=>if c=true then u σ H1 Q else Q false H1
def V9(t u:TT):TT:=λσ H Q=>t σ H λc H1=>if c=true then Q true H1 else u σ H1 Q
def UP(t:TT):TT:=λσ H Q=>t σ H λc H1=>Q (!c) H1
def PM(ha:PT X a tA):PW X (.BoolOp .And [a] pos) tA:=by
 intro wh Wk s σ H Q I h;refine isTrue_and (rV (ha Wk s σ H Q I h) λc s1 e=>?_);cases c with
 | true=>exact isTrue_and_nil e
 | false=>exact e
def QD(ha:PT X a tA):PW X (.BoolOp .Or [a] pos) tA:=by
 intro wh Wk s σ H Q I h;refine isTrue_or (rV (ha Wk s σ H Q I h) λc s1 e=>?_);cases c with
 | false=>exact isTrue_or_nil e
 | true=>exact e
def RO(ha:PT X a tA)(hb:PW X (.BoolOp .And (b::rest) pos) tB'):PW X (.BoolOp .And (a::b::rest) pos) (Vd tA tB'):=by
 intro wh Wk s σ H Q I h;refine isTrue_and (rV (ha Wk s σ H _ I h) λc s1 ⟨H1,I1,q1⟩=>?_);cases c with
 | true=>exact hb wh Wk s1 σ H1 Q I1 q1
 | false=>exact⟨H1,I1,q1⟩
def SL(ha:PT X a tA)(hb:PW X (.BoolOp .Or (b::rest) pos) tB'):PW X (.BoolOp .Or (a::b::rest) pos) (V9 tA tB'):=by
 intro wh Wk s σ H Q I h;refine isTrue_or (rV (ha Wk s σ H _ I h) λc s1 ⟨H1,I1,q1⟩=>?_);cases c with
 | true=>exact⟨H1,I1,q1⟩
 | false=>exact hb wh Wk s1 σ H1 Q I1 q1
def Q8(ha:PT X a tA):PT X (.UnaryOp .Not a pos) (UP tA):=by intro Wk s σ H Q I h;exact isTrue_not (ha Wk s σ H (λc H1=>Q (!c) H1) I h)
def SK(ta tb:TE):TE:=λσ H Q=>ta σ H λx H1=>∃c,x=.bl c/\if c=true then tb σ H1 Q else Q (.bl false) H1
def U4(ta tb:TE):TE:=λσ H Q=>ta σ H λx H1=>∃c,x=.bl c/\if c=true then Q (.bl true) H1 else tb σ H1 Q
def S0(ta:TE):TE:=λσ H Q=>ta σ H λx H1=>∃c,x=.bl c/\Q (.bl (!c)) H1
def RQ{op}{t:TE}(h:PE X a t):PE X (.BoolOp op [a] pos) t:=λWk s σ H Q I hw=>BoolOp_one (h Wk s σ H Q I hw)
def RW(ha:PE X a ta)(hb:PE X (.BoolOp .And (b::rest) pos) tb):PE X (.BoolOp .And (a::b::rest) pos) (SK ta tb):=by
 intro Wk s σ H Q I h;refine BoolOp_and (rV (ha Wk s σ H _ I h) λv s1 zz=>x5 zz λx H1 I1 r1 q1=>?_);obtain⟨c,rfl,q1⟩:=q1;cases r1;refine fi ?_;cases c with
 | true=>exact hb Wk s1 σ H1 Q I1 q1
 | false=>exact⟨.bl false,H1,I1,rfl,q1⟩
def S5(ha:PE X a ta)(hb:PE X (.BoolOp .Or (b::rest) pos) tb):PE X (.BoolOp .Or (a::b::rest) pos) (U4 ta tb):=by
 intro Wk s σ H Q I h;refine BoolOp_or (rV (ha Wk s σ H _ I h) λv s1 zz=>x5 zz λx H1 I1 r1 q1=>?_);obtain⟨c,rfl,q1⟩:=q1;cases r1;refine fi ?_;cases c with
 | false=>exact hb Wk s1 σ H1 Q I1 q1
 | true=>exact⟨.bl true,H1,I1,rfl,q1⟩
def Qy(ha:PE X a ta):PE X (.UnaryOp .Not a pos) (S0 ta):=by intro Wk s σ H Q I h;refine UnaryOp_ (rV (ha Wk s σ H _ I h) λv s1 zz=>x5 zz λx H1 I1 r1 q1=>?_);obtain⟨c,rfl,q1⟩:=q1;cases r1;exact not_of (fi ⟨.bl (!c),H1,I1,rfl,q1⟩)
def Wg(t:TT)(ta tb:TE):TE:=λσ H Q=>t σ H λc H1=>if c=true then ta σ H1 Q else tb σ H1 Q
def Lh{c:Expr}(hc:PT X c tA)(ha:PE X a ta)(hb:PE X b tb):PE X (.IfExp c a b pos) (Wg tA ta tb):=by
 intro Wk s σ H Q I h;refine wpAny_IfExp (rV (hc Wk s σ H _ I h) λd s1 ⟨H1,I1,q1⟩=>?_);cases d with
 | true=>exact ha Wk s1 σ H1 Q I1 q1
 | false=>exact hb Wk s1 σ H1 Q I1 q1
end
def yJ(K:pY)(H:Hp)(a:Addr)(xs:List V):Prop:=
 Rd H a (.lst xs)\/
  ∃(o:Obj) (its:Array Vl) (n:Nat),K.lookup a=some o/\o.cls=.type "list"/\o.dict=none/\o.data=.seq its n/\its.size<=sizeLine/\qo xs its.toList
def uK(K:pY)(H:Hp)(a:Addr)(xs:List V):Prop:=
 Rd H a (.tup xs)\/
  ∃(o:Obj) (its:Array Vl) (n:Nat),K.lookup a=some o/\o.cls=.type "tuple"/\o.dict=none/\o.data=.seq its n/\its.size<=sizeLine/\qo xs its.toList
def UF:Vl->Option V
 | .none=>some .mC
 | .bool b=>some (.bl b)
 | .int i _=>some (.int i)
 | .str x _=>some (.str x)
 | .bytes b _=>some (.byt b)
 | .float b _=>some (.flt b)
 | .ref a=>some (.ref a)
 | .type n=>some (.ty n)
 | _=>none
def qy.abs{x:V}{u:Vl}(r:qy x u):UF u=some x:=by
 cases x with
 | mC=>cases r;rfl
 | bl _=>cases r;rfl
 | int _=>obtain⟨t,rfl⟩:=r;rfl
 | str _=>obtain⟨t,rfl⟩:=r;rfl
 | byt _=>obtain⟨t,rfl⟩:=r;rfl
 | flt _=>obtain⟨t,rfl⟩:=r;rfl
 | ref _=>cases r;rfl
 | ty _=>cases r;rfl
def qy.inj{x y:V}{u:Vl}(r:qy x u)(q:qy y u):x=y:=dh (r.abs.symm.trans q.abs)
theorem qo.inj:∀{xs ys:List V} {us:List Vl},qo xs us->qo ys us->xs=ys
 | _,_,_,.nil,.nil=>rfl
 | _,_,_,.cons r t,.cons r' t'=>by rw[r.inj r',qo.inj t t']
variable {xs ys:List V}
section
variable {σ:St}{a:Addr}
def uK.of{K:pY}(h:H a=some (.tup xs)):uK K H a xs:=.inl (.inl h)
def Inv.list(I:Inv X Wk σ H s)(h:yJ X.K H a xs):∃its:List Vl,qo xs its/\PlainL s.heap a its.toArray/\xs.length<=sizeLine:=by
 rcases h with h|⟨o,its,n,hk,hc,hd,hs,hz,r⟩
 .obtain⟨z,its,n,r,e⟩:=h.ok I.mG;exact⟨its,r,⟨_,n,e,rfl,rfl,rfl⟩,z⟩
 .refine⟨its.toList,r,⟨o,n,I.mQ a o hk,hc,hd,by simpa using hs⟩,?_⟩;have e:=r.length;simp only[iS]at e;omega
def Inv.tuple(I:Inv X Wk σ H s)(h:uK X.K H a xs):∃its:List Vl,qo xs its/\IsTup s.heap a its.toArray/\xs.length<=sizeLine:=by
 rcases h with h|⟨o,its,n,hk,hc,hd,hs,hz,r⟩
 .obtain⟨z,its,r,p⟩:=h.ok I.mG;exact⟨its,r,p.is,z⟩
 .refine⟨its.toList,r,⟨o,I.mQ a o hk,hc,n,by simpa using hs⟩,?_⟩;have e:=r.length;simp only[iS]at e;omega
def Inv.nG(I:Inv X Wk σ H s)(h:yJ X.K H a xs)(h':yJ X.K H a ys):xs=ys:=by
 obtain⟨its,r,⟨o,n,e,_,_,d⟩,_⟩:=I.list h;obtain⟨its',r',⟨o',n',e',_,_,d'⟩,_⟩:=I.list h';rw[e]at e';cases e';rw[d]at d';injection d' with d1 _
 have:its=its':=by simpa using eE Array.toList d1
 subst this;exact r.inj r'
def Inv.mV(I:Inv X Wk σ H s)(h:uK X.K H a xs)(h':uK X.K H a ys):xs=ys:=by
 obtain⟨its,r,⟨o,e,_,n,d⟩,_⟩:=I.tuple h;obtain⟨its',r',⟨o',e',_,n',d'⟩,_⟩:=I.tuple h';rw[e]at e';cases e';rw[d]at d';injection d' with d1 _
 have:its=its':=by simpa using eE Array.toList d1
 subst this;exact r.inj r'
end
abbrev Cx.nA(X:Cx)(E:Vl->Sd->Prop):Cx:={X with xe:=E}
abbrev Cx.og(X:Cx):Cx:=X.nA λ_ _=>False
def Cx.Ok.nA{X:Cx}(ok:X.Ok)(E:Vl->Sd->Prop):(X.nA E).Ok:=
 ⟨ok.mod,ok.kind,ok.glob,ok.blt,ok.above,ok.inj,ok.has,ok.om,ok.hd,ok.frames,ok.oq,ok.oK,ok.bs,ok.nO,ok.nF,ok.nJ,ok.m8,ok.nU⟩
def Cx.Ok.mT{X:Cx}{E:Vl->Sd->Prop}(ok:(X.nA E).Ok):X.Ok:=
 ⟨ok.mod,ok.kind,ok.glob,ok.blt,ok.above,ok.inj,ok.has,ok.om,ok.hd,ok.frames,ok.oq,ok.oK,ok.bs,ok.nO,ok.nF,ok.nJ,ok.m8,ok.nU⟩
section
variable {σ:St}{E:Vl→Sd→Prop}
def Inv.nA(I:Inv X Wk σ H s)(E:Vl->Sd->Prop):Inv (X.nA E) Wk σ H s:=⟨I.ok.nA E,I.os,I.bare,I.base,I.loc,I.cell,I.free,I.mM,I.pin,I.mG,I.len⟩
def Inv.mT(I:Inv (X.nA E) Wk σ H s):Inv X Wk σ H s:=⟨I.ok.mT,I.os,I.bare,I.base,I.loc,I.cell,I.free,I.mM,I.pin,I.mG,I.len⟩
def SP.mT{D:Ek}{f:Flow}{s':Sd}(h:SP (X.nA E) Wk D f s'):SP X Wk D f s':=by
 cases f with
 | next=>obtain⟨σ',H',I,q⟩:=h;exact⟨σ',H',I.mT,q⟩
 | brk=>obtain⟨σ',H',I,q⟩:=h;exact⟨σ',H',I.mT,q⟩
 | cont=>obtain⟨σ',H',I,q⟩:=h;exact⟨σ',H',I.mT,q⟩
 | ret u=>obtain⟨v,σ',H',I,r,q⟩:=h;exact⟨v,σ',H',I.mT,r,q⟩
def Be.og{st:List Stmt}{t:TS}(h:Be X.og st t):Be X st t:=λWk s σ H D I hw=>eA (h Wk s σ H D (I.nA _) hw) (λ_ _ q=>q.mT) λ_ _ z=>False.elim z
end
variable {st:Stmt}{u:TS}{te:TE}
section
variable {rest:List Stmt}{t:TS}{e:Expr}
def Ug:TS:=λD σ H=>D.nx σ H
def UM(t u:TS):TS:=λD σ H=>t {D with nx:=u D} σ H
def N8:Be X [] Ug:=λ_ _ σ H _ I h=>gN ⟨σ,H,I,h⟩
def KO(h1:PS X st t)(h2:Be X rest u):Be X (st::rest) (UM t u):=by
 intro Wk s σ H D I h;refine jv (rV (h1 Wk s σ H {D with nx:=u D} I h) λf s1 q=>?_);cases f with
 | next=>obtain⟨σ',H',I',q⟩:=q;exact h2 Wk s1 σ' H' D I' q
 | ret v=>exact q
 | brk=>exact q
 | cont=>exact q
def Ee(h1:PS X st t):Be X [st] t:=by
 intro Wk s σ H D I h;refine jv (rV (h1 Wk s σ H D I h) λf s1 q=>?_);cases f with
 | next=>exact gN q
 | ret v=>exact q
 | brk=>exact q
 | cont=>exact q
def Ui:TS:=λD σ H=>D.ct σ H
def Fz:PS X (.Continue pos) Ui:=λ_ _ σ H _ I h=>wpAny_Continue ⟨σ,H,I,h⟩
def Inv.quiet{Wk:List (Addr×Obj)}{σ:St}{H:Hp}{s:Sd}(I:Inv X Wk σ H s):interactive X.env=false:=by simp[interactive,I.ok.kind]
def T9(te:TE):TS:=λD σ H=>te σ H λ_ H1=>D.nx σ H1
def NJ(he:PE X e te)(hs:swapsWith e none pos.line X.env=pure false:=by rfl):PS X (.Expr e pos) (T9 te):=by intro Wk s σ H D I h;exact wpAny_Expr_any (rV (he Wk s σ H _ I h) λv s1 zz=>x5 zz λx H1 I1 r1 q1=>⟨σ,H1,I1,q1⟩) I.quiet hs
def Vf(te:TE):TS:=λD σ H=>te σ H D.rt
def QU(he:PE X e te):PS X (.Return (some e) pos) (Vf te):=by intro Wk s σ H D I h;exact wpAny_Return_some (rV (he Wk s σ H _ I h) λv s1 zz=>x5 zz λx H1 I1 r1 q1=>⟨x,σ,H1,I1,r1,q1⟩)
def Vv(c:TT)(t u:TS):TS:=λD σ H=>c σ H λb H1=>if b=true then t D σ H1 else u D σ H1
def Tg{c:Expr}{a b:List Stmt}{tc:TT}(hc:PT X c tc)(ha:Be X a t)(hb:Be X b u):PS X (.If c a b pos) (Vv tc t u):=by
 intro Wk s σ H D I h;refine wpAny_If (rV (hc Wk s σ H _ I h) λd s1 ⟨H1,I1,q1⟩=>?_);cases d with
 | true=>exact ha Wk s1 σ H1 D I1 q1
 | false=>exact hb Wk s1 σ H1 D I1 q1
def Rt:TS:=λ_ _ _=>False
def Lg:PS X st Rt:=λ_ _ _ _ _ _ h=>h.elim
end
abbrev TG:=V->St->Hp->(St->Hp->Prop)->Prop
abbrev NP:=List V->St->Hp->(St->Hp->Prop)->Prop
def PG(X:Cx)(WO:Expr)(t:TG):Prop:=
 ∀(Wk:List (Addr×Obj)) (s:Sd) (σ:St) (H:Hp) (v:V) (u:Vl) (Q:St->Hp->Prop),Inv X Wk σ H s->qy v u->t v σ H Q->
  wpAny (model X.prog X.w) X.A (assign WO X.env u) (λ_ s'=>∃σ' H',Inv X Wk σ' H' s'/\Q σ' H') X.xe s
def Nj(X:Cx)(ts:List Expr)(t:NP):Prop:=
 ∀(Wk:List (Addr×Obj)) (s:Sd) (σ:St) (H:Hp) (vs:List V) (us:List Vl) (Q:St->Hp->Prop),Inv X Wk σ H s->qo vs us->t vs σ H Q->
  wpAny (model X.prog X.w) X.A (assignInOrder ((assignEach ts X.env).map (·.2)) us) (λ_ s'=>∃σ' H',Inv X Wk σ' H' s'/\Q σ' H') X.xe s
abbrev Sl:=V->V->V->Hp->(Hp->Prop)->Prop
def SO(X:Cx)(t:Sl):Prop:=
 ∀(Wk:List (Addr×Obj)) (s:Sd) (σ:St) (H:Hp) (o i v:V) (ov iv u:Vl) (Q:Hp->Prop),Inv X Wk σ H s->qy o ov->qy i iv->qy v u->t o i v H Q->
  wpAny (model X.prog X.w) X.A (setItem ov iv u) (λ_ s'=>∃H',Inv X Wk σ H' s'/\Q H') X.xe s
def Iw(i:Nat):TG:=λv σ H Q=>Q (σ.set i (some v)) H
def OW{i:Nat}{x:Str}(hN:X.N.Nodup)(hi:X.N[i]?=some x)(hx:Kd X.env.scope x)(hf:Kf X x:=by first|exact .inl rfl|exact .inr rfl|assumption):PG X (.Name x pos) (Iw i):=by intro Wk s σ H v u Q I r h;exact kT (xp I hN hi hx r (λs' I'=>⟨_,H,I',h⟩) hf)
def VC:NP:=λvs σ H Q=>vs=[]/\Q σ H
def Ua(t:TG)(u:NP):NP:=λvs σ H Q=>∃v r,vs=v::r/\t v σ H λσ' H'=>u r σ' H' Q
def OK:Nj X [] VC:=by intro Wk s σ H vs us Q I r h;obtain⟨e,h⟩:=h;subst e;cases r;exact assignInOrder_nil ⟨σ,H,I,h⟩
def Lo{e:Expr}{es:List Expr}{t:TG}{u:NP}(h1:PG X e t)(h2:Nj X es u) (hs:(assignEach (e::es) X.env).map (·.2)=assign e X.env::(assignEach es X.env).map (·.2):=by rfl):Nj X (e::es) (Ua t u):=by
 intro Wk s σ H vs us Q I r h;obtain⟨v,vr,e1,h⟩:=h;subst e1;cases r with
 | cons r rr=>rw[hs];refine assignInOrder_cons (rV (h1 Wk s σ H _ _ _ I r h) λ_ s1 ⟨σ1,H1,I1,q1⟩=>?_);exact h2 Wk s1 σ1 H1 _ _ Q I1 rr q1
def UY(K:pY)(n:Nat)(t:NP):TG:=λv σ H Q=>∃a xs,v=.ref a/\uK K H a xs/\xs.length=n/\t xs σ H Q
def Si{es:List Expr}{k:Nat}{t:NP}{n:Nat}(hc:X.calm=true)(h:Nj X es t) (hn:(assignEach es X.env).length=n:=by rfl) (WH:(assignEach es X.env).findIdx? (·.1)=none:=by rfl):PG X (.Tuple es k pos) (UY X.K n t):=by
 intro Wk s σ H v u Q I r hw;obtain⟨a,xs,e1,hq,hl,hw⟩:=hw;subst e1;cases r;obtain⟨its,rv,ht,hz⟩:=I.tuple hq;refine assign_Tuple_tuple (I.ok.hd hc) ht (by simp[hn,<-hl,rv.length]) WH λh' hx=>?_;have I1:Inv X Wk σ H {s with heap:=h'}:=I.kept (t':=s.toks) λb o e=>hx b o (dG (dv e)) e;exact h Wk _ σ H xs _ Q I1 (by simpa using rv) hw
def VA(to ti:TE)(t:Sl):TG:=λv σ H Q=>to σ H λo H1=>ti σ H1 λi H2=>t o i v H2 λH3=>Q σ H3
def RP{o i:Expr}{to ti:TE}{t:Sl}(ho:PE X o to)(hi:PE X i ti)(hs:SO X t) (ha:∀v,assign (.Subscript o i pos) X.env v=(do
   let ov<-holding [v] (eval o X.env);let iv<-holding [v,ov] (eval i X.env)
   standAt pos
   holding [v,ov,iv] (setItem ov iv v)
   release [v,ov,iv] []):=by intro _;rfl):PG X (.Subscript o i pos) (VA to ti t):=by
 intro Wk s σ H v u Q I r h;rw[ha];refine cU (eC (rV (ho Wk s σ H _ I h) λov s1 zz=>x5 zz λx H1 I1 r1 q1=>?_));refine cU (eC (rV (hi Wk s1 σ H1 _ I1 q1) λiv s2 zz=>x5 zz λy H2 I2 r2 q2=>?_));refine cU (gL (cU (eC (rV (hs Wk s2 σ H2 x y v ov iv u _ I2 r1 r2 r q2) λ_ s3 ⟨H3,I3,q3⟩=>?_))));exact wpAny_release ⟨σ,H3,I3,q3⟩
def NY(te:TE)(g:TG):TS:=λD σ H=>te σ H λx H1=>g x σ H1 D.nx
def Rw{tg e:Expr}{te:TE}{g:TG}(he:PE X e te)(hg:PG X tg g)(hs:swapsWithSole [tg] e pos.line X.env=pure false:=by rfl)(hw:swappedStores [tg] e X.env=pure none:=by rfl)
  (h1:(assignEach [tg] X.env).map (·.2)=[assign tg X.env]:=by rfl):PS X (.Assign [tg] e pos) (NY te g):=by
 intro Wk s σ H D I h;refine wpAny_Assign_stores (rV (he Wk s σ H _ I h) λv s1 zz=>x5 zz λx H1 I1 r1 q1=>?_) hs hw;rw[h1];exact rV (hg Wk s1 σ H1 x v _ I1 r1 q1) λ_ s2 q=>q
def KP{i:Nat}{x:Str}{e:Expr}{te:TE}{Wt:Pos}(hN:X.N.Nodup)(hi:X.N[i]?=some x)(hx:Kd X.env.scope x)(he:PE X e te)(hs:swapsWith e (some (.Name x Wt)) pos.line X.env=pure false:=by rfl)(hf:Kf X x:=by first|exact .inl rfl|exact .inr rfl|assumption):
  PS X (.Assign [.Name x Wt] e pos) (NY te (Iw i)):=by
 intro Wk s σ H D I h;refine kU (rV (he Wk s σ H _ I h) λv s1 zz=>x5 zz λy H1 I1 r1 q1=>?_) hs;exact xp I1 hN hi hx r1 (λs2 I2=>⟨_,H1,I2,q1⟩) hf
def Qr(c:TT)(tb:TS):TS:=λD σ H=>∃W:Nat->St->Hp->Prop,(∃m,W m σ H)/\∀m σ H,W m σ H->
 c σ H λb H1=>if b=true then ∃N:St->Hp->Prop,(∀σ' H',N σ' H'->∃m',m'<m/\W m' σ' H')/\tb {D with nx:=N,ct:=N,bk:=D.nx} σ H1 else D.nx σ H1
def MS{c:Expr}{body:List Stmt}{tc:TT}{tb:TS}(hp:PassesOwn (model X.prog X.w) X.A X.env X.xe)(hc:PT X c tc)(hb:Be X body tb):PS X (.While c body [] pos) (Qr tc tb):=by
 intro Wk s σ H D I h;obtain⟨W,⟨m0,w0⟩,turn⟩:=h;refine wpAny_While (codeAny_whileLoop (λn s'=>∃σ' H',Inv X Wk σ' H' s'/\W n σ' H') ?_ m0 ⟨σ,H,I,w0⟩)
 rintro n s1 ⟨σ1,H1,I1,w1⟩
 refine gv hp (rV (hc Wk s1 σ1 H1 _ I1 (turn n σ1 H1 w1)) λb s2 ⟨H2,I2,q2⟩=>?_);cases b with
 | true=>
  obtain⟨N,hN,q2⟩:=q2;rw[c9 rfl];refine gv hp (rV (hb Wk s2 σ1 H2 _ I2 q2) λf s3 q3=>?_);cases f with
  | next=>obtain⟨σ3,H3,I3,n3⟩:=q3;obtain⟨m',hm,w3⟩:=hN σ3 H3 n3;exact⟨m',hm,σ3,H3,I3,w3⟩
  | cont=>obtain⟨σ3,H3,I3,n3⟩:=q3;obtain⟨m',hm,w3⟩:=hN σ3 H3 n3;exact⟨m',hm,σ3,H3,I3,w3⟩
  | brk=>exact q3
  | ret v=>exact q3
 | false=>rw[cY dw];exact gN ⟨σ1,H2,I2,q2⟩
structure It where
 go:Nat->Hp->Prop
 ow:Nat->Hp->V->Hp->Prop
 stop:Nat->Hp->Prop
def Ah(X:Cx)(Wk:List (Addr×Obj))(H:Hp)(b:Addr):Prop:=
 H b=none/\b≠X.env.locals/\b∉X.fs/\(b∈X.ex\/X.s₀.heap.objs.size<=b)/\(∀x c,X.env.cells.lookup x=some c->c≠b)/\∀p∈X.pn++Wk,p.1≠b
def Inv.nK{X:Cx}{Wk:List (Addr×Obj)}{σ:St}{H H':Hp}{s:Sd}{b:Addr}(I:Inv X Wk σ H s)(hb:s.heap.objs.size<=b)(hn:H' b=none):Ah X Wk H' b:=by
 refine⟨hn,gG (dH I.lt hb),I.oF hb,.inr (dY I.sz hb),λx c e z=>?_,λp hp z=>?_⟩
 .obtain⟨v,q⟩:=I.cell x c e;exact absurd (dH q.lt (by rw[z];exact hb)) (e9 _)
 .exact absurd (dH (dv (I.pin p hp).1) (by rw[z];exact hb)) (e9 _)
structure FE(P:Pg)(w:Wo)(K:pY)(tg:Expr)(J:It)(fp:List Addr)(it:Addr)(tn:Nat->Heap->Prop):Prop where
 mem:it∈fp
 obj:∀i h,tn i h->∀b∈fp,∃o,h.get? b=some o/\∀v,o.data≠.cell v
 keep:∀i h h',tn i h->(∀b∈fp,∀o,h.get? b=some o->h'.get? b=some o)->tn i h'
 item:∀(X:Cx),X.prog=P->X.w=w->X.K=K->X.calm=true->∀(i:Nat) (Wk:List (Addr×Obj)) (s:Sd) (σ:St) (H:Hp) (E:Vl->Sd->Prop),Inv X Wk σ H s->(∀b∈fp,Ah X Wk H b)->tn i s.heap->J.go i H->
  wpAny (model P w) X.A (pyNext (.ref it)) (λr s1=>∃u,r=some u/\
   wpAny (model P w) X.A (letOwnedTupleGo tg (.ref it) u) (λ_ s2=>∃x H',Inv X Wk σ H' s2/\qy x u/\J.ow i H x H'/\tn (i+1) s2.heap/\∀b∈fp,H' b=none) E s1) E s
 done:∀(X:Cx),X.prog=P->X.w=w->X.K=K->X.calm=true->∀(i:Nat) (Wk:List (Addr×Obj)) (s:Sd) (σ:St) (H:Hp) (E:Vl->Sd->Prop),Inv X Wk σ H s->(∀b∈fp,Ah X Wk H b)->tn i s.heap->J.stop i H->
  wpAny (model P w) X.A (pyNext (.ref it)) (λr s1=>r=none/\Inv X Wk σ H s1) E s
 self:∀(A:Ar) (i:Nat) (s:Sd) (Q:Vl->Sd->Prop) (E:Vl->Sd->Prop),tn i s.heap->Q (.ref it) s->wpAny (model P w) A (pyIter (.ref it)) Q E s
abbrev TI:=St->Hp->(It->Hp->Prop)->Prop
def VP(X:Cx)(Wk:List (Addr×Obj))(σ:St)(tg:Expr)(R:It->Hp->Prop)(itv:Vl)(s2:Sd):Prop:=
 ∃(it:Addr) (fp:List Addr) (tn:Nat->Heap->Prop) (J:It) (H':Hp),itv=.ref it/\Inv X Wk σ H' s2/\FE X.prog X.w X.K tg J fp it tn/\tn 0 s2.heap/\(∀b∈fp,Ah X Wk H' b)/\R J H'
def PI(X:Cx)(tg iter:Expr)(wi:TI):Prop:=
 ∀(Wk:List (Addr×Obj)) (s:Sd) (σ:St) (H:Hp) (R:It->Hp->Prop),Inv X Wk σ H s->wi σ H R->
  wpAny (model X.prog X.w) X.A (eval iter X.env) (λv s1=>wpAny (model X.prog X.w) X.A (pyIter v) (VP X Wk σ tg R) X.xe s1) X.xe s
def IK{M:Model}{A:Ar}{E:Vl->Sd->Prop}{s:Sd}{tg:Expr}{it:Addr}{u:Vl}{o:Obj}{n:String}{vs:Array Vl}{Q:Unit->Sd->Prop}(ho:s.heap.get? it=some o)(hc:o.cls=.type n)(hd:o.data=.fields vs) (hn:["enumerate","zip","dict_itemiterator","dict_reverseitemiterator","odict_iterator","itertools.zip_longest","itertools.pairwise"].contains n=false) (hQ:Q () s):wpAny M A (letOwnedTupleGo tg (.ref it) u) Q E s:=by
  unfold letOwnedTupleGo;cases tg<;>first
    | exact de hQ
    | (cases u<;>first
        | exact de hQ
        | (refine cU (wpAny_load ho ?_)
           rw[hc,hd];show wpAny M A (if (["enumerate","zip","dict_itemiterator","dict_reverseitemiterator","odict_iterator","itertools.zip_longest","itertools.pairwise"].contains n&&vs[0]?==some (rawInt _))=true then _ else _) Q E s;rw[cY (by intro h;rw[hn,eR]at h;cases h)];exact de hQ))
def UD(K:pY)(a:Addr):It:=
 ⟨λi H=>∃xs x,yJ K H a xs/\xs[i]?=some x,λi H x H'=>H'=H/\∀xs,yJ K H a xs->xs[i]?=some x,λi H=>∃xs,yJ K H a xs/\xs.length<=i⟩
def UJ(K:pY)(a:Addr):It:=
 ⟨λi H=>∃xs x,uK K H a xs/\xs[i]?=some x,λi H x H'=>H'=H/\∀xs,uK K H a xs->xs[i]?=some x,λi H=>∃xs,uK K H a xs/\xs.length<=i⟩
def UE(lo:Int)(n:Nat):It:=⟨λi _=>i<n,λi H x H'=>H'=H/\x=.int (lo+i),λi _=>n<=i⟩
def J0{P:Pg}{w:Wo}{K:pY}{tg:Expr}(a it:Addr):FE P w K tg (UD K a) [it] it (λi h=>h.IsListIter it a i) where
 mem:=by simp
 obj:=λi h st b hb=>by
  have e:b=it:=by simpa using hb
  subst e;obtain⟨o,e,c,d⟩:=st;exact⟨o,e,λv z=>by rw[d]at z;cases z⟩
 keep:=λi h h' st k=>st.at λo e=>k it (by simp) o e
 item:=by intro X hP hw hK hc i Wk s σ H E I hf st hg;subst hP hw hK;obtain⟨xs,x,hq,hx⟩:=hg;obtain⟨its,rv,p,hz⟩:=I.list hq;obtain⟨u,hu,ru⟩:=rv.get hx;obtain⟨f0,f1,f2,f3,f4,f5⟩:=hf it (by simp);refine jQ st p.isList (x:=u) (by simpa using hu) λh' XD sb=>?_;have I1:Inv X Wk σ H {s with heap:=h'}:=I.turned (t':=s.toks) (λb o hb e=>(sb.2 b hb).trans e) f0 f1 f3 f4 f5;obtain⟨o,e,c,d⟩:=id XD;exact⟨u,rfl,IK (s:={s with heap:=h'}) e c d (by decide) ⟨x,H,I1,ru,⟨rfl,λys hy=>by rw[I.nG hy hq];exact hx⟩,XD,λb hb=>(hf b hb).1⟩⟩
 done:=by intro X hP hw hK hc i Wk s σ H E I hf st hg;subst hP hw hK;obtain⟨xs,hq,hx⟩:=hg;obtain⟨its,rv,p,hz⟩:=I.list hq;obtain⟨f0,f1,f2,f3,f4,f5⟩:=hf it (by simp);have hl:=rv.length;exact jT (I.ok.hd hc) st p.isList (by simp;omega) λh' eb=>⟨rfl,I.turned (t':=s.toks) (λb o hb e=>eb b o hb e) f0 f1 f3 f4 f5⟩
 self:=λ_ _ _ _ _ st h=>wpAny_pyIter_listiter st h
def GK{P:Pg}{w:Wo}{K:pY}{tg:Expr}(a it:Addr):FE P w K tg (UJ K a) [it] it (λi h=>h.IsTupleIter it a i) where
 mem:=by simp
 obj:=λi h st b hb=>by
  have e:b=it:=by simpa using hb
  subst e;obtain⟨o,e,c,d⟩:=st;exact⟨o,e,λv z=>by rw[d]at z;cases z⟩
 keep:=λi h h' st k=>st.at λo e=>k it (by simp) o e
 item:=by intro X hP hw hK hc i Wk s σ H E I hf st hg;subst hP hw hK;obtain⟨xs,x,hq,hx⟩:=hg;obtain⟨its,rv,p,hz⟩:=I.tuple hq;obtain⟨u,hu,ru⟩:=rv.get hx;obtain⟨f0,f1,f2,f3,f4,f5⟩:=hf it (by simp);refine wpAny_pyNext_tuple_item st (show s.heap.IsTuple a its.toArray from p) (x:=u) (by simpa using hu) λh' XD sb=>?_;have I1:Inv X Wk σ H {s with heap:=h'}:=I.turned (t':=s.toks) (λb o hb e=>(sb.2 b hb).trans e) f0 f1 f3 f4 f5;obtain⟨o,e,c,d⟩:=id XD;exact⟨u,rfl,IK (s:={s with heap:=h'}) e c d (by decide) ⟨x,H,I1,ru,⟨rfl,λys hy=>by rw[I.mV hy hq];exact hx⟩,XD,λb hb=>(hf b hb).1⟩⟩
 done:=by intro X hP hw hK hc i Wk s σ H E I hf st hg;subst hP hw hK;obtain⟨xs,hq,hx⟩:=hg;obtain⟨its,rv,p,hz⟩:=I.tuple hq;obtain⟨f0,f1,f2,f3,f4,f5⟩:=hf it (by simp);have hl:=rv.length;exact wpAny_pyNext_tuple_end (I.ok.hd hc) st (show s.heap.IsTuple a its.toArray from p) (by simp;omega) λh' eb=>⟨rfl,I.turned (t':=s.toks) (λb o hb e=>eb b o hb e) f0 f1 f3 f4 f5⟩
 self:=λ_ _ _ _ _ st h=>wpAny_pyIter_tupleiter st h
def G7{P:Pg}{w:Wo}{K:pY}{tg:Expr}(it:Addr)(lo:Int)(n:Nat):FE P w K tg (UE lo n) [it] it (λi h=>IsRangeIter h it (lo+(i:Nat)*1) ((n:Int) - (i:Nat)) 1) where
 mem:=by simp
 obj:=λi h st b hb=>by
  have e:b=it:=by simpa using hb
  subst e;exact⟨_,st,λv z=>by
   have z':Data.fields _=Data.cell v:=z;cases z'⟩
 keep:=λi h h' st k=>k it (by simp) _ st
 item:=by intro X hP hw hK hc i Wk s σ H E I hf st hg;subst hP hw hK;obtain⟨f0,f1,f2,f3,f4,f5⟩:=hf it (by simp);have W:=Walks.range (prog:=X.prog) (w:=X.w) (I.ok.hd hc) it lo 1 n;refine W.item i s _ _ hg st λv h' tk hv XD kk=>?_;obtain⟨t,rfl⟩:=hv;have I1:Inv X Wk σ H {s with heap:=h',toks:=tk}:=I.turned (λb o hb e=>kk b o (by simpa using hb) e) f0 f1 f3 f4 f5;refine⟨_,rfl,IK (s:={s with heap:=h',toks:=tk}) (n:="range_iterator") XD rfl rfl (by decide) ⟨.int (lo+i),H,I1,⟨t,?_⟩,⟨rfl,rfl⟩,XD,λb hb=>(hf b hb).1⟩⟩;rw[Int.mul_one]
 done:=by intro X hP hw hK hc i Wk s σ H E I hf st hg;subst hP hw hK;obtain⟨f0,f1,f2,f3,f4,f5⟩:=hf it (by simp);exact wpAny_pyNext_range_end (I.ok.hd hc) st (by have:n<=i:=hg;omega) λh' eb=>⟨rfl,I.turned (t':=s.toks) (λb o hb e=>eb b o hb e) f0 f1 f3 f4 f5⟩
 self:=λ_ _ _ _ _ st h=>wpAny_pyIter_rangeiter st h
variable {tg:Expr}
def MB{Wk:List (Addr×Obj)}{σ:St}{H:Hp}{s:Sd}{R:It->Hp->Prop}{E:Vl->Sd->Prop}{lo hi:Int}{t u v:Tok}{tk:Nat}(I:Inv X Wk σ H s)(h1:-(2 ^ 62)<=lo)(h2:lo<2 ^ 62)(h3:-(2 ^ 62)<=hi)(h4:hi<2 ^ 62) (q:R (UE lo (hi - lo).toNat) H):wpAny (model X.prog X.w) X.A (pyIter (.ref s.heap.objs.size)) (VP X Wk σ tg R) E {s with heap:=s.heap.push {cls:=.type "range",data:=.fields #[.int lo t,.int hi u,.int 1 v]},toks:=tk}:=by
 refine wpAny_pyIter_range (IsRange.new ..) (small_one h1 h2 h3 h4) ?_;have I1:Inv X Wk σ H {s with heap:=s.heap.push {cls:=.type "range",data:=.fields #[.int lo t,.int hi u,.int 1 v]},toks:=tk}:=I.kept λb o e=>cZ _ e;refine⟨(s.heap.push {cls:=.type "range",data:=.fields #[.int lo t,.int hi u,.int 1 v]}).objs.size,[(s.heap.push {cls:=.type "range",data:=.fields #[.int lo t,.int hi u,.int 1 v]}).objs.size],_,_,H,rfl,I1.kept (t':=tk) λb o e=>cZ _ e,G7 _ lo (hi - lo).toNat,?_,λb hb=>?_,q⟩
 .have e1:lo+((0:Nat):Int)*1=lo:=by simp
  have e2:(((hi - lo).toNat:Nat):Int) - ((0:Nat):Int)=Builtin.Range.rangeSize lo hi 1:=by rw[rangeSize_one];split<;>omega
  show IsRangeIter _ _ (lo+((0:Nat):Int)*1) ((((hi - lo).toNat:Nat):Int) - ((0:Nat):Int)) 1;rw[e1,e2];exact dF _ rfl
 .have e:b=(s.heap.push {cls:=.type "range",data:=.fields #[.int lo t,.int hi u,.int 1 v]}).objs.size:=by simpa using hb
  subst e;exact I1.nK (dg _) (I1.mG.fresh (dg _))
def SZ(ta:TA):TI:=λσ H R=>ta σ H λvs H1=>∃j:Int,vs=[.int j]/\-(2 ^ 62)<=j/\j<2 ^ 62/\R (UE 0 j.toNat) H1
def JC{a:Expr}{ta:TA}{p pos:Pos}(hg:Gl X "range")(hm:X.mg "range"=none)(ha:PA X [a] ta)(hs:starEach [a] X.env=[(false,eval a X.env)]:=by rfl):PI X tg (.Call (.Name "range" p) [a] [] pos) (SZ ta):=by
 intro Wk s σ H R I h;refine Call_ (xc I hg hm boot_range (fS (rV (ha pos Wk s σ H _ I h) λus s1 zz=>x5 zz λvs H1 I1 r1 q1=>?_) hs rfl));obtain⟨j,e,q1,q2,q⟩:=q1;subst e;cases r1 with
 | cons r rr=>cases rr;obtain⟨t,rfl⟩:=r;exact call_range_1 (MB I1 (by omega) (by omega) q1 q2 (by simpa using q))
def Vw(wi:TI)(g:TG)(tb:TS):TS:=λD σ H=>wi σ H λJ H1=>∃W:Nat->Nat->St->Hp->Prop,(∃m,W 0 m σ H1)/\∀i m σ H,W i m σ H->
 (J.stop i H/\D.nx σ H)\/(J.go i H/\∃N:St->Hp->Prop,(∀σ' H',N σ' H'->∃m',m'<m/\W (i+1) m' σ' H')/\∀x H',J.ow i H x H'->g x σ H' λσ2 H2=>tb {D with nx:=N,ct:=N,bk:=D.nx} σ2 H2)
def BN(fp:List Addr)(h:Heap):List (Addr×Obj):=fp.filterMap λb=>(h.get? b).map λo=>(b,o)
def vb{fp:List Addr}{h:Heap}{b:Addr}{o:Obj}(hb:b∈fp)(e:h.get? b=some o):(b,o)∈BN fp h:=kE.mpr ⟨b,hb,by rw[e];rfl⟩
def JH{fp:List Addr}{h:Heap}{p:Addr×Obj}(hp:p∈BN fp h):p.1∈fp/\h.get? p.1=some p.2:=by
 obtain⟨b,hb,e⟩:=kE.mp hp;cases q:h.get? b with
 | none=>rw[q]at e;cases e
 | some o=>rw[q]at e;have e':(b,o)=p:=dh e;subst e';exact⟨hb,q⟩
def Inv.pinned{Wk:List (Addr×Obj)}{σ:St}{H:Hp}{s:Sd}{fp:List Addr}(I:Inv X Wk σ H s)(hf:∀b∈fp,Ah X Wk H b)(ho:∀b∈fp,∃o,s.heap.get? b=some o/\∀v,o.data≠.cell v):Inv X (Wk++BN fp s.heap) σ H s:=
 I.nC λp hp=>(dW.mp hp).elim (λz=>I.pin p (dZ _ z)) λz=>by obtain⟨hb,e⟩:=JH z;obtain⟨f0,f1,f2,_⟩:=hf p.1 hb;obtain⟨o,e',d⟩:=ho p.1 hb;rw[e]at e';cases e';exact⟨e,f0,f1,f2,d⟩
def Inv.mO{Wk pl:List (Addr×Obj)}{σ:St}{H:Hp}{s:Sd}(I:Inv X (Wk++pl) σ H s):Inv X Wk σ H s:=I.nC λp hp=>I.pin p (dZ _ (fg _ hp))
def Sj{iter:Expr}{body:List Stmt}{wi:TI}{g:TG}{tb:TS}{pos:Pos}(hp:PassesOwn (model X.prog X.w) X.A X.env X.xe)(hc:X.calm=true)(hi:PI X tg iter wi)(hg:PG X tg g)(hb:Be X body tb) (hs:∀x,foldedSetIterable iter X.env x=pure x:=by intro _;rfl):PS X (.For tg iter body [] pos) (Vw wi g tb):=by
 intro Wk s σ H D I h;refine wpAny_For (rV (hi Wk s σ H _ I h) λv s1 h1=>rV h1 λitv s2 h2=>?_) hs;obtain⟨it,fp,tn,J,H2,e,I2,T,WC,f2,W,⟨m0,w0⟩,turn⟩:=h2;subst e;have Xu:∀{H':Hp},(∀b∈fp,H' b=none)->∀b∈fp,Ah X Wk H' b:=λhn b hb=>⟨hn b hb,(f2 b hb).2⟩;refine codeAny_forLoop_any (λn s'=>∃i σ' H',Inv X Wk σ' H' s'/\tn i s'.heap/\(∀b∈fp,H' b=none)/\W i n σ' H') ?_ m0 ⟨0,σ,H2,I2,WC,λb hb=>(f2 b hb).1,w0⟩
 rintro n s3 ⟨i,σ3,H3,I3,W0,fr3,w3⟩
 rcases turn i n σ3 H3 w3 with⟨stop,qn⟩|⟨go,N,hN,step⟩
 .refine gv hp (rV (T.done X rfl rfl rfl hc i Wk s3 σ3 H3 X.xe I3 (Xu fr3) W0 stop) λr s4 ⟨hr,I4⟩=>?_);subst hr;exact gN ⟨σ3,H3,I4,qn⟩
 .refine gv hp (rV (T.item X rfl rfl rfl hc i Wk s3 σ3 H3 X.xe I3 (Xu fr3) W0 go) λr s4 ⟨u,hr,h4⟩=>?_);subst hr;refine gv hp (rV h4 λ_ s5 zz=>?_);obtain⟨x,H5,I5,r5,y5,YO,fr5⟩:=zz;have I5':=I5.pinned (Xu fr5) (T.obj _ _ YO);refine gv hp (rV (hg _ s5 σ3 H5 x u _ I5' r5 (step x H5 y5)) λ_ s6 ⟨σ6,H6,I6,q6⟩=>?_);refine gv hp (rV (hb _ s6 σ6 H6 _ I6 q6) λf s7 q7=>?_);have again:∀{σ7:St} {H7:Hp},Inv X (Wk++BN fp s5.heap) σ7 H7 s7->N σ7 H7->∃m,m<n/\∃i σ' H',Inv X Wk σ' H' s7/\tn i s7.heap/\(∀b∈fp,H' b=none)/\W i m σ' H':=λ{σ7 H7} I7 n7=>by obtain⟨m',hm,w7⟩:=hN σ7 H7 n7;refine⟨m',hm,i+1,σ7,H7,I7.mO,T.keep _ _ _ YO λb hb o e=>(I7.pin (b,o) (dZ _ (dZ _ (vb hb e)))).1,λb hb=>?_,w7⟩;obtain⟨o,e,d⟩:=T.obj _ _ YO b hb;exact(I7.pin (b,o) (dZ _ (dZ _ (vb hb e)))).2.1
  cases f with
  | next=>obtain⟨σ7,H7,I7,n7⟩:=q7;exact again I7 n7
  | cont=>obtain⟨σ7,H7,I7,n7⟩:=q7;exact again I7 n7
  | brk=>obtain⟨σ7,H7,I7,q7⟩:=q7;exact⟨σ7,H7,I7.mO,q7⟩
  | ret v=>obtain⟨x7,σ7,H7,I7,r7,q7⟩:=q7;exact⟨x7,σ7,H7,I7.mO,r7,q7⟩
abbrev R2:=V->V->Hp->VK->Prop
def wY(X:Cx)(f:Vl->Vl->Sem Vl)(r:R2):Prop:=
 ∀(Wk:List (Addr×Obj)) (s:Sd) (σ:St) (H:Hp) (x y:V) (v u:Vl) (Q:VK),Inv X Wk σ H s->qy x v->qy y u->r x y H Q->
  wpAny (model X.prog X.w) X.A (f v u) (EP X Wk σ Q) X.xe s
def U9(X:Cx)(f:Vl->Sem Vl)(r:V->Hp->VK->Prop):Prop:=
 ∀(Wk:List (Addr×Obj)) (s:Sd) (σ:St) (H:Hp) (x:V) (v:Vl) (Q:VK),Inv X Wk σ H s->qy x v->r x H Q->
  wpAny (model X.prog X.w) X.A (f v) (EP X Wk σ Q) X.xe s
def yY(X:Cx)(f:Vl)(r:List V->Hp->VK->Prop):Prop:=
 ∀(Wk:List (Addr×Obj)) (s:Sd) (σ:St) (H:Hp) (xs:List V) (us:List Vl) (Q:VK),Inv X Wk σ H s->qo xs us->r xs H Q->
  wpAny (model X.prog X.w) X.A (call f us) (EP X Wk σ Q) X.xe s
def Tq(r:R2)(ta tb:TE):TE:=λσ H Q=>ta σ H λx H1=>tb σ H1 λy H2=>r x y H2 Q
def Wf(r:V->Hp->VK->Prop)(ta:TE):TE:=λσ H Q=>ta σ H λx H1=>r x H1 Q
def rI(C:Int->Int->Prop)(g:Int->Int->V):R2:=λx y H Q=>∃i j,x=.int i/\y=.int j/\C i j/\Q (g i j) H
def PZ(g:Int->Int->V):R2:=λx y H Q=>∃i j,x=.int i/\y=.int j/\Q (g i j) H
def rU(g:Int->V):V->Hp->VK->Prop:=λx H Q=>∃i,x=.int i/\Q (g i) H
variable {tc:TE}
section
variable {a b c:Expr}
def Qt(ha:PE X a ta)(hb:PE X b tb){Wk:List (Addr×Obj)}{s:Sd}{σ:St}{H:Hp}{R:V->V->Hp->Prop}(I:Inv X Wk σ H s) (h:ta σ H λx H1=>tb σ H1 λy H2=>R x y H2) {Q:Vl->Sd->Prop} {f:Vl->Vl->Sem Vl} (hf:∀v u s2 x y H2,Inv X Wk σ H2 s2->qy x v->qy y u->R x y H2->wpAny (model X.prog X.w) X.A (f v u) Q X.xe s2):
  wpAny (model X.prog X.w) X.A (eval a X.env) (λv s₁=>wpAny (model X.prog X.w) X.A (eval b X.env) (λu s₂=>wpAny (model X.prog X.w) X.A (f v u) Q X.xe s₂) X.xe s₁) X.xe s:=by
 refine rV (ha Wk s σ H _ I h) λv s1 zz=>x5 zz λx H1 I1 r1 q1=>?_;refine rV (hb Wk s1 σ H1 _ I1 q1) λu s2 zz=>x5 zz λy H2 I2 r2 q2=>?_;exact hf v u s2 x y H2 I2 r1 r2 q2
def P0{op:Operator}{r:R2}(ho:wY X (binaryOp op) r)(ha:PE X a ta)(hb:PE X b tb):PE X (.BinOp a op b pos) (Tq r ta tb):=by intro Wk s σ H Q I h;exact wpAny_BinOp (Qt ha hb I h λv u s2 x y H2 I2 rx ry q=>ho Wk s2 σ H2 x y v u Q I2 rx ry q)
def To{op:UnaryOp}{r:V->Hp->VK->Prop}(ho:U9 X (unaryOp op) r)(ha:PE X a ta):PE X (.UnaryOp op a pos) (Wf r ta):=by intro Wk s σ H Q I h;exact UnaryOp_ (rV (ha Wk s σ H _ I h) λv s1 zz=>x5 zz λx H1 I1 r1 q1=>ho Wk s1 σ H1 x v Q I1 r1 q1)
def UR{f:Vl->Vl->Sem Vl}{C:Int->Int->Prop}{g:Int->Int->Int} (rule:∀(i j:Int) (t u:Tok) (s:Sd) (Q:Vl->Sd->Prop) (E:Vl->Sd->Prop),C i j->Q (.int (g i j) s.toks) {s with toks:=s.toks+1}->wpAny (model X.prog X.w) X.A (f (.int i t) (.int j u)) Q E s):
  wY X f (rI C λi j=>.int (g i j)):=by
 intro Wk s σ H x y v u Q I rx ry h;obtain⟨i,j,rfl,rfl,hc,q⟩:=h;obtain⟨t,rfl⟩:=rx;obtain⟨t',rfl⟩:=ry;exact rule i j t t' s _ _ hc ⟨.int (g i j),H,I.tok _,⟨_,rfl⟩,q⟩
def Tf{f:Vl->Vl->Sem Vl}{g:Int->Int->Int} (rule:∀(i j:Int) (t u:Tok) (s:Sd) (Q:Vl->Sd->Prop) (E:Vl->Sd->Prop),Q (.int (g i j) s.toks) {s with toks:=s.toks+1}->wpAny (model X.prog X.w) X.A (f (.int i t) (.int j u)) Q E s):
  wY X f (PZ λi j=>.int (g i j)):=by
 intro Wk s σ H x y v u Q I rx ry h;obtain⟨i,j,rfl,rfl,q⟩:=h;obtain⟨t,rfl⟩:=rx;obtain⟨t',rfl⟩:=ry;exact rule i j t t' s _ _ ⟨.int (g i j),H,I.tok _,⟨_,rfl⟩,q⟩
def NO{f:Vl->Vl->Sem Vl}{g:Int->Int->Bool} (rule:∀(i j:Int) (t u:Tok) (s:Sd) (Q:Vl->Sd->Prop) (E:Vl->Sd->Prop),Q (.bool (g i j)) s->wpAny (model X.prog X.w) X.A (f (.int i t) (.int j u)) Q E s):
  wY X f (PZ λi j=>.bl (g i j)):=by
 intro Wk s σ H x y v u Q I rx ry h;obtain⟨i,j,rfl,rfl,q⟩:=h;obtain⟨t,rfl⟩:=rx;obtain⟨t',rfl⟩:=ry;exact rule i j t t' s _ _ ⟨.bl (g i j),H,I,rfl,q⟩
def SX(i j:Int):Prop:=0<j/\j<1073741824
def Cv(i j:Int):Prop:=(-(2 ^ 64)<i/\i<2 ^ 64)\/(-(2 ^ 64)<j/\j<2 ^ 64)
def Cv.ok{i j:Int}(h:Cv i j):IntMulOk i j:=by
 rcases h with⟨h1,h2⟩|⟨h1,h2⟩
 .exact .of_left (intBits_le_64 h1 h2)
 .exact .of_right (intBits_le_64 h1 h2)
def Qz:wY X (binaryOp .Add) (PZ λi j=>.int (i+j)):=Tf λ_ _ _ _ _ _ _ q=>add_int q
def QQ:wY X (binaryOp .Sub) (PZ λi j=>.int (i - j)):=Tf λ_ _ _ _ _ _ _ q=>sub_int q
def Rz:wY X (binaryOp .Mult) (rI Cv λi j=>.int (i*j)):=UR λ_ _ _ _ _ _ _ hc q=>mul_int q hc.ok
def Po:wY X (binaryOp .FloorDiv) (rI SX λi j=>.int (i / j)):=UR λi j _ _ _ _ _ hc q=>by have h1:(0:Int)<j:=hc.1;have h2:j<1073741824:=hc.2;exact floordiv_int (by omega) (by rw[Int.fdiv_eq_ediv_of_nonneg i (by omega)];exact q) (.inl (PyProof.noPylong_small (by omega)))
def Rf:wY X (binaryOp .Mod) (rI (λ_ j=>0<j) λi j=>.int (i % j)):=UR λi j _ _ _ _ _ hc q=>by have h1:(0:Int)<j:=hc;exact mod_int' (by omega) (by rw[Int.fmod_eq_emod_of_nonneg i (by omega)];exact q)
def V4{f:Vl->Sem Vl}{g:Int->Int} (rule:∀(i:Int) (t:Tok) (s:Sd) (Q:Vl->Sd->Prop) (E:Vl->Sd->Prop),Q (.int (g i) s.toks) {s with toks:=s.toks+1}->wpAny (model X.prog X.w) X.A (f (.int i t)) Q E s):
  U9 X f (rU λi=>.int (g i)):=by
 intro Wk s σ H x v Q I rx h;obtain⟨i,rfl,q⟩:=h;obtain⟨t,rfl⟩:=rx;exact rule i t s _ _ ⟨.int (g i),H,I.tok _,⟨_,rfl⟩,q⟩
def QG:U9 X (unaryOp .USub) (rU λi=>.int (-i)):=V4 λ_ _ _ _ _ q=>neg_int q
end
section
variable {a b c:Expr}
def Hf{Wk:List (Addr×Obj)}{σ:St}{H:Hp}{s:Sd}{Q:VK}{k k':Bool}(I:Inv X Wk σ H s)(q:Q (.bl k) H)(e:k=k'):EP X Wk σ Q (.bool k') s:=by subst e;exact⟨.bl k,H,I,rfl,q⟩
def Ud:wY X (compareOp .Lt) (PZ λi j=>.bl (decide (i<j))):=NO λ_ _ _ _ _ _ _ q=>lt_int q
def Tc:wY X (compareOp .LtE) (PZ λi j=>.bl (decide (i<=j))):=NO λ_ _ _ _ _ _ _ q=>le_int q
def TX:wY X (compareOp .Gt) (PZ λi j=>.bl (decide (j<i))):=NO λ_ _ _ _ _ _ _ q=>gt_int q
def TL:wY X (compareOp .GtE) (PZ λi j=>.bl (decide (j<=i))):=NO λ_ _ _ _ _ _ _ q=>ge_int q
def J5:wY X (compareOp .In) (λx y H Q=>∃i j,x=.str i/\y=.str j/\Q (.bl (!(Builtin.Str.occurrences j i 0 j.length 1).isEmpty)) H):=by intro Wk s σ H x y v u Q I rx ry h;obtain⟨i,j,rfl,rfl,q⟩:=h;obtain⟨t,rfl⟩:=rx;obtain⟨t',rfl⟩:=ry;exact in_str (Hf I q rfl)
def Rl:wY X (compareOp .Is) (λx y H Q=>y=.mC/\Q (.bl (decide (x=.mC))) H):=by
 intro Wk s σ H x y v u Q I rx ry h;obtain⟨rfl,q⟩:=h;cases ry;refine is_none_gen (Hf I q ?_);cases x<;>first
  | (cases rx;rfl)
  | (obtain⟨t,rfl⟩:=rx;rfl)
def OU:wY X (compareOp .IsNot) (λx y H Q=>y=.mC/\Q (.bl (!decide (x=.mC))) H):=by
 intro Wk s σ H x y v u Q I rx ry h;obtain⟨rfl,q⟩:=h;cases ry;refine isnot_none_gen (Hf I q ?_);cases x<;>first
  | (cases rx;rfl)
  | (obtain⟨t,rfl⟩:=rx;rfl)
def G5(b:Expr){op:CmpOp}(h:op≠.In:=by decide)(h2:op≠.NotIn:=by decide):behindInMarks op b=false:=by
 have e1:(op==CmpOp.In)=false:=by cases op<;>first|rfl|exact absurd rfl h
 have e2:(op==CmpOp.NotIn)=false:=by cases op<;>first|rfl|exact absurd rfl h2
 cases b<;>simp[behindInMarks,e1,e2]
def IY{op:CmpOp}{r:R2}(ho:wY X (compareOp op) r)(ha:PE X a ta)(hb:PE X b tb)(hm:behindInMarks op b=false):PE X (.Compare a [op] [b] pos) (Tq r ta tb):=by intro Wk s σ H Q I h;exact wpAny_Compare1 (Qt ha hb I h λv u s2 x y H2 I2 rx ry q=>ho Wk s2 σ H2 x y v u Q I2 rx ry q) hm
def Qn(t:TE):TT:=λσ H Q=>t σ H λx H'=>∃k,x=.bl k/\Q k H'
def I0{op:CmpOp}{r:R2}(ho:wY X (compareOp op) r)(ha:PE X a ta)(hb:PE X b tb)(hm:behindInMarks op b=false):PT X (.Compare a [op] [b] pos) (Qn (Tq r ta tb)):=by
 intro Wk s σ H Q I h;refine wpAny_isTrue_Compare1 (rV (ha Wk s σ H _ I h) λv s1 zz=>x5 zz λx H1 I1 r1 q1=>rV (hb Wk s1 σ H1 _ I1 q1) λu s2 zz=>x5 zz λy H2 I2 r2 q2=>
  rV (ho Wk s2 σ H2 x y v u _ I2 r1 r2 q2) λc s3 zz=>?_) hm
 obtain⟨z,H3,I3,r3,k,e,q3⟩:=zz;subst e;cases r3;exact fi ⟨H3,I3,q3⟩
def K'(r r':R2)(ta tb tc:TE):TE:=λσ H Q=>ta σ H λx H1=>tb σ H1 λy H2=>r x y H2 λz H3=>∃k,z=.bl k/\
 (if k=true then tc σ H3 λw' H4=>r' y w' H4 Q else Q (.bl false) H3)
def LS{op Xa:CmpOp}{r r':R2}(ho:wY X (compareOp op) r)(WZ:wY X (compareOp Xa) r')(ha:PE X a ta)(hb:PE X b tb)(hc:PE X c tc) (hm:lastMarks [op,Xa] [b,c]=false:=by with_unfolding_all rfl):PE X (.Compare a [op,Xa] [b,c] pos) (K' r r' ta tb tc):=by
 intro Wk s σ H Q I h;refine Compare_chain (rV (ha Wk s σ H _ I h) λv s1 zz=>x5 zz λx H1 I1 r1 q1=>chain_link (rV (hb Wk s1 σ H1 _ I1 q1) λu s2 zz=>x5 zz λy H2 I2 r2 q2=>
  rV (ho Wk s2 σ H2 x y v u _ I2 r1 r2 q2) λd s3 zz=>?_)) hm
 obtain⟨z,H3,I3,r3,k,e,q3⟩:=zz;subst e;cases r3;refine fi ?_;cases k with
 | false=>exact ite_ff ⟨.bl false,H3,I3,rfl,q3⟩
 | true=>exact ite_tt (chain_last (rV (hc Wk s3 σ H3 _ I3 q3) λw' s4 zz=>x5 zz λz' H4 I4 r4 q4=>WZ Wk s4 σ H4 y z' u w' Q I4 r2 r4 q4))
def Lq{op Xa:CmpOp}{r r':R2}(ho:wY X (compareOp op) r)(WZ:wY X (compareOp Xa) r')(ha:PE X a ta)(hb:PE X b tb)(hc:PE X c tc) (hm:lastMarks [op,Xa] [b,c]=false:=by with_unfolding_all rfl):PT X (.Compare a [op,Xa] [b,c] pos) (Qn (K' r r' ta tb tc)):=by
 intro Wk s σ H Q I h;refine isTrue_chain (rV (ha Wk s σ H _ I h) λv s1 zz=>x5 zz λx H1 I1 r1 q1=>test_link (rV (hb Wk s1 σ H1 _ I1 q1) λu s2 zz=>x5 zz λy H2 I2 r2 q2=>
  rV (ho Wk s2 σ H2 x y v u _ I2 r1 r2 q2) λd s3 zz=>?_)) hm
 obtain⟨z,H3,I3,r3,k,e,q3⟩:=zz;subst e;cases r3;refine fi ?_;cases k with
 | false=>obtain⟨k',e',q'⟩:=q3;cases e';exact ite_ff ⟨H3,I3,q'⟩
 | true=>refine ite_tt (test_last (rV (hc Wk s3 σ H3 _ I3 q3) λw' s4 zz=>x5 zz λz' H4 I4 r4 q4=>rV (WZ Wk s4 σ H4 y z' u w' _ I4 r2 r4 q4) λd' s5 zz=>?_));obtain⟨z2,H5,I5,r5,k2,e2,q5⟩:=zz;subst e2;cases r5;exact fi ⟨H5,I5,q5⟩
def yG:(sizeLine:Nat)<2 ^ 63:=by rw[dM];decide
def Hn:wY X (binaryOp .Add) (λx y H Q=>∃i j,x=.str i/\y=.str j/\i.length+j.length<=sizeLine/\Q (.str (i++j)) H):=by intro Wk s σ H x y v u Q I rx ry h;obtain⟨i,j,rfl,rfl,hz,q⟩:=h;obtain⟨t,rfl⟩:=rx;obtain⟨t',rfl⟩:=ry;exact add_str (λt' tk=>⟨.str (i++j),H,I.tok _,⟨_,rfl⟩,q⟩) hz
def yb{x:V}{us:List Vl}(r:qo [x] us):∃u,us=[u]/\qy x u:=by
 cases r with
 | cons r1 r2=>cases r2;exact⟨_,rfl,r1⟩
def LN{x y:V}{us:List Vl}(r:qo [x,y] us):∃u w',us=[u,w']/\qy x u/\qy y w':=by
 cases r with
 | cons r1 r2=>
  cases r2 with
  | cons r3 r4=>cases r4;exact⟨_,_,rfl,r1,r3⟩
def J7(hc:X.calm=true):yY X (.builtin "min") (λxs H Q=>∃i j,xs=[.int i,.int j]/\Q (.int (if j<i then j else i)) H):=by
 intro Wk s σ H xs us Q I r h;obtain⟨i,j,rfl,q⟩:=h;obtain⟨u,w',rfl,⟨t,rfl⟩,⟨t',rfl⟩⟩:=LN r;refine min_two_ints (I.ok.hd hc) λh' tk k=>⟨_,H,I.kept k,?_,q⟩;by_cases hj:j<i
 .rw[c9 hj,c9 hj];exact⟨_,rfl⟩
 .rw[cY hj,cY hj];exact⟨_,rfl⟩
end
structure GS(h:Heap)(x dx C:Addr)(mA:Str->Option Vl):Prop where
 obj:h.get? x=some (W.instObj C dx)
 ns:h.Ns1 dx mA
 ne:dx≠x
def Jy{h:Heap}{dx:Addr}{mA:Str->Option Vl}(n:h.Ns1 dx mA):∃od,h.get? dx=some od/\∀name,W.lookIn name od=some (mA name):=by
 obtain⟨o,es,ep,ho,hd,hk,_,hm⟩:=n;refine⟨o,ho,λname=>?_⟩;have e:=hm name;unfold nsFind findBy at e;rw[<-kF]at e;unfold W.lookIn;rw[hd];dsimp only;split
 .rename_i y q;rw[q]at e;exact eE some e
 .rename_i q;rw[q]at e;have a:es.toList.any (·.refKey)=false:=by rw[kW];intro y hy;obtain⟨z,t,hkey⟩:=hk y (j5.mp hy);simp[DictEntry.refKey,hkey]
  have a':¬es.toList.any (·.refKey)=true:=by rw[a];exact dw
  rw[cY a'];exact eE some e
def GS.look{h:Heap}{x dx C:Addr}{mA:Str->Option Vl}(I:GS h x dx C mA):∃od,W.InstAt h x (W.instObj C dx) C (some od)/\∀name,W.lookIn name od=some (mA name):=
 let⟨od,ho,hl⟩:=Jy I.ns
 ⟨od,⟨I.obj,rfl,rfl,ho⟩,hl⟩
variable {prog:Pg}{A:Ar}{K:pY}{dx C:Addr}{mA:Str→Option Vl}{name:Str}
section
variable {w:Wo}{E:Vl→Sd→Prop}{x f:Addr}{v:Vl}
def Pw{Y6:Bool}{Q:Vl->Sd->Prop}(X:K.In s.heap)(I:GS s.heap x dx C mA)(hg:W.plainGet K C name=true)(hh:W.hasDictIn K C=true) (ha:W.findIn K (.ref C) name=some none) (hv:mA name=some v) (hv':W.handedIn v=true) (h:Q v {s with toks:=s.toks+1}):
  wpAny (model prog w) A (getAttr (.ref x) name Y6) Q E s:=by
 obtain⟨od,J,hl⟩:=I.look;exact W.get_value X J (ke hg).1 (W.findObj_own hh ha rfl (by rw[hl,hv])) hv' h
def LY{pl:Sem Bool}{Q:Vl×List Vl->Sd->Prop}(X:K.In s.heap)(I:GS s.heap x dx C mA)(hg:W.plainGet K C name=true) (hf:W.findIn K (.ref C) name=some (some (.ref f))) (ht:W.isFn K (.ref f)=true) (hv:mA name=none) (h:Q (.ref f,[.ref x]) s):
  wpAny (model prog w) A (getMethod (.ref x) name pl) Q E s:=by
 obtain⟨od,J,hl⟩:=I.look;exact W.method_fn X J (ke hg).1 (ke hg).2 hf (fk.mp ht) (by show(W.lookIn name od).map (·.isSome)=some false;rw[hl,hv];rfl) h
def PY{ns:List Str}{Q:Unit->Sd->Prop}(X:K.In s.heap)(I:GS s.heap x dx C mA) (hs:W.findIn K (.ref C) "__setattr__"=some (some (.builtin "object.__setattr__"))) (hp:W.plainOver K C=true) (ht:W.takerIn K C name=some none) (hh:W.hasDictIn K C=true) (hw:PySem.Within mA ns) (hsz:ns.length<=sizeLine) (h:∀h',GS h' x dx C (λy=>if y=name then some v else mA y)->Heap.SameBut dx s.heap h'->Q () {s with heap:=h',toks:=s.toks+2}):
  wpAny (model prog w) A (setAttr (.ref x) name v) Q E s:=by
 obtain⟨od,J,hl⟩:=I.look;refine W.set_plain X J hs (W.osa_open (s:={s with toks:=s.toks+1}) (r:=none) X J hp ht λb=>?_);obtain⟨cd,hc,hd'⟩:=W.any_some hh;have hx:s.heap.get? x=some ⟨.ref C,some dx,.plain,#[]⟩:=I.obj;refine cU (de (cU (cU (wpAny_loadPart hx (cU (lY (s:={s with toks:=s.toks+1}) (kg X hc) ?_))))));rw[hd'];refine de (a:=some dx) (cU (de (cU ?_)));refine wpAny_nsSet1 (s:={s with toks:=s.toks+1}) I.ns λh' Y7 X0=>?_;obtain⟨oD,esD,epD,hoD,Gu,hcD⟩:=Y7.count (PySem.Within.cons name v hw);refine cU (lA hoD (by rw[Gu];exact lB (dY hcD (by rw[d6];omega))) ?_);exact de (h _ ⟨(X0.2 _ (dJ I.ne)).trans I.obj,Y7,I.ne⟩ X0)
def Kl{R:Result->Sd->Prop}{vs:List Vl}{kw:List (Str×Vl)}(X:K.In s.heap)(hm:W.makesIn K C=true) (hi:W.findIn K (.ref C) "__init__"=some (some (.ref f))) (hf:W.typeIn K (.ref f)=some (.type "function")) (h:codeAny (model prog w) (A.under (.builtin "type.__call__" ⟨.ref C::vs,kw⟩)) (.call (.ref f) ⟨.ref (s.heap.objs.size+1)::vs,kw⟩) (W.InitBack (s.heap.objs.size+1) R) {s with heap:=(s.heap.push W.emptyDict).push (W.instObj C s.heap.objs.size)}):
  codeAny (model prog w) A (.call (.ref C) ⟨vs,kw⟩) R s:=by
 obtain⟨hh,g,d,t,os⟩:=s;exact W.make_core (W.makes_of X hm) (iU X hi) (λself=>W.bind_fn X self hf) (.inl rfl) h
end
def vg(f:Str)(v:V):List (Str×V)->List (Str×V)
 | []=>[(f,v)]
 | (g,x)::r=>if g=f then(g,v)::r else(g,x)::vg f v r
theorem z9(f g:Str)(v:V):∀fs:List (Str×V),(vg f v fs).lookup g=if g=f then some v else fs.lookup g
 | []=>by
  show List.lookup g [(f,v)]=_;by_cases h:g=f
  .have hb:(g==f)=true:=fk.mpr h;simp only[List.lookup,hb,c9 h]
  .have hb:(g==f)=false:=gj.mpr h;simp only[List.lookup,hb,cY h]
 | (k,x)::r=>by
  have ih:=z9 f g v r;rw[show vg f v ((k,x)::r)=(if k=f then(k,v)::r else(k,x)::vg f v r)from rfl];by_cases hk:k=f
  .rw[c9 hk];by_cases h:g=k
   .have hb:(g==k)=true:=fk.mpr h;simp only[List.lookup,hb,c9 (h.trans hk)]
   .have hb:(g==k)=false:=gj.mpr h;simp only[List.lookup,hb,cY (λe:g=f=>h (e.trans hk.symm))]
  .rw[cY hk];by_cases h:g=k
   .have hb:(g==k)=true:=fk.mpr h;simp only[List.lookup,hb,cY (λe:g=f=>hk (h.symm.trans e))]
   .have hb:(g==k)=false:=gj.mpr h;simp only[List.lookup,hb];exact ih
theorem zy(f:Str)(v:V):∀fs:List (Str×V),f∈(vg f v fs).map (·.1)/\∀g,g∈fs.map (·.1)->g∈(vg f v fs).map (·.1)
 | []=>⟨by simp[vg],λg h=>by simp at h⟩
 | (k,x)::r=>by
  obtain⟨i1,i2⟩:=zy f v r;rw[show vg f v ((k,x)::r)=(if k=f then(k,v)::r else(k,x)::vg f v r)from rfl];by_cases hk:k=f
  .rw[c9 hk];subst hk;exact⟨by simp,λg h=>by simpa using h⟩
  .rw[cY hk];refine⟨?_,λg h=>?_⟩
   .rw[dS];exact dC _ i1
   .rw[dS]at h ⊢;rcases df.mp h with e|e
    .exact df.mpr (.inl e)
    .exact dC _ (i2 g e)
theorem zZ(f:Str)(v:V):∀fs:List (Str×V),(vg f v fs).length<=fs.length+1
 | []=>by simp[vg]
 | (k,x)::r=>by
  have ih:=zZ f v r;rw[show vg f v ((k,x)::r)=(if k=f then(k,v)::r else(k,x)::vg f v r)from rfl];by_cases hk:k=f
  .rw[c9 hk,d6,d6];omega
  .rw[cY hk,d6,d6];omega
def xY.some_of{v:V}{o:Option Vl}(r:xY (some v) o):∃u,o=some u/\qy v u:=by
 cases o with
 | none=>exact(show False from r).elim
 | some u=>exact⟨u,rfl,r⟩
def xY.none_of{o:Option Vl}(r:xY none o):o=none:=by
 cases o with
 | none=>rfl
 | some u=>exact(show False from r).elim
def JK{v:V}{u:Vl}(r:qy v u):W.handedIn u=true:=by
 cases v with
 | mC=>cases(show u=Value.none from r);rfl
 | bl b=>cases(show u=Value.bool b from r);rfl
 | int i=>obtain⟨t,e⟩:=(show ∃t,u=Value.int i t from r);cases e;rfl
 | str x=>obtain⟨t,e⟩:=(show ∃t,u=Value.str x t from r);cases e;rfl
 | byt b=>obtain⟨t,e⟩:=(show ∃t,u=Value.bytes b t from r);cases e;rfl
 | flt b=>obtain⟨t,e⟩:=(show ∃t,u=Value.float b t from r);cases e;rfl
 | ref a=>cases(show u=Value.ref a from r);rfl
 | ty n=>cases(show u=Value.type n from r);rfl
section
variable {P:Pg}{w:Wo}{a:Addr}{fs fs':List (Str × V)}
def AO(mG:x9 P w H h)(e:H a=some (.ins C dx fs)):∃mA,GS h a dx C mA/\(∀f,xY (fs.lookup f) (mA f))/\PySem.Within mA (fs.map (·.1))/\fs.length<=1000/\H dx=some (.own a):=by obtain⟨d,z,ne,ob,mA,n,r,q⟩:=(show rP P w H h a (.ins C dx fs)from mG a _ e);exact⟨mA,⟨ob,n,ne⟩,r,q,z,d⟩
end
structure Cls(K:pY)(C:Addr):Prop where
 pg:W.plainGet K C Str.empty=true
 hd:W.hasDictIn K C=true
 po:W.plainOver K C=true
 sa:W.findIn K (.ref C) "__setattr__"=some (some (.builtin "object.__setattr__"))
def Cls.get{K:pY}{C:Addr}(c:Cls K C)(f:Str):W.plainGet K C f=true:=c.pg
def tL(K:pY)(C:Addr)(f:Str):Prop:=W.findIn K (.ref C) f=some none
def tL.oH{K:pY}{C:Addr}{f:Str}(n:tL K C f):W.takerIn K C f=some none:=by unfold W.takerIn;rw[show W.findIn K (.ref C) f=some none from n];rfl
structure Wj(K:pY)(C:Addr)(f:Str)(v:V)(u:Vl):Prop where
 at_:W.findIn K (.ref C) f=some (some u)
 rel:qy v u
 get:W.specialIn K u "__get__"=some none
 cp:W.copiedNames.contains f=false
structure vf(K:pY)(C:Addr)(m:Str)(f:Addr):Prop where
 at_:W.findIn K (.ref C) m=some (some (.ref f))
 fn:W.isFn K (.ref f)=true
 kp:W.keepIn K (.ref f)=true
section
variable {σ:St}{a:Addr}{fs:List (Str × V)}{f:Str}{v:V}{E:Vl→Sd→Prop}
def B4{b:Bool}{Q:Vl->Sd->Prop}(I:Inv X Wk σ H s)(e:H a=some (.ins C dx fs))(c:Cls X.K C)(n:tL X.K C f)(l:fs.lookup f=some v) (h:∀u s',Inv X Wk σ H s'->qy v u->Q u s'):wpAny (model X.prog X.w) A (getAttr (.ref a) f b) Q E s:=by
 obtain⟨mA,O,r,_,_,_⟩:=AO I.mG e;obtain⟨u,hu,ru⟩:=xY.some_of (v:=v) (o:=mA f) (by rw[<-l];exact r f);exact Pw I.mQ O (c.get f) c.hd n hu (JK ru) (h u _ (I.tok _) ru)
def BF{m:Str}{g:Addr}{pl:Sem Bool}{Q:Vl×List Vl->Sd->Prop}(I:Inv X Wk σ H s)(e:H a=some (.ins C dx fs))(c:Cls X.K C)(k:vf X.K C m g)(l:fs.lookup m=none) (h:Q (.ref g,[.ref a]) s):wpAny (model X.prog X.w) A (getMethod (.ref a) m pl) Q E s:=by
 obtain⟨mA,O,r,_,_,_⟩:=AO I.mG e;have hn:mA m=none:=xY.none_of (by rw[<-l];exact r m);exact LY I.mQ O (c.get m) k.at_ k.fn hn h
def Bs{y:V}{u:Vl}{Q:Unit->Sd->Prop}(I:Inv X Wk σ H s)(e:H a=some (.ins C dx fs))(c:Cls X.K C)(n:tL X.K C f)(hl:fs.length<1000)(ry:qy y u) (h:∀s',Inv X Wk σ (upd H a (.ins C dx (vg f y fs))) s'->Q () s'):wpAny (model X.prog X.w) A (setAttr (.ref a) f u) Q E s:=by
 obtain⟨mA,O,r,wi,_,ho⟩:=AO I.mG e;have hz:(fs.map (·.1)).length<=sizeLine:=by rw[cT,dM];omega
 refine PY I.mQ O c.sa c.po n.oH c.hd wi hz λh' O' sb=>h _ ?_;have hd:∃o,h'.get? dx=some o:=let⟨o,_,_,e',_⟩:=O'.ns;⟨o,e'⟩;refine I.write (x:=a) (e:=dx) (by rw[e];exact True.intro) (.inr ho) (λb q hb z=>(sb.2 b hb).trans z) hd ?_;refine⟨by rw[pL O.ne];exact ho,?_,O.ne,O'.obj,_,O'.ns,λg=>?_,λg hg=>?_⟩
 .have:=zZ f y fs;omega
 .show xY ((vg f y fs).lookup g) (if g=f then some u else mA g);rw[z9];by_cases q:g=f
  .rw[c9 q,c9 q];exact ry
  .rw[cY q,cY q];exact r g
 .by_cases q:g=f
  .rw[q];exact(zy f y fs).1
  .refine(zy f y fs).2 g (wi g λz=>hg ?_);show(if g=f then some u else mA g)=none;rw[cY q];exact z
def Inv.made(I:Inv X Wk σ H s):Inv X Wk σ (upd (upd H s.heap.objs.size (.own (s.heap.objs.size+1))) (s.heap.objs.size+1) (.ins C s.heap.objs.size [])) {s with heap:=(s.heap.push W.emptyDict).push (W.instObj C s.heap.objs.size)}:=by
 have e1:(s.heap.push W.emptyDict).get? s.heap.objs.size=some W.emptyDict:=dF s.heap rfl;have e2:((s.heap.push W.emptyDict).push (W.instObj C s.heap.objs.size)).get? (s.heap.objs.size+1)=some (W.instObj C s.heap.objs.size):=by
  have:=dF (s.heap.push W.emptyDict) (o:=W.instObj C s.heap.objs.size) rfl
  rwa [fm]at this
 have e3:(s.heap.push W.emptyDict).Ns s.heap.objs.size (λ_=>none):=⟨W.emptyDict,#[],_,e1,rfl,(λe he=>absurd he (by simp)),λ_=>rfl⟩;have I1:=I.laid (a:=s.heap.objs.size) (o:=.own (s.heap.objs.size+1)) (h':=s.heap.push W.emptyDict) (t':=s.toks) (λb u q=>cZ _ q) (dg _) ⟨_,e1⟩;refine I1.laid (a:=s.heap.objs.size+1) (o:=.ins C s.heap.objs.size []) (t':=s.toks) (λb u q=>cZ _ q) (lZ (fm _ _)) ?_;have ne:s.heap.objs.size≠s.heap.objs.size+1:=dG (fv _);refine⟨by rw[pL ne,pS],eX _,ne,e2,λ_=>none,(kX e3).at λo q=>cZ _ q,λ_=>True.intro,λy hy=>absurd rfl hy⟩
def HI{prog:Pg}{w:Wo}{env:Env}{e:Expr}{f:Str}{pos:Pos}{s:Sd}{Q:Vl->Sd->Prop}(hb:attributeBase e f env (eval e env)=eval e env) (h:wpAny (model prog w) A (eval e env) (λo s₁=>wpAny (model prog w) A (getAttr o f true) Q E s₁) E s):wpAny (model prog w) A (eval (.Attribute e f pos) env) Q E s:=
 Attribute_any_ h (by rw[arm_eval_Attribute,hb])
end
def UH(K:pY)(ta:TE)(f:Str):TE:=λσ H Q=>ta σ H λx H1=>∃a C dx fs v,x=.ref a/\H1 a=some (.ins C dx fs)/\Cls K C/\tL K C f/\fs.lookup f=some v/\Q v H1
def Vm(K:pY)(ta tv:TE)(f:Str):TS:=λD σ H=>tv σ H λy H1=>ta σ H1 λx H2=>∃a C dx fs,x=.ref a/\H2 a=some (.ins C dx fs)/\Cls K C/\tL K C f/\fs.length<1000/\
 D.nx σ (upd H2 a (.ins C dx (vg f y fs)))
def Of(X:Cx)(op:Operator)(rd:V->V->Hp->VK->Prop):Prop:=
 ∀(Wk:List (Addr×Obj)) (s:Sd) (σ:St) (H:Hp) (x y:V) (u v:Vl) (Q:VK),Inv X Wk σ H s->qy x u->qy y v->rd x y H Q->wpAny (model X.prog X.w) X.A (inplaceOp op u v) (EP X Wk σ Q) X.xe s
def OL(K:pY)(ta tv:TE)(rd:V->V->Hp->VK->Prop)(f:Str):TS:=λD σ H=>ta σ H λx H1=>∃a C dx fs v,x=.ref a/\H1 a=some (.ins C dx fs)/\Cls K C/\tL K C f/\fs.lookup f=some v/\
 tv σ H1 λy H2=>rd v y H2 λz H3=>∃Y8 fs',H3 a=some (.ins C Y8 fs')/\fs'.length<1000/\D.nx σ (upd H3 a (.ins C Y8 (vg f z fs')))
variable {value:Expr}{Wt Yu:Pos}{tv:TE}
section
variable {o e:Expr}{f:Str}
def QF(he:PE X e ta)(hb:attributeBase e f X.env (eval e X.env)=eval e X.env):PE X (.Attribute e f pos) (UH X.K ta f):=by intro Wk s σ H Q I h;refine HI hb (rV (he Wk s σ H _ I h) λu s1 zz=>?_);obtain⟨x,H1,I1,rx,a,C,dx,fs,v,ex,ea,c,n,l,q⟩:=zz;subst ex;obtain rfl:u=Value.ref a:=rx;exact B4 I1 ea c n l λu' s2 I2 ru=>⟨v,H1,I2,ru,q⟩
def Sb(ha:PE X o ta)(hv:PE X value tv)(hs:swapsWith value (some (.Attribute o f Wt)) pos.line X.env=pure false):PS X (.Assign [.Attribute o f Wt] value pos) (Vm X.K ta tv f):=by intro Wk s σ H D I h;refine iD (rV (hv Wk s σ H _ I h) λu s1 zz=>x5 zz λy H1 I1 ry q=>rV (ha Wk s1 σ H1 _ I1 q) λov s2 zz=>?_) hs;obtain⟨x,H2,I2,rx,a,C,dx,fs,ex,ea,c,n,l,q2⟩:=zz;subst ex;obtain rfl:ov=Value.ref a:=rx;exact Bs I2 ea c n l ry λs3 I3=>⟨σ,_,I3,q2⟩
def Kb{op:Operator}{rd:V->V->Hp->VK->Prop}(ha:PE X o ta)(hv:PE X value tv)(hop:Of X op rd):PS X (.AugAssign (.Attribute o f Yu) op value pos) (OL X.K ta tv rd f):=by intro Wk s σ H D I h;refine wpAny_AugAssign_AttributeAny (rV (ha Wk s σ H _ I h) λov s1 zz=>?_);obtain⟨x,H1,I1,rx,a,C,dx,fs,v,ex,ea,c,n,l,q⟩:=zz;subst ex;obtain rfl:ov=Value.ref a:=rx;refine B4 I1 ea c n l λu s2 I2 ru=>rV (hv Wk s2 σ H1 _ I2 q) λw3 s3 zz=>x5 zz λy H2 I3 ry q3=>rV (hop Wk s3 σ H2 v y u w3 _ I3 ru ry q3) λw4 s4 zz=>?_;obtain⟨z,H3,I4,rz,Y8,fs',ea',l',q4⟩:=zz;exact Bs I4 ea' c n l' rz λs5 I5=>⟨σ,_,I5,q4⟩
def Vh:V->V->Hp->VK->Prop:=λx y H Q=>∃i j,x=.int i/\y=.int j/\Q (.int (i+j)) H
def Vp:V->V->Hp->VK->Prop:=λx y H Q=>∃i j,x=.int i/\y=.int j/\Q (.int (i - j)) H
def Qv:Of X .Add Vh:=by
 rintro Wk s σ H x y u v Q I rx ry ⟨i,j,rfl,rfl,q⟩
 obtain⟨t,rfl⟩:=(show ∃t,u=Value.int i t from rx);obtain⟨t',rfl⟩:=(show ∃t',v=Value.int j t' from ry);exact PyProof.Rows.iadd_int ⟨.int (i+j),H,I.tok _,⟨_,rfl⟩,q⟩
def Q9:Of X .Sub Vp:=by
 rintro Wk s σ H x y u v Q I rx ry ⟨i,j,rfl,rfl,q⟩
 obtain⟨t,rfl⟩:=(show ∃t,u=Value.int i t from rx);obtain⟨t',rfl⟩:=(show ∃t',v=Value.int j t' from ry);exact PyProof.Rows.isub_int ⟨.int (i - j),H,I.tok _,⟨_,rfl⟩,q⟩
end
variable {Q:Vl→Sd→Prop}
section
variable {σ:St}{E:Vl→Sd→Prop}{c:Vl}{b:Bool}
inductive An(K:pY)(H:Hp):V->Vl->Prop where
 | mC:An K H .mC (.type "NoneType")
 | bl (x:Bool):An K H (.bl x) (.type "bool")
 | int (i:Int):An K H (.int i) (.type "int")
 | str (x:Str):An K H (.str x) (.type "str")
 | flt (x:UInt64):An K H (.flt x) (.type "float")
 | lst {a:Addr} {xs:List V} (e:H a=some (.lst xs)):An K H (.ref a) (.type "list")
 | frz {a:Addr} {o:Obj} {xs:List V} (e:H a=some (.frz o (.lst xs))):An K H (.ref a) (.type "list")
 | tup {a:Addr} {xs:List V} (e:H a=some (.tup xs)):An K H (.ref a) (.type "tuple")
 | dK {a:Addr} {kvs:List (qR×V)} (e:H a=some (.dK kvs)):An K H (.ref a) (.type "dict")
 | dT {a:Addr} {kvs:List (List qR×V)} (e:H a=some (.dT kvs)):An K H (.ref a) (.type "dict")
 | ins {a C dx:Addr} {fs:List (Str×V)} (e:H a=some (.ins C dx fs)) (cl:Cls K C) (ha:W.findIn K (.ref C) "__class__"=some (some (.builtin "object.__class__")))
   (hn:W.specialIn K (.builtin "object.__class__") "__get__"=some (some (.builtin "getset_descriptor.__get__"))) (htk:W.takesIn K (.builtin "object.__class__")=some true)
   (hm:W.mroIn K C (.type "object")=some true):An K H (.ref a) (.ref C)
def um{x:V}{u t:Vl}(I:Inv X Wk σ H s)(rx:qy x u)(ty:An X.K H x t)(e:W.kitOne X.K t c=some b)(h:∀tk,Q (.bool b) {s with toks:=tk}):
  wpAny (model X.prog X.w) A (call (.builtin "isinstance") [u,c]) Q E s:=by
 cases ty with
 | mC=>cases(show u=Value.none from rx);exact gi W.kitx_none I.mQ True.intro e (λz=>nomatch z) h
 | bl y=>cases(show u=Value.bool y from rx);exact gi W.kitx_bool I.mQ True.intro e (λz=>nomatch z) h
 | int i=>obtain⟨t,q⟩:=(show ∃t,u=Value.int i t from rx);cases q;exact gi W.kitx_int I.mQ True.intro e (λz=>nomatch z) h
 | str y=>obtain⟨t,q⟩:=(show ∃t,u=Value.str y t from rx);cases q;exact gi W.kitx_str I.mQ True.intro e (λz=>nomatch z) h
 | flt y=>obtain⟨t,q⟩:=(show ∃t,u=Value.float y t from rx);cases q;exact gi W.kitx_float I.mQ True.intro e (λz=>nomatch z) h
 | @lst a xs ea=>cases(show u=Value.ref a from rx);obtain⟨_,_,n,_,h1⟩:=(show rP X.prog X.w H s.heap a (.lst xs)from I.mG a _ ea);exact gi ls I.mQ ⟨_,h1,rfl⟩ e (λz=>nomatch z) h
 | @frz a ob xs ea=>cases(show u=Value.ref a from rx);obtain⟨_,_,_,n,_,h1⟩:=(show rP X.prog X.w H s.heap a (.frz ob (.lst xs))from I.mG a _ ea);exact gi ls I.mQ ⟨_,h1,rfl⟩ e (λz=>nomatch z) h
 | @tup a xs ea=>cases(show u=Value.ref a from rx);obtain⟨_,_,_,p⟩:=(show rP X.prog X.w H s.heap a (.tup xs)from I.mG a _ ea);obtain⟨o,h1,h2,_⟩:=p;exact gi W.kitx_tuple I.mQ ⟨o,h1,h2⟩ e (λz=>nomatch z) h
 | @dK a kvs ea=>cases(show u=Value.ref a from rx);obtain⟨_,_,vs,_,p⟩:=(show rP X.prog X.w H s.heap a (.dK kvs)from I.mG a _ ea);obtain⟨o,es,ep,h1,h2,_⟩:=p;exact gi W.kitx_dict I.mQ ⟨o,h1,h2.1⟩ e (λz=>nomatch z) h
 | @dT a kvs ea=>cases(show u=Value.ref a from rx);obtain⟨_,_,xs,_,o,es,ep,h1,h2,_⟩:=(show rP X.prog X.w H s.heap a (.dT kvs)from I.mG a _ ea);exact gi W.kitx_dict I.mQ ⟨o,h1,h2.1⟩ e (λz=>nomatch z) h
 | @ins a C dx fs ea cl ha hn htk hm=>cases(show u=Value.ref a from rx);obtain⟨mA,O,_⟩:=AO I.mG ea;obtain⟨od,J,_⟩:=O.look;exact gi (W.kitx_own (cl.get _) cl.hd ha hn htk hm) I.mQ J e (λz=>nomatch z) h
end
structure rD(k:Nat)(A:Ar):Prop where
 hd:A.handled=none
 dp:A.depth+3*k+5<recursionLimit
 un:A.units+16*k+200<cLine
def rD.mono{j k:Nat}{A:Ar}(r:rD k A)(h:j<=k):rD j A:=⟨r.hd,by have:=r.dp;omega,by have:=r.un;omega⟩
def rD.deeper{k:Nat}{A:Ar}(r:rD (k+1) A)(env:Env):rD k (A.deeper env):=
 ⟨r.hd,by have:=r.dp;show A.depth+1+3*k+5<_;omega,by have:=r.un;show A.units+3+16*k+200<_;omega⟩
def Hu{A:Ar}{C:Addr}{us:List Vl}{kw:List (Str×Vl)}:(A.under (.builtin "type.__call__" ⟨.ref C::us,kw⟩)).depth=A.depth+1:=by first|rfl|simp[Around.under,Code.weight,Code.isCreation,Code.isGuard,Code.isCaller,Code.frames,Code.isFrame,guardIds]
def GI{A:Ar}{C:Addr}{us:List Vl}{kw:List (Str×Vl)}:(A.under (.builtin "type.__call__" ⟨.ref C::us,kw⟩)).units=A.units+1:=by first|rfl|simp[Around.under,Code.cUnits,Code.frames,Code.isFrame]
def rD.make{k:Nat}{A:Ar}(r:rD (k+1) A)(C:Addr)(us:List Vl)(kw:List (Str×Vl)):rD k (A.under (.builtin "type.__call__" ⟨.ref C::us,kw⟩)):=
 ⟨r.hd,by have:=r.dp;rw[Hu];omega,by have:=r.un;rw[GI];omega⟩
def rD.depth{k:Nat}{A:Ar}(r:rD k A):A.depth<recursionLimit:=by have:=r.dp;omega
def rD.units{k:Nat}{A:Ar}(r:rD k A):A.units+64<cLine:=by have:=r.un;omega
def Tp:TA:=λ_ H Q=>Q [] H
def SH(ta:TE)(tr:TA):TA:=λσ H Q=>ta σ H λx H1=>tr σ H1 λxs H2=>Q (x::xs) H2
variable {es:List Expr}
section
variable {e:Expr}{t:TA}
def So:PA X [] Tp:=λ_ _ _ _ H Q I h=>ji ⟨[],H,I,.nil,h⟩
def PV(ha:PE X e te)(hr:PA X es t)(hs:AV X e es:=by rfl):PA X (e::es) (SH te t):=by intro pos Wk s σ H Q I h;rw[hs];show wpAny _ _ (spliced ((false,eval e X.env)::backTo pos (starEach es X.env))) _ _ s;refine ja (rV (ha Wk s σ H _ I h) λu s1 zz=>x5 zz λx H1 I1 r1 q1=>?_);exact rV (hr pos Wk s1 σ H1 _ I1 q1) λus s2 zz=>x5 zz λxs H2 I2 r2 q2=>⟨x::xs,H2,I2,.cons r1 r2,q2⟩
def Vu(t:TA):TE:=λσ H Q=>t σ H λxs H1=>xs.length<=sizeLine/\∀p,H1 p=none->Q (.ref p) (upd H1 p (.tup xs))
def UT(t:TA):TE:=λσ H Q=>t σ H λxs H1=>xs.length<=sizeLine/\∀p,H1 p=none->Q (.ref p) (upd H1 p (.lst xs))
def QR{x1}(h:PA X es t):PE X (.Tuple es x1 pos) (Vu t):=by intro Wk s σ H Q I hq;refine wpAny_Tuple_spliced (rV (h pos Wk s σ H _ I hq) λus s1 ⟨xs,H1,I1,r,z,q⟩=>⟨by rw[<-r.length];exact z,?_⟩);have hf:H1 s1.heap.objs.size=none:=I1.mG.fresh (dg _);refine⟨.ref s1.heap.objs.size,upd H1 s1.heap.objs.size (.tup xs),I1.laid (t':=s1.toks) (λb u e=>cZ _ e) (dg _) ?_,rfl,q _ hf⟩;exact⟨z,us,r,⟨_,dF _ rfl,rfl,⟨_,rfl⟩,rfl⟩⟩
def RY(h:PA X es t):PE X (.List es pos) (UT t):=by intro Wk s σ H Q I hq;refine wpAny_List_spliced (rV (h pos Wk s σ H _ I hq) λus s1 ⟨xs,H1,I1,r,z,q⟩=>⟨by rw[<-r.length];exact z,?_⟩);have hf:H1 s1.heap.objs.size=none:=I1.mG.fresh (dg _);refine⟨.ref s1.heap.objs.size,upd H1 s1.heap.objs.size (.lst xs),I1.laid (t':=s1.toks) (λb u e=>cZ _ e) (dg _) ?_,rfl,q _ hf⟩;exact⟨z,us,0,r,dF _ rfl⟩
end
abbrev Sp:=List V->Hp->VK->XK->Prop
abbrev Ke:=List Env->Hp->Sd->XK->Vl->Sd->Prop
structure G9(P:Pg)(w:Wo)(K:pY)(mg:Str->Option Vl)(base:Heap)(A:Ar)(outer:List Env)(s:Sd)(H:Hp):Prop where
 frames:A.frames=some outer
 mod:Mod K mg base
 bs:∀b o,base.get? b=some o->s.heap.get? b=some o/\H b=none
 nO:base.objs.size<=s.heap.objs.size
 m8:s.heap.FunFrames base outer
 nU:∀b∈vJ outer,H b=none
 mG:x9 P w H s.heap
 bare:AllBare s.gens
def CE(outer:List Env)(P:Pg)(w:Wo)(H:Hp)(s:Sd)(Q:VK)(u:Vl)(s':Sd):Prop:=
 ∃v H',s'.os=s.os/\AllBare s'.gens/\Un (vJ outer) [] H H' s.heap s'.heap/\x9 P w H' s'.heap/\qy v u/\Q v H'
def CR(CX:Ke)(outer:List Env)(P:Pg)(w:Wo)(H:Hp)(s:Sd)(Q:VK)(E:XK)(r:Result)(s':Sd):Prop:=
 match r with
 | .ok (.ret u)=>CE outer P w H s Q u s'
 | .ok _=>False
 | .error e=>CX outer H s E e s'
structure wR(P:Pg)(w:Wo)(K:pY)(mg:Str->Option Vl)(base:Heap)(CX:Ke)(k:Nat)(f:Addr)(fd:FuncData)(ps:List Str)(sp:Sp):Prop where
 len:∀vs H Q E,sp vs H Q E->vs.length=ps.length
 run:∀(A:Ar) (outer:List Env) (s:Sd) (H:Hp) (args:Args) (us:List Vl) (vs:List V) (Q:VK) (E:XK),rD k A->G9 P w K mg base A outer s H->BindsTo s fd args (ps.zip us)->qo vs us->sp vs H Q E->
  codeAny (model P w) A (.call (.ref f) args) (CR CX outer P w H s Q E) s
def G9.make{P:Pg}{w:Wo}{K:pY}{mg:Str->Option Vl}{base:Heap}{A:Ar}{outer:List Env}{s:Sd}{H:Hp}(e:G9 P w K mg base A outer s H)(C:Addr)(us:List Vl)(kw:List (Str×Vl)):
  G9 P w K mg base (A.under (.builtin "type.__call__" ⟨.ref C::us,kw⟩)) outer s H:=⟨by first|exact e.frames|(simpa [Around.under,Code.envs,Code.isFrame,pushEnvs]using e.frames),e.mod,e.bs,e.nO,e.m8,e.nU,e.mG,e.bare⟩
variable {s':Sd}
section
variable {σ:St}
def Inv.nQ(I:Inv X Wk σ H s):G9 X.prog X.w X.K X.mg X.base X.A X.stack s H:=
 ⟨I.ok.frames,I.ok.mod,I.bs,dY I.ok.nO I.sz,I.stack,I.nu,I.mG,I.bare⟩
def Inv.after{Q:VK}{u:Vl}(I:Inv X Wk σ H s)(h:CE X.stack X.prog X.w H s Q u s'):EP X Wk σ Q u s':=by obtain⟨v,H',os,bare,un,mG,r,q⟩:=h;obtain⟨hh,g,d,t,Y9⟩:=s';obtain rfl:Y9=s.os:=os;exact⟨v,H',I.call (h':=hh) (g':=g) (d':=d) (t':=t) (ch:=[]) un mG bare (λb z=>absurd z (by simp)),r,q⟩
end
def Ti(sp:Sp)(W7:List V)(E:XK)(t:TA):TE:=λσ H Q=>t σ H λvs H1=>sp (vs++W7) H1 Q E
def Ul(C:Addr)(sp:Sp)(W7:List V)(E:XK)(t:TA):TE:=λσ H Q=>t σ H λvs H1=>∀x dx,H1 x=none->H1 dx=none->dx≠x->
 sp (.ref x::(vs++W7)) (upd (upd H1 dx (.own x)) x (.ins C dx [])) (λv H2=>v=.mC/\Q (.ref x) H2) E
def uy(K:pY)(fd:FuncData)(ps:List Str)(ds:List Vl):Prop:=
 ∀(s:Sd) (us:List Vl),K.In s.heap->(us++ds).length=ps.length->BindsTo s fd ⟨us,[]⟩ (ps.zip (us++ds))
def uy.all{K:pY}{fd:FuncData}{ps:List Str}(h:∀us:List Vl,us.length=ps.length->bindArgs fd ⟨us,[]⟩=pure (ps.zip us)):uy K fd ps []:=λs us _ hl=>by rw[eY]at hl ⊢;exact .of_eq (h us hl)
def Bb(CX:Ke)(X:Cx)(E:XK):Prop:=∀(Wk:List (Addr×Obj)) (σ:St) (H:Hp) (s:Sd) (e:Vl) (s':Sd),Inv X Wk σ H s->CX X.stack H s E e s'->X.xe e s'
variable {CX:Ke}{k:Nat}{fd:FuncData}{ps:List Str}{sp:Sp}{W7:List V}{ds:List Vl}{m:Str}{p Wn:Pos}
section
variable {f:Addr}{E:XK}{x:Str}{e o:Expr}{t:TA}
def DH{Wk:List (Addr×Obj)}{σ:St}{H:Hp}{s:Sd}{Q:VK}{us:List Vl}{vs:List V}(F:wR X.prog X.w X.K X.mg X.base CX k f fd ps sp)(hr:rD k X.A)(hb:uy X.K fd ps ds)(hd:qo W7 ds)(hx:Bb CX X E) (I:Inv X Wk σ H s) (r:qo vs us) (h:sp (vs++W7) H Q E):wpAny (model X.prog X.w) X.A (call (.ref f) us) (EP X Wk σ Q) X.xe s:=by
 have r2:qo (vs++W7) (us++ds):=r.append hd;have hl:(us++ds).length=ps.length:=by rw[<-r2.length];exact F.len _ _ _ _ h
 refine hJ (gf (F.run X.A X.stack s H ⟨us,[]⟩ (us++ds) (vs++W7) Q E hr I.nQ (hb s us I.mQ hl) r2 h) λr s' hq=>?_);cases r with
 | error e=>exact hx Wk σ H s e s' I hq
 | ok fl=>
  cases fl with
  | ret u=>exact I.after hq
  | next=>exact False.elim hq
  | brk=>exact False.elim hq
  | cont=>exact False.elim hq
def Oz(F:wR X.prog X.w X.K X.mg X.base CX k f fd ps sp)(hr:rD k X.A)(hg:Gl X x)(hm:X.mg x=some (.ref f))(hk:W.keepIn X.K (.ref f)=true)(hb:uy X.K fd ps ds)(hd:qo W7 ds)(hx:Bb CX X E) (ha:PA X (e::es) t) (WE:yk x:=by decide) (he:AV X e es:=by rfl) (WA:Cd X pos es:=by rfl):
  PE X (.Call (.Name x p) (e::es) [] pos) (Ti sp W7 E t):=by
 intro Wk s σ H Q I h;refine gb (wB I hg hm ?_ WE);refine iE (h₀:=X.base) I.ok.mod.oh hk (rV (ha pos Wk s σ H _ I h) λus s1 zz=>x5 zz λvs H1 I1 r q=>⟨I1.mQ,?_⟩) he WA;exact DH F hr hb hd hx I1 r q
structure Mk(K:pY)(C f:Addr):Prop where
 makes:W.makesIn K C=true
 init:W.findIn K (.ref C) "__init__"=some (some (.ref f))
 fn:W.isFn K (.ref f)=true
 kp:W.keepIn K (.ref C)=true
def K0{Wk:List (Addr×Obj)}{σ:St}{H:Hp}{s:Sd}{Q:VK}{us:List Vl}{vs:List V}(M:Mk X.K C f)(F:wR X.prog X.w X.K X.mg X.base CX k f fd ps sp)(hr:rD (k+1) X.A)(hb:uy X.K fd ps ds)(hd:qo W7 ds) (hx:Bb CX X E) (I:Inv X Wk σ H s) (r:qo vs us) (h:∀x dx,H x=none->H dx=none->dx≠x->sp (.ref x::(vs++W7)) (upd (upd H dx (.own x)) x (.ins C dx [])) (λv H2=>v=.mC/\Q (.ref x) H2) E):
  wpAny (model X.prog X.w) X.A (call (.ref C) us) (EP X Wk σ Q) X.xe s:=by
 have hq:=h (s.heap.objs.size+1) s.heap.objs.size (I.mG.fresh (gS _)) (I.mG.fresh (dg _)) (dG (fv _));have I2:=Inv.made (C:=C) I;have r2:qo (V.ref (s.heap.objs.size+1)::(vs++W7)) (Value.ref (s.heap.objs.size+1)::(us++ds)):=.cons rfl (r.append hd);have hl:(Value.ref (s.heap.objs.size+1)::us++ds).length=ps.length:=by have e:=r2.length;rw[F.len _ _ _ _ hq]at e;exact e.symm
 refine hJ (Kl (f:=f) I.mQ M.makes M.init (fk.mp M.fn) (gf (F.run _ X.stack _ _ ⟨Value.ref (s.heap.objs.size+1)::us,[]⟩ (Value.ref (s.heap.objs.size+1)::(us++ds)) _ _ E (hr.make C us [])
  (I2.nQ.make C us []) (hb _ (Value.ref (s.heap.objs.size+1)::us) I2.mQ hl) r2 hq) λr s' X1=>?_))
 cases r with
 | error e=>exact hx Wk σ _ _ e s' I2 X1
 | ok fl=>
  cases fl with
  | ret u=>obtain⟨v,H',I3,rv,ev,q3⟩:=I2.after X1;subst ev;exact⟨rv,⟨V.ref (s.heap.objs.size+1),H',I3,rfl,q3⟩⟩
  | next=>exact False.elim X1
  | brk=>exact False.elim X1
  | cont=>exact False.elim X1
def OA(M:Mk X.K C f)(F:wR X.prog X.w X.K X.mg X.base CX k f fd ps sp)(hr:rD (k+1) X.A)(hg:Gl X x)(hm:X.mg x=some (.ref C))(hb:uy X.K fd ps ds)(hd:qo W7 ds)(hx:Bb CX X E) (ha:PA X (e::es) t) (WE:yk x:=by decide) (he:AV X e es:=by rfl) (WA:Cd X pos es:=by rfl):
  PE X (.Call (.Name x p) (e::es) [] pos) (Ul C sp W7 E t):=by
 intro Wk s σ H Q I h;refine gb (wB I hg hm ?_ WE);refine iE (h₀:=X.base) I.ok.mod.oh M.kp (rV (ha pos Wk s σ H _ I h) λus s1 zz=>x5 zz λvs H1 I1 r q=>⟨I1.mQ,?_⟩) he WA;exact K0 M F hr hb hd hx I1 r q
end
variable {g:List Vl→List Vl→List Vl}{gV:List V→List V→List V}{ks:List Str}{kpos:Pos}{kws:List Keyword}{tk:TA}{nm:Option Str}
section
variable {f:Addr}{E:XK}{x:Str}{e o:Expr}{t:TA}
structure Vq(K:pY)(fd:FuncData)(ps ks:List Str)(g:List Vl->List Vl->List Vl)(gV:List V->List V->List V):Prop where
 to:∀(s:Sd) (us ws:List Vl),K.In s.heap->(g us ws).length=ps.length->BindsTo s fd ⟨us,ks.zip ws⟩ (ps.zip (g us ws))
 rel:∀{vs:List V} {us:List Vl} {zs:List V} {ws:List Vl},qo vs us->qo zs ws->qo (gV vs zs) (g us ws)
end
structure sF(N P:List Str)(sc:Scope):Prop where
 kind:sc.kind=.function
 co:sc.isCoroutine=false
 gen:sc.isGenerator=false
 nd:N.Nodup
 pre:N.take P.length=P
 par:∀x∈P,sc.names.lookup x=some .local\/sc.names.lookup x=some .cell
 oN:∀y∈sc.names,y.2≠.free
theorem Dm{kindOf:Str->Option NameKind}{x:Str}:∀{binds:List (Str×Vl)} {m:Str->Option Vl},(∀v,(x,v)∉binds)->bindL kindOf binds m x=m x
 | [],_,_=>rfl
 | (n,v)::r,m,h=>by
  unfold bindL;rw[Dm λw hw=>h w (dC _ hw)];split
  .have:x≠n:=by rintro rfl;exact h v dN
   simp[this]
  .rfl
theorem Do{kindOf:Str->Option NameKind}{x:Str}:∀{binds:List (Str×Vl)} {m:Str->Option Vl},(∀v,(x,v)∉binds)->bindC kindOf binds m x=m x
 | [],_,_=>rfl
 | (n,v)::r,m,h=>by
  unfold bindC;rw[Do λw hw=>h w (dC _ hw)];split
  .rfl
  .have:x≠n:=by rintro rfl;exact h v dN
   simp[this]
theorem Dw{kindOf:Str->Option NameKind}{x:Str}{v:Vl}:∀{P:List Str} {vs:List Vl} {i:Nat} {m:Str->Option Vl},P.Nodup->P[i]?=some x->vs[i]?=some v->kindOf x=some .local->
  bindL kindOf (P.zip vs) m x=some v
 | [],_,_,_,_,h,_,_=>by simp at h
 | _::_,[],_,_,_,_,h,_=>by simp at h
 | p::P,w::vs,0,m,nd,h1,h2,hk=>by simp at h1 h2;subst h1;subst h2;show bindL kindOf ((p,w)::P.zip vs) m p=_;unfold bindL;rw[Dm λv hv=>(dO.mp nd).1 (jJ hv).1,c9 hk];simp
 | p::P,w::vs,i+1,m,nd,h1,h2,hk=>by show bindL kindOf ((p,w)::P.zip vs) m x=_;unfold bindL;exact Dw (i:=i) (dO.mp nd).2 (by simpa using h1) (by simpa using h2) hk
theorem Dg{kindOf:Str->Option NameKind}{x:Str}{v:Vl}:∀{P:List Str} {vs:List Vl} {i:Nat} {m:Str->Option Vl},P.Nodup->P[i]?=some x->vs[i]?=some v->kindOf x≠some .local->
  bindC kindOf (P.zip vs) m x=some v
 | [],_,_,_,_,h,_,_=>by simp at h
 | _::_,[],_,_,_,_,h,_=>by simp at h
 | p::P,w::vs,0,m,nd,h1,h2,hk=>by simp at h1 h2;subst h1;subst h2;show bindC kindOf ((p,w)::P.zip vs) m p=_;unfold bindC;rw[Do λv hv=>(dO.mp nd).1 (jJ hv).1,cY hk];simp
 | p::P,w::vs,i+1,m,nd,h1,h2,hk=>by show bindC kindOf ((p,w)::P.zip vs) m x=_;unfold bindC;exact Dg (i:=i) (dO.mp nd).2 (by simpa using h1) (by simpa using h2) hk
def start(N:List Str)(vs:List V):St:=vs.map some++List.replicate (N.length - vs.length) none
def vd(CX:Ke)(P:Pg)(w:Wo)(K:pY)(mg:Str->Option Vl)(base:Heap)(N:List Str)(qual:Str)(scope:Scope)(f:Addr)(cd:Vl)(A:Ar)(outer:List Env)(s:Sd)(H:Hp)(E:XK):Cx where
 prog:=P
 w:=w
 K:=K
 mg:=mg
 base:=base
 A:=A.deeper (envOfC qual scope s.heap.objs.size f cd)
 N:=N
 s₀:=s
 H₀:=H
 env:=envOfC qual scope s.heap.objs.size f cd
 outer:=outer
 stack:=envOfC qual scope s.heap.objs.size f cd::outer
 ex:=[]
 calm:=true
 fn:=λ_=>true
 pn:=[]
 xe:=λe s'=>wpAny (model P w) (A.deeper (envOfC qual scope s.heap.objs.size f cd)) (leaving (envOfC qual scope s.heap.objs.size f cd) e) (λ_ Za=>CX outer H s E e Za) (λe' Za=>CX outer H s E e' Za) s'
def FW{sc:Scope}{n:Nat}{x:Str}(h:sc.names.lookup x=some .cell):∃c,(cellsFrom n sc.names []).lookup x=some c:=by have q:=lC sc.names n [] (.inl h);exact jw.mp q
def Js{CX:Ke}{P:Pg}{w:Wo}{K:pY}{mg:Str->Option Vl}{base:Heap}{N ps:List Str}{qual:Str}{scope:Scope}{f:Addr}{cd:Vl}{A:Ar}{outer:List Env}{s s1:Sd}{H:Hp}{E:XK}{us:List Vl}{vs:List V} (S:sF N ps scope) (hd:A.handled=none) (e0:G9 P w K mg base A outer s H) (hl:vs.length=ps.length) (r:qo vs us) (x:InCallC s s.heap.objs.size (bindL (envOfC qual scope s.heap.objs.size f cd).kindOf (ps.zip us) λ_=>none) (cellsFrom (s.heap.objs.size+1) scope.names []) (bindC (envOfC qual scope s.heap.objs.size f cd).kindOf (ps.zip us) λ_=>none) s1):
  Inv (vd CX P w K mg base N qual scope f cd A outer s H E) [] (start N vs) H s1:=by
 have WA:ps.length<=N.length:=by have:=eE List.length S.pre;rw[fM]at this;omega
 obtain⟨h1,tk,rfl,hk⟩:=x.done;have noA:∀b:Addr,b∉(vd CX P w K mg base N qual scope f cd A outer s H E).ex:=λb z=>absurd (show b∈([]:List Addr)from z) (by simp);refine⟨⟨e0.mod,S.kind,rfl,rfl,dg _,λy z c h1 h2=>?_,λy hy=>?_,λy c _ h=>?_,λ_=>hd,Around.frames_deeper e0.frames,.inr ⟨rfl,rfl⟩,λb z=>absurd z (noA b),e0.bs,e0.nO,λb _ _=>noA b,λb z=>absurd z (noA b),e0.m8,e0.nU⟩,rfl,e0.bare,Un.kept hk,⟨_,x.toInCall.ns,λi y v h1 h2 h3=>?_⟩,λy c h=>⟨_,x.cell y c h⟩,e0.mG.fresh (dg _),λy c h=>?_,λp hp=>absurd (show p∈([]:List (Addr×Obj))from hp) (by simp),e0.mG.kept hk,?_⟩
 .exact name_of_addr x.apart (gI h1) (gI h2)
 .have hy:scope.names.lookup y=some .cell\/scope.names.lookup y=some .free:=hy;rcases hy with hy|hy
  .exact FW hy
  .exact absurd rfl (S.oN _ (gI hy))
 .exact kD (x.above y c (gI h))
 .have hi:i<vs.length:=by
   unfold start at h2;by_cases hi:i<vs.length
   .exact hi
   .rw[eS (by simpa using hi)]at h2;rw[jG]at h2;split at h2<;>cases h2
  have ha:vs[i]?=some v:=by
   unfold start at h2;rw[eZ (by simpa using hi),dA]at h2;cases e:vs[i]? with
   | none=>rw[e]at h2;cases h2
   | some a=>rw[e]at h2;cases h2;rfl
  obtain⟨u,hu,rv⟩:=r.get ha;have hp:ps[i]?=some y:=by rw[<-S.pre,List.getElem?_take_of_lt (by omega)];exact h1
  have ndP:ps.Nodup:=by rw[<-S.pre];exact S.nd.sublist (List.take_sublist _ _)
  refine⟨u,rv,?_⟩;rcases S.par y (fQ hp)with k|k
  .exact .inl ⟨k,Dw ndP hp hu k⟩
  .obtain⟨c,e⟩:=FW (n:=s.heap.objs.size+1) k;refine .inr ⟨.inl k,c,e,?_⟩;have q:=x.cell y c e;rw[Dg ndP hp hu (by show scope.names.lookup y≠_;rw[k];decide)]at q;exact q
 .exact e0.mG.fresh (kD (x.above y c (gI h)))
 .unfold start;show _=N.length;rw[cX,cT,iB];omega
def LJ{CX:Ke}{P:Pg}{w:Wo}{K:pY}{mg:Str->Option Vl}{base:Heap}{k:Nat}{f:Addr}{name qual:Str}{params:Arguments}{body:List Stmt}{scope:Scope}{dV kV WX pm Wu ct oc:Vl}{an od:Option Addr} {Xd:Array (Option Vl)} {N ps:List Str} {sp:Sp} (lk:K.lookup f=some ⟨oc,od,.func (W.fnOf name qual params body scope dV kV WX pm an Wu ct),Xd⟩) (Xi:W.codeIn K Wu qual=true) (S:sF N ps scope) (len:∀vs H Q E,sp vs H Q E->vs.length=ps.length) (WI:∀(A:Ar) (outer:List Env) (s:Sd) (H:Hp) (vs:List V) (Q:VK) (E:XK),rD k (A.deeper (envOfC qual scope s.heap.objs.size f Wu))->sp vs H Q E->
   ∃t,Be (vd CX P w K mg base N qual scope f Wu A outer s H E) body t/\t {nx:=λ_ H'=>Q .mC H',rt:=Q} (start N vs) H):
  wR P w K mg base CX (k+1) f (W.fnOf name qual params body scope dV kV WX pm an Wu ct) ps sp:=by
 refine⟨len,λA outer s H args us vs Q E hr e0 hb r XM=>?_⟩;have hl:=len _ _ _ _ XM;have KX:K.In s.heap:=e0.mod.oh.keeps λb o e=>(e0.bs b o e).1;have lim:s.heap.NoLimit:=e0.mod.nolimit.keeps λb o e=>(e0.bs b o e).1;have hkind:∀y∈ps.zip us,scope.names.lookup y.1=some .local\/(scope.names.lookup y.1=some .cell/\((cellsFrom (s.heap.objs.size+1) scope.names []).lookup y.1).isSome=true):=λ⟨n,v⟩ hy=>by
  rcases S.par n (jJ hy).1 with q|q
  .exact .inl q
  .exact .inr ⟨q,lC _ _ _ (.inl q)⟩
 refine codeAny_call_function hr.depth (KX _ _ lk) rfl S.co S.gen rfl (W.codeRec_of KX Xi) (hb _ _ _ _ ?_);refine wpAny_newFunctionEnv_cells S.kind hkind λenv he s1 x=>?_;subst he;refine⟨lim.keeps x.toInCall.keep,codeAny_func ?_⟩;obtain⟨t,ht,hq⟩:=WI A outer s H vs Q E (hr.deeper _) XM;have I:Inv (vd CX P w K mg base N qual scope f Wu A outer s H E) [] (start N vs) H s1:=Js S hr.hd e0 hl r x;refine eA (ht [] s1 (start N vs) H _ I hq) (λfl s' hs=>?_) λe s' hs=>hs;have Wp:∀{σ':St} {H':Hp} {v:V} {u:Vl},Inv (vd CX P w K mg base N qual scope f Wu A outer s H E) [] σ' H' s'->qy v u->Q v H'->CE outer P w H s Q u s':=
  λ{σ' H' v u} J rv q=>⟨v,H',J.os,J.bare,J.base,J.mG,rv,q⟩
 cases fl with
 | ret u=>obtain⟨v,σ',H',J,rv,q⟩:=hs;exact Wp J rv q
 | next=>obtain⟨σ',H',J,q⟩:=hs;exact Wp (v:=V.mC) (u:=Value.none) J rfl q
 | brk=>obtain⟨_,_,_,q⟩:=hs;exact False.elim q
 | cont=>obtain⟨_,_,_,q⟩:=hs;exact False.elim q
variable {id T:String}{r:List V→Hp→VK→Prop}
section
variable {x:Str}{e:Expr}{t:TA}
def VS(r:List V->Hp->VK->Prop)(t:TA):TE:=λσ H Q=>t σ H λvs H1=>r vs H1 Q
def LK(hc:yY X (.builtin id) r)(hg:Gl X x)(hm:X.mg x=none)(hv:bootBuiltins x=some (.builtin id))(ha:PA X (e::es) t)(hn:x≠"__name__":=by decide)(WE:yk x:=by decide)
  (he:AV X e es:=by rfl) (WA:Cd X pos es:=by rfl):PE X (.Call (.Name x p) (e::es) [] pos) (VS r t):=by
 intro Wk s σ H Q I h;refine gb (xc I hg hm hv ?_ hn WE);exact iF (rV (ha pos Wk s σ H _ I h) λus s1 zz=>x5 zz λvs H1 I1 r1 q1=>hc Wk s1 σ H1 vs us Q I1 r1 q1) he WA
def Jx(hc:yY X (.type T) r)(hg:Gl X x)(hm:X.mg x=none)(hv:bootBuiltins x=some (.type T))(ha:PA X (e::es) t)(hn:x≠"__name__":=by decide)(WE:yk x:=by decide)
  (he:AV X e es:=by rfl) (WA:Cd X pos es:=by rfl):PE X (.Call (.Name x p) (e::es) [] pos) (VS r t):=by
 intro Wk s σ H Q I h;refine gb (xc I hg hm hv ?_ hn WE);exact fS (rV (ha pos Wk s σ H _ I h) λus s1 zz=>x5 zz λvs H1 I1 r1 q1=>hc Wk s1 σ H1 vs us Q I1 r1 q1) he WA
end
end L2
namespace HT
open PySem PyProof.Rows
section
open PySem.SeqAt
open PySem.AutoSeq1 (wpAny_loadPart')
open PySem.MeetsSeq PySem.MeetsSeq2 PySem.MeetsSeq3
end
variable {prog:Pg}{w:Wo}{A:Ar}{E:Vl→Sd→Prop}{s:Sd}
def On{t b:Addr}{vs ws:List Vl}{Q:Vl->Sd->Prop}(ht:IsTup s.heap t vs.toArray)(hb:IsTup s.heap b ws.toArray)(hv:vs≠[]) (h1:ws=[]->Q (.ref t) s) (h2:ws≠[]->Q (.ref s.heap.objs.size) {s with heap:=s.heap.push {cls:=.type "tuple",data:=.seq (vs++ws).toArray}})
  (hsz:vs.length+ws.length<=sizeLine):wpAny (model prog w) A (binaryOp .Add (.ref t) (.ref b)) Q E s:=by
 obtain⟨⟨cls,dd,data,sl⟩,ho,hc,n,hd⟩:=id ht;obtain⟨⟨cls2,dd2,data2,sl2⟩,ho2,hc2,n2,hd2⟩:=id hb;simp only at hc hd hc2 hd2;subst hc hd hc2 hd2;have e:vs.toArray++ws.toArray=(vs++ws).toArray:=by simp
 by_cases hw:ws=[]
 .exact kG ⟨_,ho,rfl⟩ ⟨_,ho2,rfl⟩ lD seq_tuple_add jR jI (jx _ _)
   (tuple_addW1 t b vs.toArray ws.toArray n n2 dd dd2 sl sl2 (by simpa using hv) (by simp[hw])) ⟨ho,ho2,h1 hw⟩
 .refine kG ⟨_,ho,rfl⟩ ⟨_,ho2,rfl⟩ lD seq_tuple_add jR jI (jx _ _)
   (tuple_addW2 t b vs.toArray ws.toArray n n2 dd dd2 sl sl2 (by simpa using hv) (by simpa using hw) (by rw[dq,dq];exact hsz)) ⟨ho,ho2,?_⟩
  rw[e];exact h2 hw
def sG(n d:Nat):Option Int->Nat
 | none=>d
 | some v=>if v<0 then(v+(n:Int)).toNat else min v.toNat n
def A5(n d:Nat):sG n d none=d:=rfl
def Ie(n d k:Nat):sG n d (some (k:Int))=min k n:=by show(if (k:Int)<0 then((k:Int)+(n:Int)).toNat else min (k:Int).toNat n)=min k n;rw[cY (by omega),jj]
def RZ(n d:Nat)(hd:d<=n)(o:Option Int):sG n d o<=n:=by
 cases o with
 | none=>exact hd
 | some v=>
  show(if v<0 then(v+(n:Int)).toNat else min v.toNat n)<=n;by_cases hv:v<0
  .rw[c9 hv];omega
  .rw[cY hv];exact Nat.min_le_right _ _
def IH(v:Int)(n d:Nat):(if v<0 then max (v+(n:Int)) 0 else min v (n:Int))=((sG n d (some v):Nat):Int):=by
 show(if v<0 then max (v+(n:Int)) 0 else min v (n:Int))=(((if v<0 then(v+(n:Int)).toNat else min v.toNat n):Nat):Int);by_cases hv:v<0
 .simp only[c9 hv];omega
 .simp only[cY hv];omega
def Hy(lo hi:Option Int)(n:Nat):Builtin.Slice.sliceAdjust lo hi 1 (n:Int)=(((sG n 0 lo:Nat):Int),((sG n n hi:Nat):Int)):=by
 have h1:¬((1:Int)<0):=by omega
 unfold Builtin.Slice.sliceAdjust;simp only[h1,j6];refine Prod.ext ?_ ?_
 .cases lo with
  | none=>rfl
  | some v=>exact IH v n 0
 .cases hi with
  | none=>rfl
  | some v=>exact IH v n n
def Hm(i j:Nat):Builtin.Slice.slicePlaces (i:Int) (j:Int) 1=j - i:=by
 unfold Builtin.Slice.slicePlaces;have h1:(1:Int)>0:=by omega
 simp only[h1,iV,Int.ediv_one];split<;>omega
def BI{v:Vl}{o:Option Int}{Q:Option Int->Sd->Prop}(p:IsPart v o)(h:Q o s):wpAny (model prog w) A (Builtin.Slice.slicePartIndex v) Q E s:=by
 cases p with
 | none=>exact slicePart_none h
 | int i t=>exact slicePart_int h
def vU{sl:Addr}{vl vu:Vl}{lo hi:Option Int}{n:Nat}{Q:Int×Int×Nat->Sd->Prop}(hs:s.heap.IsSliceOf sl vl vu .none)(pl:IsPart vl lo)(pu:IsPart vu hi) (h:Q (((sG n 0 lo:Nat):Int),1,sG n n hi - sG n 0 lo) s):wpAny (model prog w) A (Builtin.Slice.sliceApplied (.ref sl) (pure (n:Int))) Q E s:=by
 obtain⟨os,Zb,YQ,Xv⟩:=id hs;unfold Builtin.Slice.sliceApplied Builtin.Slice.sliceFields;refine cU (cU (fh Zb Xv (x:=vl) rfl (cU (fh Zb Xv (x:=vu) rfl (cU (fh Zb Xv (x:=.none) rfl (de ?_)))))));refine cU (slicePart_none ?_);show wpAny _ _ (if ((1:Int)==0)=true then _ else _) _ _ s;rw[cY (by decide)];refine cU (BI pl (cU (BI pu (cU (de ?_)))));show wpAny _ _ (match Builtin.Slice.sliceAdjust lo hi 1 (n:Int)with|(lo,hi)=>pure (lo,(1:Int),Builtin.Slice.slicePlaces lo hi 1)) _ _ s;rw[Hy lo hi n];show wpAny _ _ (pure (((sG n 0 lo:Nat):Int),(1:Int),Builtin.Slice.slicePlaces ((sG n 0 lo:Nat):Int) ((sG n n hi:Nat):Int) 1)) _ _ s;rw[Hm];exact de h
def MA(xs:Array Vl)(i k:Nat):((List.range k).filterMap λ(m:Nat)=>xs[((i:Int)+(m:Int)*1).toNat]?).toArray=((xs.toList.drop i).take k).toArray:=by
 have e:(λ(m:Nat)=>xs[((i:Int)+(m:Int)*1).toNat]?)=λm=>xs[i+m]?:=by
  funext m;have:((i:Int)+(m:Int)*1).toNat=i+m:=by omega
  rw[this]
 rw[e];have:=pick_run xs i k;rw[List.filterMap_map]at this;have e2:((λx=>xs[x]?)∘λx=>i+x)=λm=>xs[i+m]?:=rfl;rw[e2]at this;rw[this]
def yS{t sl:Addr}{Wl:Array Vl}{vl vu:Vl}{lo hi:Option Int}{Q:Vl->Sd->Prop}(ht:IsTup s.heap t Wl)(hs:s.heap.IsSliceOf sl vl vu .none)(pl:IsPart vl lo)(pu:IsPart vu hi) (hw:¬(sG Wl.size 0 lo=0/\sG Wl.size Wl.size hi=Wl.size)) (h:Q (.ref s.heap.objs.size) {s with heap:=s.heap.push {cls:=.type "tuple",data:=.seq ((Wl.toList.drop (sG Wl.size 0 lo)).take (sG Wl.size Wl.size hi - sG Wl.size 0 lo)).toArray}})
  (hsz:Wl.size<=sizeLine):wpAny (model prog w) A (getItem (.ref t) (.ref sl)) Q E s:=by
 have XE:sizeOk (.seq ((Wl.toList.drop (sG Wl.size 0 lo)).take (sG Wl.size Wl.size hi - sG Wl.size 0 lo)).toArray):=by show((Wl.toList.drop (sG Wl.size 0 lo)).take (sG Wl.size Wl.size hi - sG Wl.size 0 lo)).toArray.size<=sizeLine;rw[dq,fM,fY,iS];omega
 have hj:sG Wl.size Wl.size hi<=Wl.size:=RZ _ _ (dg _) hi;obtain⟨os,Zb,YQ,Xv⟩:=id hs;have hTs:s.TypeIs (.ref sl) "slice":=⟨os,Zb,YQ⟩;unfold getItem
 try with_reducible refine eC ?_
 first|refine cU (de ?_)|skip
 refine cU (jk ht.typeIs (by decide) ?_);refine cU (fK (name:=Str.ofString "__getitem__") ht.typeIs fB
  (fZ fB ht.typeIs ko ?_ (kH _ _)))
 show wpAny _ _ (Builtin.Tuple.tupleItemsOf (.ref t)>>=_) _ _ s;refine cU (tupleItemsOf_ ht ?_);refine cU (jy hTs ?_);rw[c9 (by decide)];refine cU (vU hs pl pu ?_);have hno:¬((((sG Wl.size 0 lo:Nat):Int)==0&&(1:Int)==1&&(sG Wl.size Wl.size hi - sG Wl.size 0 lo)==Wl.size)=true):=by intro q;rw[dU,dU]at q;have q1:((sG Wl.size 0 lo:Nat):Int)=0:=eq_of_beq q.1.1;have q2:sG Wl.size Wl.size hi - sG Wl.size 0 lo=Wl.size:=eq_of_beq q.2;exact hw ⟨by omega,by omega⟩
 show wpAny _ _ (if (((sG Wl.size 0 lo:Nat):Int)==0&&(1:Int)==1&&(sG Wl.size Wl.size hi - sG Wl.size 0 lo)==Wl.size)=true then _ else _) _ _ s;rw[cY hno,MA]
 first
  | exact cU (m:=Builtin.Tuple.tupleExact _) (fR (de ⟨_,rfl,de h⟩) XE)
  | exact cU (m:=Builtin.Tuple.tupleExact _) (fR (cU (de (de ⟨_,rfl,de h⟩))) XE)
  | exact cU (cU (m:=Builtin.Tuple.tupleExact _) (fR (de (de ⟨_,rfl,de h⟩)) XE))
  | exact cU (cU (m:=Builtin.Tuple.tupleExact _) (fR (de ⟨_,rfl,de h⟩) XE))
end HT
namespace L2
open PySem PySem.Spec PyProof.Rows
abbrev TO:=St->Hp->(Option Int->Hp->Prop)->Prop
def PO(X:Cx)(e:Option Expr)(t:TO):Prop:=
 ∀(Wk:List (Addr×Obj)) (s:Sd) (σ:St) (H:Hp) (Q:Option Int->Hp->Prop),Inv X Wk σ H s->t σ H Q->
  wpAny (model X.prog X.w) X.A (evalPart e X.env) (λu s'=>∃o H',Inv X Wk σ H' s'/\IsPart u o/\Q o H') X.xe s
def Pu:TO:=λ_ H Q=>Q none H
def Ts(t:TE):TO:=λσ H Q=>t σ H λx H1=>∃i,x=.int i/\Q (some i) H1
variable {X:Cx}{e:Expr}{te:TE}{lo hi:Option Expr}{tl th:TO}{pos p2:Pos}
def PX:PO X none Pu:=by intro Wk s σ H Q I h;rw[evalPart_none];exact de ⟨none,H,I,.none,h⟩
def Pp(h:PE X e te):PO X (some e) (Ts te):=by intro Wk s σ H Q I hw;rw[evalPart_some];refine rV (h Wk s σ H _ I hw) λu s1 zz=>x5 zz λx H1 I1 r1 q1=>?_;obtain⟨i,rfl,q⟩:=q1;obtain⟨t,rfl⟩:=r1;exact⟨some i,H1,I1,.int i t,q⟩
def Ue(X:Cx)(r:V->Option Int->Option Int->Hp->VK->Prop):Prop:=
 ∀(Wk:List (Addr×Obj)) (s:Sd) (σ:St) (H:Hp) (x:V) (v vl vu:Vl) (lo hi:Option Int) (sl:Addr) (Q:VK),Inv X Wk σ H s->qy x v->s.heap.IsSliceOf sl vl vu .none->IsPart vl lo->IsPart vu hi->r x lo hi H Q->
  ∃T id,typeLookup (.type T) "__getitem__"=pure (some (.builtin id))/\s.TypeIs v T/\wpAny (model X.prog X.w) X.A (getItem v (.ref sl)) (EP X Wk σ Q) X.xe s
def VZ(r:V->Option Int->Option Int->Hp->VK->Prop)(te:TE)(tl th:TO):TE:=λσ H Q=>te σ H λx H1=>tl σ H1 λl H2=>th σ H2 λu H3=>r x l u H3 Q
def Mm{r:V->Option Int->Option Int->Hp->VK->Prop}(hr:Ue X r)(he:PE X e te)(hl:PO X lo tl)(hu:PO X hi th):PE X (.Subscript e (.Slice lo hi none p2) pos) (VZ r te tl th):=by intro Wk s σ H Q I h;refine Subscript_ (rV (he Wk s σ H _ I h) λv s1 zz=>x5 zz λx H1 I1 r1 q1=>?_);refine wpAny_Slice (rV (hl Wk s1 σ H1 _ I1 q1) λvl s2 zz=>x5 zz λl H2 I2 pl q2=>rV (hu Wk s2 σ H2 _ I2 q2) λvu s3 zz=>x5 zz λu H3 I3 pu q3=>?_);rw[evalPart_none];refine de ?_;have I4:Inv X Wk σ H3 {s3 with heap:=s3.heap.push {cls:=.type "slice",data:=.fields #[vl,vu,.none]}}:=I3.kept (t':=s3.toks) λb ob q=>cZ _ q;obtain⟨T,id,hT,ht,hg⟩:=hr Wk {s3 with heap:=s3.heap.push {cls:=.type "slice",data:=.fields #[vl,vu,.none]}} σ H3 x v vl vu l u s3.heap.objs.size Q I4 r1 (mq ..) pl pu q3;show wpAny (model X.prog X.w) X.A (subscriptTail e (.Slice lo hi none p2) v (.ref s3.heap.objs.size)) (EP X Wk σ Q) X.xe {s3 with heap:=s3.heap.push {cls:=.type "slice",data:=.fields #[vl,vu,.none]}};exact tail_any (ops:=[.ref s3.heap.objs.size,v]) ht hT hg (by with_unfolding_all rfl)
def BU(xs:List V)(lo hi:Option Int):List V:=(xs.drop (HT.sG xs.length 0 lo)).take (HT.sG xs.length xs.length hi - HT.sG xs.length 0 lo)
def Af(xs:List V)(lo hi:Option Int):(BU xs lo hi).length<=xs.length:=by unfold BU;rw[fM,fY];omega
def UK(K:pY):V->Option Int->Option Int->Hp->VK->Prop:=λx lo hi H Q=>∃a xs,x=.ref a/\uK K H a xs/\
 ¬(HT.sG xs.length 0 lo=0/\HT.sG xs.length xs.length hi=xs.length)/\∀p,H p=none->Q (.ref p) (upd H p (.tup (BU xs lo hi)))
def Rn:Ue X (UK X.K):=by
 intro Wk s σ H x v vl vu lo hi sl Q I rx hs pl pu h;obtain⟨a,xs,rfl,hx,hw,q⟩:=h;cases rx;obtain⟨its,r,ht,hz⟩:=I.tuple hx;have Wr:its.toArray.size=xs.length:=by rw[dq];exact r.length.symm
 refine⟨"tuple",_,fB.lookup,ht.typeIs,?_⟩;refine HT.yS ht hs pl pu (by rw[Wr];exact hw) ?_ (by rw[Wr];exact hz);rw[Wr];refine⟨.ref s.heap.objs.size,_,I.laid (t':=s.toks) (o:=.tup (BU xs lo hi)) (λb ob q=>cZ _ q) (dg _) ?_,rfl,q _ (I.mG.fresh (dg _))⟩;exact⟨dY (Af xs lo hi) hz,_,(r.drop (HT.sG xs.length 0 lo)).take (HT.sG xs.length xs.length hi - HT.sG xs.length 0 lo),D3.new _ _⟩
def Uj(K:pY):R2:=λx y H Q=>∃a b xs ys,x=.ref a/\y=.ref b/\uK K H a xs/\uK K H b ys/\xs≠[]/\xs.length+ys.length<=sizeLine/\
 (ys=[]->Q (.ref a) H)/\(ys≠[]->∀p,H p=none->Q (.ref p) (upd H p (.tup (xs++ys))))
def qo.nB{xs:List V}{us:List Vl}(r:qo xs us):us=[]↔xs=[]:=by
 cases r with
 | nil=>simp
 | cons _ _=>simp
def OP:wY X (binaryOp .Add) (Uj X.K):=by intro Wk s σ H x y v u Q I rx ry h;obtain⟨a,b,xs,ys,rfl,rfl,ha,hb,hx,hz,q1,q2⟩:=h;cases rx;cases ry;obtain⟨its,r1,p1,_⟩:=I.tuple ha;obtain⟨its2,r2,p2,_⟩:=I.tuple hb;refine HT.On p1 p2 (λz=>hx (r1.nB.mp z)) (λz=>⟨.ref a,H,I,rfl,q1 (r2.nB.mp z)⟩) (λz=>?_) (by rw[<-r1.length,<-r2.length];exact hz);refine⟨.ref s.heap.objs.size,_,I.laid (t':=s.toks) (o:=.tup (xs++ys)) (λb ob q=>cZ _ q) (dg _) ?_,rfl,q2 (λw=>z (r2.nB.mpr w)) _ (I.mG.fresh (dg _))⟩;exact⟨by rw[cX];exact hz,_,r1.append r2,D3.new _ _⟩
def FL(n:Nat)(i:Int):Option Nat:=if 0<=i then(if i<n then some i.toNat else none)else if -(n:Int)<=i then some (i+n).toNat else none
def vY{α:Type}(xs:List α)(i:Int):Option α:=(FL xs.length i).bind λj=>xs[j]?
def HP{n:Nat}{i:Int}{j:Nat}(h:FL n i=some j):seqIndex? i n=some j/\j<n/\-(n:Int)<=i/\i<n:=by
 unfold FL at h;by_cases h0:0<=i
 .rw[c9 h0]at h;by_cases h1:i<n
  .rw[c9 h1]at h;have e:i.toNat=j:=dh h;exact⟨by rw[lu h0 h1,e],by omega,by omega,h1⟩
  .rw[cY h1]at h;cases h
 .rw[cY h0]at h;by_cases h1:-(n:Int)<=i
  .rw[c9 h1]at h;have e:(i+n).toNat=j:=dh h;exact⟨by rw[kI (by omega) h1,e],by omega,h1,by omega⟩
  .rw[cY h1]at h;cases h
def D6{α:Type}{xs:List α}{i:Int}{v:α}(h:vY xs i=some v):∃j,seqIndex? i xs.length=some j/\xs[j]?=some v/\j<xs.length/\-(xs.length:Int)<=i/\i<xs.length:=by
 unfold vY at h;cases e:FL xs.length i with
 | none=>rw[e]at h;cases h
 | some j=>rw[e]at h;obtain⟨h1,h2,h3,h4⟩:=HP e;exact⟨j,h1,h,h2,h3,h4⟩
def uJ{α:Type}{xs:List α}{j:Nat}{v:α}(h:xs[j]?=some v):vY xs (j:Int)=some v:=by
 have hj:j<xs.length:=(cV.mp h).1;have e:FL xs.length (j:Int)=some j:=by unfold FL;rw[c9 (by omega),c9 (by omega)];simp
 unfold vY;rw[e];exact h
def AZ(b:Expr):Prop:=∀o i,subscripted b false o i=operate [o,i] (getItem o i)
def Sx(X:Cx)(r:R2):Prop:=
 ∀(value Wv:Expr) (Wk:List (Addr×Obj)) (s:Sd) (σ:St) (H:Hp) (x y:V) (v u:Vl) (Q:VK),Inv X Wk σ H s->qy x v->qy y u->r x y H Q->
  subscripted Wv false v u=operate [v,u] (getItem v u)->wpAny (model X.prog X.w) X.A (subscriptTail value Wv v u) (EP X Wk σ Q) X.xe s
def VT(X:Cx)(id:String)(r:V->List V->Hp->VK->Prop):Prop:=
 ∀(Wk:List (Addr×Obj)) (s:Sd) (σ:St) (H:Hp) (x:V) (xs:List V) (v:Vl) (us:List Vl) (Q:VK),Inv X Wk σ H s->qy x v->qo xs us->r x xs H Q->
  wpAny (model X.prog X.w) X.A (call (.builtin id) (v::us)) (EP X Wk σ Q) X.xe s
variable {o:Expr}{es:List Expr}{to:TE}{t:TA}{name:Str}{Wn Ws:Pos}{T id:String}{r:V→List V→Hp→VK→Prop}{a:Expr}{ta tb:TE}
section
variable {b:Expr}
def Mh{r:R2}(hr:Sx X r)(ha:PE X a ta)(hb:PE X b tb)(hs:AZ b):PE X (.Subscript a b pos) (Tq r ta tb):=by intro Wk s σ H Q I h;exact Subscript_ (Qt ha hb I h λv u s2 x y H2 I2 rx ry q=>hr a b Wk s2 σ H2 x y v u Q I2 rx ry q (hs _ _))
def Vr(K:pY):R2:=λx y H Q=>∃p xs i v,x=.ref p/\y=.int i/\yJ K H p xs/\vY xs i=some v/\Q v H
def Vc(K:pY):R2:=λx y H Q=>∃p xs i v,x=.ref p/\y=.int i/\uK K H p xs/\vY xs i=some v/\Q v H
def Vg:R2:=λx y H Q=>∃z i c,x=.str z/\y=.int i/\z.length<=sizeLine/\vY z.cps.toList i=some c/\Q (.str ⟨#[c]⟩) H
def HE:Sx X (Vr X.K):=by
 intro value Wv Wk s σ H x y v u Q I rx ry h hs;obtain⟨p,xs,i,z,rfl,rfl,hq,he,q⟩:=h;cases rx;obtain⟨t,rfl⟩:=ry;obtain⟨its,r,pl,hz⟩:=I.list hq;obtain⟨j,h1,h2,h3,h4,h5⟩:=D6 he;obtain⟨w,ew,Yv⟩:=r.get h2;have hl:=r.length;have hn:=yG;have Wp:EP X Wk σ Q w s:=⟨z,H,I,Yv,q⟩;by_cases h0:0<=i
 .have hj:i.toNat=j:=by rw[lu h0 h5]at h1;exact dh h1
  exact item_listR pl.isList h0 (by omega) (by rw[hj];simpa using ew) Wp hs
 .have hj:(i+(its.toArray.size:Int)).toNat=j:=by rw[kI (by omega) h4]at h1;rw[dq,<-hl];exact dh h1
  exact jS (x:=w) pl.isList.typeIs kY.lookup
   (wpAny_getItem_list_neg (Q:=λr s'=>r=w/\EP X Wk σ Q r s') pl.isList (by omega) (by rw[dq]<;>omega) (by omega) (by rw[hj];simpa using ew) ⟨rfl,Wp⟩) hs
def QA:Sx X (Vc X.K):=by
 intro value Wv Wk s σ H x y v u Q I rx ry h hs;obtain⟨p,xs,i,z,rfl,rfl,hq,he,q⟩:=h;cases rx;obtain⟨t,rfl⟩:=ry;obtain⟨its,r,pl,hz⟩:=I.tuple hq;obtain⟨j,h1,h2,h3,h4,h5⟩:=D6 he;obtain⟨w,ew,Yv⟩:=r.get h2;have hl:=r.length;have hn:=yG;have Wp:EP X Wk σ Q w s:=⟨z,H,I,Yv,q⟩;exact jS (x:=w) pl.typeIs slot_tuple_getitem.lookup
  (getItem_tuple (j:=j) (Q:=λr s'=>r=w/\EP X Wk σ Q r s') pl (by omega) (by omega) (by rw[dq,<-hl];exact h1) (by simpa using ew) ⟨rfl,Wp⟩) hs
def Sh:Sx X Vg:=by
 intro value Wv Wk s σ H x y v u Q I rx ry h hs;obtain⟨z,i,c,rfl,rfl,hz,he,q⟩:=h;obtain⟨t,rfl⟩:=rx;obtain⟨t',rfl⟩:=ry;obtain⟨j,h1,h2,h3,h4,h5⟩:=D6 he;have hl:z.cps.toList.length=z.length:=by simp[Str.length]
 rw[hl]at h1 h4 h5;have hn:=yG;exact tail_any (typeIs_str s z t) slot_str_getitem.lookup (getItem_str (c:=c) (by
  have e1:decide (i< -(2 ^ 63:Int))=false:=eO (by omega);have e2:decide (i>=2 ^ 63)=false:=eO (by omega);rw[e1,e2,iy]) (by rw[h1];simpa using h2) ⟨.str ⟨#[c]⟩,H,I.tok _,⟨_,rfl⟩,q⟩) hs
def Hz(its:List Vl)(n j:Nat)(u:Vl):Obj.mapSeq (·.setIfInBounds j u) {cls:=.type "list",data:=.seq its.toArray n}={cls:=.type "list",data:=.seq (its.set j u).toArray n}:=by simp[Obj.mapSeq]
def Inv.lst{Wk:List (Addr×Obj)}{σ:St}{H:Hp}{s:Sd}{p:Addr}{xs:List V}(I:Inv X Wk σ H s)(h:H p=some (.lst xs)):
  ∃(its:List Vl) (n:Nat),qo xs its/\s.heap.get? p=some {cls:=.type "list",data:=.seq its.toArray n}/\xs.length<=sizeLine:=by
 obtain⟨z,its,n,r,e⟩:=I.mG p _ h;exact⟨its,n,r,e,z⟩
def Inv.oj{Wk:List (Addr×Obj)}{σ:St}{H:Hp}{s:Sd}{p:Addr}{xs ys:List V}{its its':List Vl}{n n':Nat}{f:Obj->Obj}(I:Inv X Wk σ H s)(h:H p=some (.lst xs)) (ho:s.heap.get? p=some {cls:=.type "list",data:=.seq its.toArray n}) (hf:f {cls:=.type "list",data:=.seq its.toArray n}={cls:=.type "list",data:=.seq its'.toArray n'}) (r:qo ys its') (hz:ys.length<=sizeLine) (t:Nat):
  Inv X Wk σ (upd H p (.lst ys)) {s with heap:=s.heap.update p f,toks:=t}:=by
 have e:(s.heap.update p f).get? p=some {cls:=.type "list",data:=.seq its'.toArray n'}:=by rw[fF f ho (by rw[hf]<;>rfl),hf]
 refine I.write (x:=p) (e:=p) (by rw[h];trivial) (.inl rfl) (λb u hb q=>(fW _ _ (dJ hb)).trans q) ⟨_,e⟩ ?_;exact⟨hz,its',n',r,e⟩
def Tr:V->V->V->Hp->(Hp->Prop)->Prop:=λo i v H Q=>∃p xs k j,o=.ref p/\i=.int k/\H p=some (.lst xs)/\FL xs.length k=some j/\Q (upd H p (.lst (xs.set j v)))
def Mg:SO X Tr:=by
 intro Wk s σ H o i v ov iv u Q I ro ri rv h;obtain⟨p,xs,k,j,rfl,rfl,hp,hj,q⟩:=h;cases ro;obtain⟨t,rfl⟩:=ri;obtain⟨its,n,r,ho,hz⟩:=I.lst hp;obtain⟨h1,h2,h3,h4⟩:=HP hj;have hl:=r.length;have hn:=yG;have I':Inv X Wk σ (upd H p (.lst (xs.set j v))) {s with heap:=s.heap.update p (Obj.mapSeq (·.setIfInBounds j u))}:=
  I.oj hp ho (Hz its n j u) (r.set rv j) (by rw[ib];exact hz) s.toks
 by_cases h0:0<=k
 .have hk:k.toNat=j:=by rw[lu h0 h4]at h1;exact dh h1
  exact W.ki_setAt ho h0 (by omega) (by rw[dq,<-hl];exact h4) (by rw[hk];exact⟨_,I',q⟩)
 .have hk:(k+(its.toArray.size:Int)).toNat=j:=by rw[kI (by omega) h3]at h1;rw[dq,<-hl];exact dh h1
  exact W.ki_setBack ho (by omega) (by rw[dq,<-hl];exact h3) (by omega) (by rw[hk];exact⟨_,I',q⟩)
def EH(lo hi:Option Int)(n:Nat):(sliceBounds lo hi none n).1=((HT.sG n 0 lo:Nat):Int)/\(sliceBounds lo hi none n).2.1=((HT.sG n n hi:Nat):Int)/\(sliceBounds lo hi none n).2.2=1:=by
 refine⟨?_,?_,rfl⟩
 .cases lo with
  | none=>simp[sliceBounds,HT.sG]
  | some i=>
   simp only[sliceBounds,HT.sG,lE,show(1:Int)>0 by decide,iV];by_cases h:i<0
   .simp only[h,iV]<;>omega
   .simp only[h,j6]<;>omega
 .cases hi with
  | none=>simp[sliceBounds,HT.sG]
  | some i=>
   simp only[sliceBounds,HT.sG,lE,show(1:Int)>0 by decide,iV];by_cases h:i<0
   .simp only[h,iV]<;>omega
   .simp only[h,j6]<;>omega
def CS(its:List Vl)(lo hi:Option Int):slicePick its.toArray lo hi none=((its.drop (HT.sG its.length 0 lo)).take (HT.sG its.length its.length hi - HT.sG its.length 0 lo)).toArray:=by obtain⟨h1,h2,h3⟩:=EH lo hi its.toArray.size;unfold slicePick;rw[h1,h2,h3];simp only[sliceRange_one,pick_run,dq]<;>rfl
def UU(K:pY):V->Option Int->Option Int->Hp->VK->Prop:=λx lo hi H Q=>∃a xs,x=.ref a/\yJ K H a xs/\∀p,H p=none->Q (.ref p) (upd H p (.lst (BU xs lo hi)))
def HR:Ue X (UU X.K):=by intro Wk s σ H x v vl vu lo hi sl Q I rx hs pl pu h;obtain⟨a,xs,rfl,hx,q⟩:=h;cases rx;obtain⟨its,r,ht,hz⟩:=I.list hx;have Wr:=r.length;refine⟨"list",_,kY.lookup,ht.isList.typeIs,?_⟩;refine wpAny_getItem_list_slice ht.isList hs pl pu .none (by simp) ?_ (by rw[dq]<;>omega);rw[CS,<-Wr];refine⟨.ref s.heap.objs.size,_,I.laid (t':=s.toks) (o:=.lst (BU xs lo hi)) (λb ob q=>cZ _ q) (dg _) ?_,rfl,q _ (I.mG.fresh (dg _))⟩;exact⟨dY (Af xs lo hi) hz,_,0,(r.drop (HT.sG xs.length 0 lo)).take (HT.sG xs.length xs.length hi - HT.sG xs.length 0 lo),dF _ rfl⟩
def yc:V->Bool
 | .mC=>true
 | .bl _=>true
 | .int _=>true
 | .str _=>true
 | _=>false
def Nk:V->V->Bool
 | .mC,.mC=>true
 | .bl a,.bl b=>a==b
 | .bl a,.int b=>(if a then 1 else 0)==b
 | .int a,.bl b=>a==(if b then 1 else 0)
 | .int a,.int b=>a==b
 | .str a,.str b=>a==b
 | _,_=>false
def RA{A:Ar}{s:Sd}{y x:V}{u v:Vl}(ry:qy y u)(rx:qy x v)(fy:yc y=true)(fx:yc x=true):SeqAt.EqAt A s u v (Nk y x):=by
 cases y with
 | mC=>
  cases ry;cases x with
  | mC=>cases rx;exact SeqAt.EqAt.same _
  | bl b=>cases rx;exact SeqAt.EqAt.none_bool b
  | int b=>obtain⟨t,rfl⟩:=rx;exact SeqAt.EqAt.none_int b t
  | str b=>obtain⟨t,rfl⟩:=rx;exact SeqAt.EqAt.none_str b t
  | _=>exact absurd (show false=true from fx) dw
 | bl a=>
  cases ry;cases x with
  | mC=>cases rx;exact SeqAt.EqAt.bool_none a
  | bl b=>cases rx;exact SeqAt.EqAt.bool_bool a b
  | int b=>obtain⟨t,rfl⟩:=rx;exact SeqAt.EqAt.bool_int a b t
  | str b=>obtain⟨t,rfl⟩:=rx;exact SeqAt.EqAt.bool_str a b t
  | _=>exact absurd (show false=true from fx) dw
 | int a=>
  obtain⟨t',rfl⟩:=ry;cases x with
  | mC=>cases rx;exact SeqAt.EqAt.int_none a t'
  | bl b=>cases rx;exact SeqAt.EqAt.int_bool a t' b
  | int b=>obtain⟨t,rfl⟩:=rx;exact SeqAt.EqAt.int_int a t' b t
  | str b=>obtain⟨t,rfl⟩:=rx;exact kA a t' b t
  | _=>exact absurd (show false=true from fx) dw
 | str a=>
  obtain⟨t',rfl⟩:=ry;cases x with
  | mC=>cases rx;exact SeqAt.EqAt.str_none a t'
  | bl b=>cases rx;exact SeqAt.EqAt.str_bool a t' b
  | int b=>obtain⟨t,rfl⟩:=rx;exact kB a t' b t
  | str b=>obtain⟨t,rfl⟩:=rx;exact SeqAt.EqAt.str_str a t' b t
  | _=>exact absurd (show false=true from fx) dw
 | _=>exact absurd (show false=true from fy) dw
def E4(x:V)(u:Vl):Bool:=match u with
 | .none=>Nk .mC x
 | .bool b=>Nk (.bl b) x
 | .int i _=>Nk (.int i) x
 | .str z _=>Nk (.str z) x
 | _=>false
def HC{x y:V}{u:Vl}(r:qy y u)(f:yc y=true):E4 x u=Nk y x:=by
 cases y with
 | mC=>cases r;rfl
 | bl b=>cases r;rfl
 | int i=>obtain⟨t,rfl⟩:=r;rfl
 | str z=>obtain⟨t,rfl⟩:=r;rfl
 | _=>exact absurd (show false=true from f) dw
theorem yP{x:V}:∀{xs:List V} {us:List Vl},qo xs us->xs.all yc=true->us.any (E4 x)=xs.any λy=>Nk y x
 | _,_,.nil,_=>rfl
 | y::xs,u::us,.cons r t,f=>by rw[ft,dU]at f;rw[fX,fX,HC r f.1,yP t f.2]
theorem vV{A:Ar}{s:Sd}{x:V}{v:Vl}(rx:qy x v)(fx:yc x=true):∀{xs:List V} {us:List Vl},qo xs us->xs.all yc=true->∀u∈us,SeqAt.EqAt A s u v (E4 x u)
 | _,_,.nil,_=>λu hu=>by cases hu
 | y::xs,u::us,.cons r t,f=>λu' hu=>by
  rw[ft,dU]at f;rcases df.mp hu with rfl|hu
  .rw[HC r f.1];exact RA r rx f.1 fx
  .exact vV rx fx t f.2 u' hu
def inV(x:V)(xs:List V):Bool:=xs.any λy=>Nk y x
def Vo(K:pY)(XW:Bool):R2:=λx y H Q=>∃p xs,y=.ref p/\(yJ K H p xs\/uK K H p xs)/\yc x=true/\xs.all yc=true/\Q (.bl (if XW then !inV x xs else inV x xs)) H
def J6:wY X (compareOp .In) (Vo X.K false):=by
 intro Wk s σ H x y v u Q I rx ry h;obtain⟨p,xs,rfl,hq,fx,fs,q⟩:=h;cases ry;rcases hq with hq|hq
 .obtain⟨its,r,pl,hz⟩:=I.list hq;refine SeqAt.in_listAt (E4 x) pl.isList (λw hw=>vV rx fx r fs w (by simpa using hw)) ⟨.bl _,H,I,rfl,?_⟩;rw[show its.toArray.any (E4 x)=its.any (E4 x)by simp,yP r fs];exact q
 .obtain⟨its,r,pl,hz⟩:=I.tuple hq;refine SeqAt.in_tupleAt (E4 x) pl (λw hw=>vV rx fx r fs w (by simpa using hw)) ⟨.bl _,H,I,rfl,?_⟩;rw[show its.toArray.any (E4 x)=its.any (E4 x)by simp,yP r fs];exact q
def EG:wY X (compareOp .NotIn) (Vo X.K true):=by
 intro Wk s σ H x y v u Q I rx ry h;obtain⟨p,xs,rfl,hq,fx,fs,q⟩:=h;cases ry;rcases hq with hq|hq
 .obtain⟨its,r,pl,hz⟩:=I.list hq;refine SeqAt.notIn_listAt (E4 x) pl.isList (λw hw=>vV rx fx r fs w (by simpa using hw)) ⟨.bl _,H,I,rfl,?_⟩;rw[show its.toArray.any (E4 x)=its.any (E4 x)by simp,yP r fs];exact q
 .obtain⟨its,r,pl,hz⟩:=I.tuple hq;refine SeqAt.notIn_tupleAt (E4 x) pl (λw hw=>vV rx fx r fs w (by simpa using hw)) ⟨.bl _,H,I,rfl,?_⟩;rw[show its.toArray.any (E4 x)=its.any (E4 x)by simp,yP r fs];exact q
def DJ:wY X (compareOp .NotIn) (λx y H Q=>∃i j,x=.str i/\y=.str j/\Q (.bl (!(!(Builtin.Str.occurrences j i 0 j.length 1).isEmpty))) H):=by intro Wk s σ H x y v u Q I rx ry h;obtain⟨i,j,rfl,rfl,q⟩:=h;obtain⟨t,rfl⟩:=rx;obtain⟨t',rfl⟩:=ry;exact notIn_str ⟨.bl _,H,I,rfl,q⟩
def wF:yY X (.builtin "len") (λxs H Q=>∃p ys,xs=[.ref p]/\(yJ X.K H p ys\/uK X.K H p ys)/\Q (.int ys.length) H):=by
 intro Wk s σ H xs us Q I r h;obtain⟨p,ys,rfl,hq,q⟩:=h;obtain⟨u,rfl,rx⟩:=yb r;cases rx;have hn:=yG;rcases hq with hq|hq
 .obtain⟨its,r',pl,hz⟩:=I.list hq;have Wr:=r'.length;exact Calls.call_len_list pl.isList (by simp only[dq]<;>omega) ⟨.int ys.length,H,I.tok _,⟨s.toks+1,by rw[dq,Wr]⟩,q⟩
 .obtain⟨its,r',pl,hz⟩:=I.tuple hq;have Wr:=r'.length;exact len_tuple pl (by simp only[dq]<;>omega) ⟨.int ys.length,H,I.tok _,⟨s.toks+1,by rw[dq,Wr]⟩,q⟩
def DB:yY X (.builtin "len") (λxs H Q=>∃z,xs=[.str z]/\z.length<=sizeLine/\Q (.int z.length) H):=by intro Wk s σ H xs us Q I r h;obtain⟨z,rfl,hz,q⟩:=h;obtain⟨u,rfl,t,rfl⟩:=yb r;have hn:=yG;exact len_str (by omega) ⟨.int z.length,H,I.tok _,⟨_,rfl⟩,q⟩
def Eh:yY X (.type "list") (λxs H Q=>∃p ys,xs=[.ref p]/\(yJ X.K H p ys\/uK X.K H p ys)/\∀l,H l=none->Q (.ref l) (upd H l (.lst ys))):=by
 intro Wk s σ H xs us Q I r h;obtain⟨p,ys,rfl,hq,q⟩:=h;obtain⟨u,rfl,rx⟩:=yb r;cases rx;have Wp:∀(its:List Vl),qo ys its->ys.length<=sizeLine->∀(h':Heap) (c':Nat),(∀b o',s.heap.get? b=some o'->h'.get? b=some o')->
   h'.get? s.heap.objs.size=some {cls:=.type "list",dict:=none,data:=.seq its.toArray c',slots:=#[]}->EP X Wk σ Q (.ref s.heap.objs.size) {s with heap:=h'}:=λits r' hz h' c' kp e=>
  ⟨.ref s.heap.objs.size,_,I.laid (t':=s.toks) kp (dg _) (show rP X.prog X.w _ h' _ (.lst ys)from⟨hz,its,c',r',e⟩),rfl,q _ (I.mG.fresh (dg _))⟩
 rcases hq with hq|hq
 .obtain⟨its,r',pl,hz⟩:=I.list hq;have Wr:=r'.length;obtain⟨o,ho,hc,n,hd⟩:=pl.isList;exact call_list_seq p (.inl rfl) ho hc hd (λh' c' kp e=>Wp its r' hz h' c' kp e) (by simp only[dq]<;>omega)
 .obtain⟨its,r',pl,hz⟩:=I.tuple hq;have Wr:=r'.length;obtain⟨o,ho,hc,n,hd⟩:=pl;exact call_list_seq p (.inr rfl) ho hc hd (λh' c' kp e=>Wp its r' hz h' c' kp e) (by simp only[dq]<;>omega)
def vD:yY X (.type "tuple") (λxs H Q=>∃p ys,xs=[.ref p]/\((yJ X.K H p ys/\∀l,H l=none->Q (.ref l) (upd H l (.tup ys)))\/(uK X.K H p ys/\Q (.ref p) H))):=by
 intro Wk s σ H xs us Q I r h;obtain⟨p,ys,rfl,h⟩:=h;obtain⟨u,rfl,rx⟩:=yb r;cases rx;rcases h with⟨hq,q⟩|⟨hq,q⟩
 .obtain⟨its,r',pl,hz⟩:=I.list hq;have Wr:=r'.length;refine call_tuple_list pl.isList (λh' kp=>?_) (by simp only[dq]<;>omega);have I1:Inv X Wk σ H {s with heap:=h'}:=I.kept (t':=s.toks) kp;have I2:Inv X Wk σ (upd H h'.objs.size (.tup ys)) {s with heap:=h'.push {cls:=.type "tuple",data:=.seq its.toArray}}:=
   I1.laid (t':=s.toks) (λb o e=>cZ _ e) (dg _) (show rP X.prog X.w _ _ _ (.tup ys)from⟨hz,its,r',D3.new _ _⟩)
  exact⟨.ref h'.objs.size,_,I2,rfl,q _ (I1.mG.fresh (dg _))⟩
 .obtain⟨its,r',pl,hz⟩:=I.tuple hq;exact call_tuple_same pl ⟨.ref p,H,I,rfl,q⟩
def UI(K:pY)(T:String)(x:V)(H:Hp):Prop:=match x with
 | .str _=>T="str"
 | .int _=>T="int"
 | .ref p=>(T="list"/\∃xs,yJ K H p xs)\/(T="tuple"/\∃o,K.lookup p=some o/\o.cls=.type "tuple"/\o.dict=none)\/
   (T="dict"/\((∃kvs,H p=some (.dK kvs))\/∃kvs,H p=some (.dT kvs)))\/(T="set"/\∃S n,H p=some (.set S n))
 | _=>False
def QP{Wk:List (Addr×Obj)}{σ:St}{H:Hp}{s:Sd}{T:String}{x:V}{v:Vl}(I:Inv X Wk σ H s)(r:qy x v)(ty:UI X.K T x H):
  s.TypeIs v T/\∀a,v=.ref a->∃ob,s.heap.get? a=some ob/\ob.dict=none:=by
 cases x with
 | str z=>obtain⟨t,rfl⟩:=r;cases(show T="str" from ty);exact⟨typeIs_str s z t,λ_ e=>nomatch e⟩
 | int i=>obtain⟨t,rfl⟩:=r;cases(show T="int" from ty);exact⟨lP s i t,λ_ e=>nomatch e⟩
 | ref p=>
  cases r;rcases ty with⟨rfl,xs,hq⟩|⟨rfl,o,hk,hc,hd⟩|⟨rfl,hk⟩|⟨rfl,S,n,hk⟩
  .obtain⟨its,_,pl,_⟩:=I.list hq;refine⟨pl.isList.typeIs,λa e=>?_⟩;cases e;obtain⟨o,n,e,c,hd,_⟩:=pl;exact⟨o,e,hd⟩
  .refine⟨⟨o,I.mQ p o hk,hc⟩,λa e=>?_⟩;cases e;exact⟨o,I.mQ _ o hk,hd⟩
  .have z:∃o,s.heap.get? p=some o/\o.ExactDict:=by
    rcases hk with⟨kvs,hk⟩|⟨kvs,hk⟩
    .obtain⟨_,_,_,_,o,_,_,e,ex,_⟩:=I.mG p _ hk;exact⟨o,e,ex⟩
    .obtain⟨_,_,_,_,o,_,_,e,ex,_⟩:=I.mG p _ hk;exact⟨o,e,ex⟩
   obtain⟨o,e,ex⟩:=z;refine⟨⟨o,e,ex.1⟩,λa e2=>?_⟩;cases e2;exact⟨o,e,ex.2.1⟩
  .obtain⟨o,_,_,_,e,ex,_⟩:=I.mG p _ hk;refine⟨⟨o,e,ex.1⟩,λa e2=>?_⟩;cases e2;exact⟨o,e,ex.2.1⟩
 | _=>exact False.elim ty
def Wd(K:pY)(T:String)(r:V->List V->Hp->VK->Prop)(to:TE)(t:TA):TE:=λσ H Q=>to σ H λx H1=>UI K T x H1/\t σ H1 λxs H2=>r x xs H2 Q
def SN(pa:PlainAttrs T)(slot:Slot T name id)(hty:typeOf (.builtin id)=pure (.type "method_descriptor"))(hm:VT X id r)(ho:PE X o to)(ha:PA X (e::es) t) (WJ:attributeBase o name X.env (eval o X.env)=eval o X.env:=by rfl)
  (Xw:((backTo Ws (starEach (e::es) X.env)).all (λx=>!x.1)&&(backToKw Ws (keywordEach [] X.env)).all (λx=>x.1.isSome)
   &&decide ((e::es).length+([]:List Keyword).length+(if ([]:List Keyword).isEmpty then 0 else 1)<30))=true:=by rfl)
  (WT:(Wn.endLine==Ws.line)=true:=by rfl) (hs:AV X e es:=by rfl) (WD:Cd X Ws es:=by rfl):
  PE X (.Call (.Attribute o name Wn) (e::es) [] Ws) (Wd X.K T r to t):=by
 intro Wk s σ H Q I h;refine wpAny_Call_method_late WJ Xw WT rfl (rV (ho Wk s σ H _ I h) λv s1 zz=>?_);obtain⟨x,H1,I1,r1,ty,q1⟩:=zz;obtain⟨h1,h2⟩:=QP I1 r1 ty;refine⟨T,id,pa,slot,hty,h1,h2,?_⟩;have hA:=ha Ws Wk s1 σ H1 _ I1 q1;rw[hs]at hA ⊢;refine Calls.callWith_builtin (by show(false||(backTo Ws (starEach es X.env)).any (·.1))=false;rw[WD]<;>rfl) (Calls.evalArgs_plain ?_);exact rV hA λus s2 zz=>x5 zz λvs H2 I2 r2 q2=>hm Wk s2 σ H2 x vs v us Q I2 r1 r2 q2
end
def Wb(X:Cx)(id:String)(r:V->List V->Hp->VK->Prop):Prop:=
 ∀(Wk:List (Addr×Obj)) (s:Sd) (σ:St) (H:Hp) (x:V) (xs:List V) (v:Vl) (us:List Vl) (Q:VK),Inv X Wk σ H s->qy x v->qo xs us->r x xs H Q->
  wpAny (model X.prog X.w) X.A (call (.builtin id) (v::us)) (EP X Wk σ Q) X.xe s
def qo.one:∀{x:V} {us:List Vl},qo [x] us->∃u,us=[u]/\qy x u
 | _,_,.cons r .nil=>⟨_,rfl,r⟩
theorem qo.rep{xs:List V}{us:List Vl}(h:qo xs us):∀k:Nat,qo (List.replicate k xs).flatten (List.replicate k us).flatten
 | 0=>.nil
 | k+1=>by rw[eF,eF,fO,fO];exact qo.append h (qo.rep h k)
theorem CT(its:List Vl):∀(k:Nat) (acc:List Vl),List.foldl (λx1 x2=>x1++x2) acc.toArray (List.replicate k its.toArray)=(acc++(List.replicate k its).flatten).toArray
 | 0,acc=>by simp
 | k+1,acc=>by
  have e:acc.toArray++its.toArray=(acc++its).toArray:=by simp
  have e2:(acc++its)++(List.replicate k its).flatten=acc++(List.replicate (k+1) its).flatten:=by rw[eF,fO,fj]
  rw[<-e2,<-CT its k (acc++its),<-e,eF,fT]
variable {Wk:List (Addr × Obj)}{σ:St}{H:Hp}{s:Sd}{l:Addr}{xs ys zs:List V}
section
variable {b:Addr}
def Inv.lset{its its':List Vl}{n:Nat}{f:Array Vl->Array Vl}{t':Nat}(I:Inv X Wk σ H s)(hH:H l=some (.lst xs)) (e:s.heap.get? l=some {cls:=.type "list",data:=.seq its.toArray n}) (hf:f its.toArray=its'.toArray) (hv:qo ys its') (hz:ys.length<=sizeLine):
  Inv X Wk σ (upd H l (.lst ys)) {s with heap:=s.heap.update l (Obj.mapSeq f),toks:=t'}:=by
 have q:=PySem.IsL.update e f;rw[hf]at q;refine I.write (x:=l) (e:=l) (by rw[hH];exact trivial) (.inl rfl) (λb' u hb hu=>(fW s.heap (Obj.mapSeq f) (dJ hb)).trans hu) ⟨_,q⟩ ?_;exact⟨hz,its',_,hv,q⟩
def Inv.oC{its:List Vl}{t':Nat}(I:Inv X Wk σ H s)(hv:qo ys its)(hz:ys.length<=sizeLine):
  Inv X Wk σ (upd H s.heap.objs.size (.lst ys)) {s with heap:=s.heap.push {cls:=.type "list",data:=.seq its.toArray},toks:=t'}:=
 I.laid (λ_ _ q=>cZ _ q) (dg _) ⟨hz,its,0,hv,dF _ rfl⟩
def Inv.fresh(I:Inv X Wk σ H s):H s.heap.objs.size=none:=I.mG.fresh (dg _)
def Inv.oy(I:Inv X Wk σ H s)(hH:H l=some (.lst xs)):xs.length<=sizeLine/\∃(its:List Vl) (n:Nat),qo xs its/\xs.length=its.length/\s.heap.get? l=some {cls:=.type "list",data:=.seq its.toArray n}:=by obtain⟨z,its,n,r,e⟩:=I.mG l _ hH;exact⟨z,its,n,r,r.length,e⟩
def La{n:Nat}(h:n<=sizeLine):Builtin.List.listTooLong n=false:=by unfold Builtin.List.listTooLong;exact eO (by omega)
end
def Np:V->List V->Hp->VK->Prop:=λx vs H Q=>∃l xs y,x=.ref l/\vs=[y]/\H l=some (.lst xs)/\xs.length<sizeLine/\Q .mC (upd H l (.lst (xs++[y])))
def Jj:Wb X "list.append" Np:=by intro Wk s σ H x vs v us Q I rx rv h;obtain⟨l,xs,y,rfl,rfl,hH,hz,q⟩:=h;cases rx;obtain⟨u,rfl,ru⟩:=rv.one;obtain⟨z,its,n,r,hl,e⟩:=I.oy hH;refine jp F.slot_list_append ⟨_,e,rfl⟩ F.entry_list_append (F.args_list_append_2 _ _) (PySem.list_append l its.toArray n u (by rw[dq];omega)) ⟨e,?_⟩;refine⟨.mC,_,I.lset (its':=its++[u]) hH e (by simp) (r.append (.cons ru .nil)) ?_,rfl,q⟩;rw[cX,dQ];omega
def U0:R2:=λx y H Q=>∃l k xs,x=.ref l/\y=.int k/\H l=some (.lst xs)/\-(2 ^ 63)<=k/\k<2 ^ 63/\xs.length*k.toNat<=sizeLine/\
 ∀p,H p=none->Q (.ref p) (upd H p (.lst (List.replicate k.toNat xs).flatten))
def Px{α:Type}(xs:List α)(k:Nat):(List.replicate k xs).flatten.length=k*xs.length:=by
 induction k with
 | zero=>simp
 | succ k ih=>rw[eF,fO,cX,ih,l0,Nat.add_comm]
def RS:wY X (binaryOp .Mult) U0:=by
 intro Wk s σ H x y v u Q I rx ry h;obtain⟨l,k,xs,rfl,rfl,hH,h1,h2,hz,q⟩:=h;cases rx;obtain⟨t,rfl⟩:=ry;obtain⟨z,its,n,r,hl,e⟩:=I.oy hH;have Wr:its.toArray.size*k.toNat<=sizeLine:=by rw[dq,<-hl];exact hz
 have hcap:¬its.toArray.size*k.toNat>(2 ^ 63 - 1) / 8:=by
  have:(sizeLine:Nat)<=(2 ^ 63 - 1) / 8:=by decide
  omega
 have WU:¬(!Builtin.List.listFitsIndex k)=true:=by rw[fitsIndex_both h1 h2];exact dw
 have hlong:¬Builtin.List.listTooLong (its.toArray.size*k.toNat)=true:=by rw[La Wr];exact dw
 have X2:List.foldl (λx1 x2=>x1++x2) #[] (List.replicate (if its.toArray.isEmpty=true then 0 else k.toNat) its.toArray)=(List.replicate k.toNat its).flatten.toArray:=by
  have f0:∀m:Nat,List.foldl (λx1 x2=>x1++x2) #[] (List.replicate m its.toArray)=(List.replicate m its).flatten.toArray:=λm=>by have:=CT its m [];rw[dX]at this;exact this
  rw[f0];cases its with
  | nil=>simp
  | cons a r'=>rw[cY (by simp)]
 refine wpAny_binaryOp_repeat_ref (T:="list") (U:="int") (by decide) ⟨_,e,rfl⟩ (λs'=>lP s' k t) noFill_list_mul F.fills_int_mul lQ repeat_list F.slot_int_index.lookup
  (jp lQ (lP s k t) F.entry_int_rmul (F.args_int_rmul_2 _ _) (int___rmul___int_list k t l its.toArray n)
   ⟨e,rfl,⟨_,e,rfl⟩,jp F.slot_list_mul ⟨_,e,rfl⟩ F.entry_list_mul (F.args_list_mul_2 _ _) (AutoListH.list___mul___list_int_3 l its.toArray n k t WU hcap hlong) ⟨e,?_⟩⟩)
 rw[X2];exact⟨.ref _,_,I.oC (t':=s.toks) (r.rep k.toNat) (by rw[Px,Nat.mul_comm];exact hz),rfl,q _ I.fresh⟩
variable {prog:Pg}{w:Wo}{A:Ar}{E:Vl→Sd→Prop}
end L2
namespace Att
open PySem PySem.W PySem.Calls PyProof.Rows
def AH{P:Params}{h:Heap}:∀(ns:List Int) (vs:List Vl),WellAll P h vs (ns.map WData.int)->IntsAre vs ns:=by
 intro ns;induction ns with
 | nil=>intro vs w;rw[iG]at w;cases w;exact .nil
 | cons n ns ih=>
  intro vs w;rw[dS]at w;cases w with
  | cons a b=>cases a;exact .cons _ _ (ih _ b)
def JO{l:OpenLaw}{n:Nat}(hn:l.most=some n){P:Params}{h:Heap}{args:List WData}{Zc:List Vl} (Yw:l.row.toRowW.claim.pre args=true) (hwl:WellAll P h Zc args):
  ∃a vs ns,Zc=[Value.ref a]/\args=[WData.list (ns.map WData.int)]/\h.get? a=some {cls:=.type "list",data:=.seq vs.toArray}/\IntsAre vs ns/\ns.length<=n:=by
 have hsh:WShape.hasAll [] args [.list .int]=true:=(pre_splitW Yw).1;have hc:l.pre.holds [] {args:=args}=true:=(pre_splitW Yw).2;obtain⟨d,r,rfl,h1,h2⟩:=hasAllW_cons hsh;obtain rfl:=hasAllW_nil h2;obtain⟨xs,rfl,h3⟩:=hasW_list h1;obtain⟨ns,rfl⟩:=items_int h3;have Wr:ns.length<=n:=by
  unfold OpenLaw.pre at hc;have h4:(WTm.not (.lt (.lit (.int (n:Int))) (.len (.arg 0)))).holds [] {args:=[.list (ns.map .int)]}=true:=by have h4:=(holds_andW hc).1;rw[hn]at h4;exact h4
  have h5:=condW_of h4 (w_not (w_lt w_lit (w_len_list (w_arg rfl))));rw[cT]at h5;refine Nat.le_of_not_lt λq=>?_;have q':(n:Int)<((ns.length:Nat):Int):=by omega
  first
   | (rw[dR q']at h5;exact absurd h5 (by decide))
   | (simp at h5;omega)
 cases hwl with
 | cons w1 w2=>
  cases w2;cases w1 with
  | list ho W1=>exact⟨_,_,ns,rfl,rfl,ho,AH ns _ W1,Wr⟩
def JV(l:OpenLaw)(args:List WData):l.row.toRowW.claim.post args (.bool true) args=true:=
 postW_of (r:=l.row.toRowW) (X:=(true==true))
  (show WShape.has [] (.bool true) .bool=true by first|rfl|decide|simp[WShape.has,WShape.arms,WShape.armsAll])
  (show(WTm.eq .res (.lit (.bool true))).value [] {args:=args,res:=some (.bool true),after:=args}=some (.bool (true==true))from w_eq_bool (w_res rfl) w_lit) rfl
def attach_call{l:OpenLaw}{n:Nat}{q:Pg}{W8:List Str}{XP:(Str->Option Vl)->Heap->Prop}{YP:Wo->Heap->Prop}{d:DefRec} (hn:l.most=some n) (YR:d.params.defaults=[]) (call:∀(w:Wo) (s₀ s₁:Sd) (mg mb:Str->Option Vl) (fa:Addr) (o:Obj) (pm cd WX:Vl) (a:Addr) (vs:List Vl) (ns:List Int),Ground q W8 [] XP w s₀ mg mb s₁.heap->YP w s₁.heap->
   s₁.heap.get? fa=some o->o.data=.func (docDef d.name d.params d.body d.scope pm cd WX)->s₁.heap.CodeRec cd d.name->mg d.name=some (.ref fa)->
   s₁.heap.get? a=some {cls:=.type "list",data:=.seq vs.toArray}->IntsAre vs ns->ns.length<=n->s₁.gens=#[]->
   codeAny (model l.prog w) callerA (.call (.ref fa) ⟨[.ref a],[]⟩) (λr s'=>r=.ok (.ret (.bool true))/\OldK s₁.heap s'.heap/\s'.os=s₁.os/\AllBare s'.gens) s₁):
  WalkO q W8 XP YP l.row.toRowW d [] (λf vs=>PySem.call f vs):=by
 intro w s₀ s₁ mg mb G Y fa o pm cd WX dV kV ho hd Xi hD hmg hg args Zc as Yw hlay hrd hwl hlo;obtain rfl:dV=.none:=Dflts.none hD YR;obtain rfl:kV=.none:=Dflts.noKw hD;obtain⟨a,vs,ns,rfl,rfl,Zd,X3,Wr⟩:=JO hn Yw hwl;refine enter_call (gf (call w s₀ s₁ mg mb fa o pm cd WX a vs ns G Y ho (fd_plain hd) Xi hmg Zd X3 Wr hg) λr s' hq=>?_);obtain⟨rfl,h2,h3,h4⟩:=hq;exact⟨.inl ⟨.bool true,.bool true,[],rfl,λ_=>rfl,.bool true,JV l _,λ_=>⟨List.Pairwise.nil,λ_ hm=>(nomatch hm)⟩⟩,h2,h3,h4⟩
variable {prog:Pg}{w:Wo}{A:Ar}{E:Vl→Sd→Prop}{s:Sd}{K:Frag}
end Att
namespace L2
open PySem PySem.Spec PyProof.Rows
theorem CZ:∀{vs:List Vl} {ns:List Int},IntsAre vs ns->qo (ns.map V.int) vs
 | _,_,.nil=>.nil
 | _,_,.cons n t h=>.cons ⟨t,rfl⟩ (CZ h)
def MZ(H:Hp):Prop:=∀b,H b=none\/∃o xs,H b=some (.frz o (.lst xs))
def Kz{P:Pg}{w:Wo}{K:pY}{mg mb:Str->Option Vl}{CX:Ke}{k:Nat}{fa a:Addr}{fd:FuncData}{x:Str}{sp:Sp}{s₁:Sd}{vs:List Vl}{ns:List Int} (KX:K.In s₁.heap) (hns:s₁.heap.Ns mainGlobals mg) (hb:s₁.heap.Ns builtinsNs mb) (hbb:∀x:Str,x≠"__name__"->mb x=bootBuiltins x) (hlim:s₁.heap.NoLimit) (hg:s₁.gens=#[]) (ha:s₁.heap.get? a=some {cls:=.type "list",data:=.seq vs.toArray}) (hi:IntsAre vs ns) (hl:ns.length<=sizeLine) (hr:rD k callerA)
  (F:∀base:Heap,K.In base->base.Ns mainGlobals mg->wR P w K mg base CX k fa fd [x] sp) (hbind:∀(s:Sd) (u:Vl),BindsTo s fd ⟨[u],[]⟩ [(x,u)])
  (XM:∀H:Hp,MZ H->yJ K H a (ns.map V.int)->sp [.ref a] H (λv _=>v=.bl true) λ_ _ _=>False)
  (hCX:∀H e s',CX [] H s₁ (λ_ _ _=>False) e s'->False):
  codeAny (model P w) callerA (.call (.ref fa) ⟨[.ref a],[]⟩) (λr s'=>r=.ok (.ret (.bool true))/\OldK s₁.heap s'.heap/\s'.os=s₁.os/\AllBare s'.gens) s₁:=by
 have rv:=CZ hi;have lenV:=hi.length;have core:∀H:Hp,MZ H->yJ K H a (ns.map V.int)->x9 P w H s₁.heap->(∀b,H b≠none->b=a)->(H a≠none->K.lookup a=none)->
   codeAny (model P w) callerA (.call (.ref fa) ⟨[.ref a],[]⟩) (λr s'=>r=.ok (.ret (.bool true))/\OldK s₁.heap s'.heap/\s'.os=s₁.os/\AllBare s'.gens) s₁:=by
  intro H hO hS mG hA hK;have XF:∀{b:Addr} {o:Obj},s₁.heap.get? b=some o->H b=none->(En s₁.heap H).get? b=some o:=λe n=>Ki e n;have noA:∀{b:Addr} {o:Obj} {es:Array DictEntry} {ep:Nat},s₁.heap.get? b=some o->o.data=.dict es ep->H b=none:=λ{b o es ep} e d=>by
   cases q:H b with
   | none=>rfl
   | some u=>have e':b=a:=hA b (by rw[q];simp);subst e';rw[ha]at e;cases e;have d':Data.seq vs.toArray _=Data.dict es ep:=d;cases d'
  have nsK:∀{b:Addr} {m:Str->Option Vl},s₁.heap.Ns b m->(En s₁.heap H).Ns b m:=λ{b m} ⟨o,es,ep,e,d,r⟩=>⟨o,es,ep,XF e (noA e d),d,r⟩;have hKb:K.In (En s₁.heap H):=λb o e=>XF (KX b o e) (by
   cases q:H b with
   | none=>rfl
   | some u=>
    have e':b=a:=hA b (by rw[q];simp);subst e';rw[hK (by rw[q];simp)]at e;cases e)
  have hM:Mod K mg (En s₁.heap H):=⟨hKb,nsK hns,⟨mb,nsK hb,hbb⟩,let⟨mc,h1,h2⟩:=hlim;⟨mc,nsK h1,h2⟩⟩;have e0:G9 P w K mg (En s₁.heap H) callerA [] s₁ H:=⟨rfl,hM,λb o e=>Pa e,lZ (JB _ _),trivial,λb hb=>absurd (show b∈([]:List Addr)from hb) (by simp),mG,.of_eq hg⟩;refine gf ((F _ hKb (nsK hns)).run callerA [] s₁ H ⟨[.ref a],[]⟩ [.ref a] [.ref a] _ _ hr e0 (hbind s₁ (.ref a)) (.cons rfl .nil) (XM H hO hS)) λr s' h=>?_;cases r with
  | error e=>exact(hCX H e s' h).elim
  | ok fl=>
   cases fl with
   | next=>exact False.elim h
   | brk=>exact False.elim h
   | cont=>exact False.elim h
   | ret u=>
    obtain⟨v,H',os,bare,un,Ze,r',q⟩:=h;have q':v=.bl true:=q;subst q';obtain rfl:u=Value.bool true:=r';refine⟨rfl,OldK.of_keep λb o e=>?_,os,bare⟩;cases q:H b with
    | none=>exact un.keep b o e q (by intro z;exact absurd (show b∈([]:List Addr)from z) (by simp)) (by simp)
    | some u=>
     rcases hO b with z|⟨ob,xs,z⟩
     .rw[q]at z;cases z
     .have z2:=un.mY b ob _ z;obtain⟨e1,_⟩:=mG b _ z;obtain⟨e2,_⟩:=Ze b _ z2;rw[e]at e1;cases e1;exact e2
 cases hk:K.lookup a with
 | some o=>have e:=KX a o hk;rw[ha]at e;cases e;refine core (λ_=>none) (λ_=>.inl rfl) (.inr ⟨_,vs.toArray,_,hk,rfl,rfl,rfl,by rw[dq,lenV];exact hl,by simpa using rv⟩) (λb u z=>by have z':(none:Option HO)=some u:=z;cases z') (λb z=>absurd rfl z) λz=>absurd rfl z
 | none=>
  refine core (λb=>if b=a then some (.frz {cls:=.type "list",data:=.seq vs.toArray} (.lst (ns.map V.int)))else none) (λb=>?_) (.inl (.inr ⟨{cls:=.type "list",data:=.seq vs.toArray},c9 rfl⟩)) (λb u z=>?_) (λb z=>?_) λ_=>hk
  .by_cases hb:b=a
   .exact .inr ⟨_,_,c9 hb⟩
   .exact .inl (cY hb)
  .by_cases hb:b=a
   .have z':=(c9 hb).symm.trans z;cases z';subst hb;exact⟨ha,by rw[cT];exact hl,vs,_,rv,ha⟩
   .have z':=(cY hb).symm.trans z;cases z'
  .by_cases hb:b=a
   .exact hb
   .exact absurd (cY hb) z
def Pb{l:W.OpenLaw}{n k:Nat}{q:Pg}{W8:List Str}{XP:(Str->Option Vl)->Heap->Prop}{YP:Wo->Heap->Prop}{d:DefRec}{K:Params->pY}{CX:Wo->Ke}{sp:Wo->Sp}{x:Str} (hn:l.most=some n) (Y7:n<=sizeLine) (YR:d.params.defaults=[]) (hr:rD k callerA) (hY:∀(w:Wo) (h:Heap),YP w h->(K w.params).In h) (F:∀(w:Wo) (mg:Str->Option Vl) (fa:Addr) (h:Heap),(K w.params).In h->h.Ns mainGlobals mg->mg d.name=some (.ref fa)->
   ∃fd:FuncData,(∀(s:Sd) (u:Vl),BindsTo s fd ⟨[u],[]⟩ [(x,u)])/\
    ∀base:Heap,(K w.params).In base->base.Ns mainGlobals mg->wR l.prog w (K w.params) mg base (CX w) k fa fd [x] (sp w))
  (XM:∀(w:Wo) (H:Hp) (a:Addr) (ns:List Int),ns.length<=n->MZ H->yJ (K w.params) H a (ns.map V.int)->sp w [.ref a] H (λv _=>v=.bl true) λ_ _ _=>False)
  (hCX:∀(w:Wo) (H:Hp) (s:Sd) (e:Vl) (s':Sd),CX w [] H s (λ_ _ _=>False) e s'->False):
  W.WalkO q W8 XP YP l.row.toRowW d [] (λf vs=>PySem.call f vs):=by
 refine Att.attach_call hn YR λw s₀ s₁ mg mb fa o pm cd WX a vs ns G Y ho hd Xi hmg Zd X3 Wr hg=>?_;have KX:=hY w _ Y;obtain⟨fd,hb,hF⟩:=F w mg fa _ KX G.T.g hmg;exact Kz KX G.T.g G.T.b G.T.builtins G.T.nolimit hg Zd X3 (dY Wr Y7) hr hF hb (λH hO hS=>XM w H a ns Wr hO hS) λH e s'=>hCX w H s₁ e s'
def Nz(s:Stmt)(j:Nat):Stmt:=match s with
 | .ClassDef _ _ _ body _ _ _ _ _ _ _=>body.getD j (.Pass ⟨0,0,0,0⟩)
 | _=>.Pass ⟨0,0,0,0⟩
def tY(s:Stmt):Arguments:=match s with
 | .FunctionDef _ a _ _ _ _ _ _ _ _=>a
 | _=>{posonlyargs:=[],args:=[],vararg:=none,kwonlyargs:=[],kw_defaults:=[],kwarg:=none,defaults:=[]}
def rq(s:Stmt):List Stmt:=match s with
 | .FunctionDef _ _ b _ _ _ _ _ _ _=>b
 | _=>[]
def pR(s:Stmt):Scope:=match s with
 | .FunctionDef _ _ _ _ _ _ sc _ _ _=>sc
 | _=>{kind:=.function,names:=[],isGenerator:=false,isCoroutine:=false}
abbrev Ni:Ke:=λ_ _ _ _ _ _=>False
abbrev E0:XK:=λ_ _ _=>False
def Ga{X:Cx}:Bb Ni X E0:=λ_ _ _ _ _ _ _ h=>h.elim
structure Pl(K:pY)(x qual:Str)(st:Stmt)(f:Addr)(fd:FuncData):Prop where
 ex:∃(oc:Vl) (od:Option Addr) (kV WX pm:Vl) (an:Option Addr) (Wu ct:Vl) (Xd:Array (Option Vl)),
  fd=W.fnOf x qual (tY st) (rq st) (pR st) .none kV WX pm an Wu ct/\K.lookup f=some ⟨oc,od,.func fd,Xd⟩/\W.codeIn K Wu qual=true
 kp:W.keepIn K (.ref f)=true
variable {P:Pg}{K:pY}{mg:Str→Option Vl}{base:Heap}
section
variable {w:Wo}
def Pl.ok{x qual:Str}{st:Stmt}{f:Addr}{fd:FuncData}{N ps:List Str}{k:Nat}{sp:Sp}(F:Pl K x qual st f fd)(S:sF N ps (pR st))(len:∀vs H Q E,sp vs H Q E->vs.length=ps.length) (WI:∀(Wu:Vl) (A:Ar) (outer:List Env) (s:Sd) (H:Hp) (vs:List V) (Q:VK) (E:XK),rD k (A.deeper (envOfC qual (pR st) s.heap.objs.size f Wu))->sp vs H Q E->
   ∃t,Be (vd Ni P w K mg base N qual (pR st) f Wu A outer s H E).og (rq st) t/\t {nx:=λ_ H'=>Q .mC H',rt:=Q} (start N vs) H):wR P w K mg base Ni (k+1) f fd ps sp:=by
 obtain⟨oc,od,kV,WX,pm,an,Wu,ct,Xd,rfl,lk,Xi⟩:=F.ex;refine LJ lk Xi S len λA outer s H vs Q E hr XM=>?_;obtain⟨t,h,q⟩:=WI Wu A outer s H vs Q E hr XM;exact⟨t,h.og,q⟩
def Pl.binds{x qual:Str}{st:Stmt}{f:Addr}{fd:FuncData}{ps:List Str}(F:Pl K x qual st f fd) (h:∀(kV WX pm:Vl) (an:Option Addr) (Wu ct:Vl) (us:List Vl),us.length=ps.length->bindArgs (W.fnOf x qual (tY st) (rq st) (pR st) .none kV WX pm an Wu ct) ⟨us,[]⟩=pure (ps.zip us)):uy K fd ps []:=by
 obtain⟨oc,od,kV,WX,pm,an,Wu,ct,Xd,rfl,lk,Xi⟩:=F.ex;exact .all (h kV WX pm an Wu ct)
def LV{x qual:Str}{st:Stmt}{f:Addr}{oc:Vl}{od an:Option Addr}{Xd:Array (Option Vl)}{kV WX pm Wu ct:Vl}(l:K.lookup f=some ⟨oc,od,.func (W.fnOf x qual (tY st) (rq st) (pR st) .none kV WX pm an Wu ct),Xd⟩) (c:W.codeIn K Wu qual=true) (k:W.keepIn K (.ref f)=true):Pl K x qual st f (W.fnOf x qual (tY st) (rq st) (pR st) .none kV WX pm an Wu ct):=⟨⟨oc,od,kV,WX,pm,an,Wu,ct,Xd,rfl,l,c⟩,k⟩
end
variable {X:Cx}
def pv(i:Nat){x:Str}{pos:Pos}(hN:X.N[i]?=some x:=by rfl)(hv:Ru X.env.scope x:=by first|exact Or.inl rfl|exact Or.inr (Or.inl rfl)|exact Or.inr (Or.inr rfl))(hd:yk x:=by decide)
  (Xi:(x==("__classdict__":Str))=false:=by decide):PE X (.Name x pos) (E1 i):=KF hN hv hd Xi
def GN{A B:Prop}(h:B):if false=true then A else B:=by rw[cY dw];exact h
def OI{A B:Prop}(h:A):if true=true then A else B:=by rw[c9 rfl];exact h
def qr{c A B:Prop}[Decidable c](h1:c->A)(h2:¬c->B):if c then A else B:=by
 by_cases h:c
 .rw[c9 h];exact h1 h
 .rw[cY h];exact h2 h
def O4(H H':Hp):Prop:=∀b o,H b=some o->H' b=some o
def O4.trans{H H1 H2:Hp}(a:O4 H H1)(b:O4 H1 H2):O4 H H2:=λc o h=>b c o (a c o h)
section
variable {κ:Type}[DecidableEq κ]
def wq(kvs:List (κ×V))(k:κ):Option V:=(kvs.find? λkv=>decide (kv.1=k)).map (·.2)
def yl(kvs:List (κ×V))(k:κ)(v:V):List (κ×V):=
 if (kvs.any λkv=>decide (kv.1=k))=true then kvs.map (λkv=>if kv.1=k then(kv.1,v)else kv)else kvs++[(k,v)]
def Bj{p:κ×V}{r:List (κ×V)}{k:κ}(e:p.1=k):wq (p::r) k=some p.2:=by simp[wq,fH,e]
def B'{p:κ×V}{r:List (κ×V)}{k:κ}(e:¬p.1=k):wq (p::r) k=wq r k:=by simp[wq,fH,e]
theorem Fv(k:κ):∀kvs:List (κ×V),(kvs.any λkv=>decide (kv.1=k))=(wq kvs k).isSome
 | []=>rfl
 | p::r=>by
  rw[fX];by_cases e:p.1=k
  .simp only[Bj e,dR e,gZ,Option.isSome_some]
  .rw[B' e,eO e,fC];exact Fv k r
def Ag(kvs:List (κ×V))(k:κ)(v:V):(yl kvs k v).length<=kvs.length+1:=by
 unfold yl;split
 .rw[cT];omega
 .rw[cX,d6,dI];omega
def xY.m9{o:Option V}{u:Option Vl}(r:xY o u):o.isSome=u.isSome:=by
 cases o with
 | none=>cases u with
  | none=>rfl
  | some _=>exact(show False from r).elim
 | some _=>cases u with
  | none=>exact(show False from r).elim
  | some _=>rfl
def KV.val{kvs:List (κ×V)}{vs:List (κ×Vl)}(r:KV kvs vs)(k:κ):xY (wq kvs k) (valueAt vs k):=by
 unfold KV at r;induction r with
 | nil=>exact True.intro
 | @cons p q ps qs h t ih=>
  obtain⟨h1,h2⟩:=h;by_cases e:p.1=k
  .have e':q.1=k:=h1.symm.trans e;have b:valueAt (q::qs) k=some q.2:=by simp[valueAt,fH,e']
   rw[Bj e,b];exact h2
  .have e':¬q.1=k:=λz=>e (h1.trans z);have b:valueAt (q::qs) k=valueAt qs k:=by simp[valueAt,fH,e']
   rw[B' e,b];exact ih
def KV.any{kvs:List (κ×V)}{vs:List (κ×Vl)}(r:KV kvs vs)(k:κ):(kvs.any λkv=>decide (kv.1=k))=vs.any λkv=>decide (kv.1=k):=by
 unfold KV at r;induction r with
 | nil=>rfl
 | cons h t ih=>rw[fX,fX,ih,h.1]
def KV.nW{kvs:List (κ×V)}{vs:List (κ×Vl)}(r:KV kvs vs)(k:κ){y:V}{u:Vl}(ry:qy y u):
  KV (kvs.map λkv=>if kv.1=k then(kv.1,y)else kv) (vs.map λkv=>if kv.1=k then(kv.1,u)else kv):=by
 unfold KV at r ⊢;induction r with
 | nil=>exact .nil
 | @cons p q ps qs h t ih=>
  rw[dS,dS];refine .cons ?_ ih;obtain⟨h1,h2⟩:=h;by_cases e:p.1=k
  .rw[c9 e,c9 (h1.symm.trans e)];exact⟨h1,ry⟩
  .rw[cY e,cY (λz=>e (h1.trans z))];exact⟨h1,h2⟩
def KV.put{kvs:List (κ×V)}{vs:List (κ×Vl)}(r:KV kvs vs)(k:κ){y:V}{u:Vl}(ry:qy y u):KV (yl kvs k y) (stored vs k u):=by
 unfold yl stored;rw[r.any k];by_cases e:(vs.any λkv=>decide (kv.1=k))=true
 .rw[c9 e,c9 e];exact r.nW k ry
 .rw[cY e,cY e];exact mj r ⟨rfl,ry⟩
def KV.length{kvs:List (κ×V)}{vs:List (κ×Vl)}(r:KV kvs vs):kvs.length=vs.length:=jg r
end
def FB{P:Pg}{w:Wo}{k:qR}{u:Vl}(r:qy (kV k) u):(rb P w).is k u=true:=by
 cases k with
 | inl i=>obtain⟨t,e⟩:=(show ∃t,u=Value.int i t from r);subst e;exact FY P w i t
 | inr x=>obtain⟨t,e⟩:=(show ∃t,u=Value.str x t from r);subst e;exact Ae P w x t
theorem CY{P:Pg}{w:Wo}:∀{ks:List qR} {us:List Vl},qo (ks.map kV) us->ItemsAre (rb P w) ks us
 | [],_,r=>by rw[iG]at r;cases r;exact .nil
 | k::ks,_,r=>by
  rw[dS]at r;cases r with
  | cons h t=>exact .cons (FB h) (CY t)
abbrev KT(H:Hp):List (List qR×V)->List (List qR×Addr×Vl)->Prop:=Paired λp q=>p.1=q.1/\H q.2.1=some (.tup (p.1.map kV))/\qy p.2 q.2.2
def KT.val{H:Hp}{kvs:List (List qR×V)}{xs:List (List qR×Addr×Vl)}(r:KT H kvs xs)(k:List qR):xY (wq kvs k) ((atKey xs k).map (·.2)):=by
 induction r with
 | nil=>exact True.intro
 | @cons p q ps qs h t ih=>
  obtain⟨h1,_,h2⟩:=h;by_cases e:p.1=k
  .have e':q.1=k:=h1.symm.trans e;have b:atKey (q::qs) k=some q.2:=by simp[atKey,fH,e']
   rw[Bj e,b];exact h2
  .have e':¬q.1=k:=λz=>e (h1.trans z);have b:atKey (q::qs) k=atKey qs k:=by simp[atKey,fH,e']
   rw[B' e,b];exact ih
def KT.nW{H:Hp}{kvs:List (List qR×V)}{xs:List (List qR×Addr×Vl)}(r:KT H kvs xs)(k:List qR){y:V}{u:Vl}(ry:qy y u):
  KT H (kvs.map λkv=>if kv.1=k then(kv.1,y)else kv) (xs.map (putAt k u)):=by
 induction r with
 | nil=>exact .nil
 | @cons p q ps qs h t ih=>
  rw[dS,dS];refine .cons ?_ ih;obtain⟨h1,h2,h3⟩:=h;unfold putAt;by_cases e:p.1=k
  .rw[c9 e,c9 (h1.symm.trans e)];exact⟨h1,h2,ry⟩
  .rw[cY e,cY (λz=>e (h1.trans z))];exact⟨h1,h2,h3⟩
def KT.put{H:Hp}{kvs:List (List qR×V)}{xs:List (List qR×Addr×Vl)}(r:KT H kvs xs)(k:List qR){b:Addr}{y:V}{u:Vl}(hb:H b=some (.tup (k.map kV)))(ry:qy y u):
  KT H (yl kvs k y) (storedH xs k b u):=by
 have e:(kvs.any λkv=>decide (kv.1=k))=(atKey xs k).isSome:=by rw[Fv,(r.val k).m9,jl]
 unfold yl storedH;rw[e];by_cases q:(atKey xs k).isSome=true
 .rw[c9 q,c9 q];exact r.nW k ry
 .rw[cY q,cY q];exact mj r ⟨rfl,hb,ry⟩
def KT.keeps{H H':Hp}{kvs:List (List qR×V)}{xs:List (List qR×Addr×Vl)}(r:KT H kvs xs)(ht:∀b ys,H b=some (.tup ys)->H' b=some (.tup ys)):KT H' kvs xs:=
 Paired.oa r λ_ _ z=>⟨z.1,ht _ _ z.2.1,z.2.2⟩
variable {H:Hp}{h:Heap}{a:Addr}
section
variable {w:Wo}
def Qc{u:HO}(ok:x9 P w H h)(e:Rd H a u):rP P w H h a u:=e.ok ok
def HX{kvs:List (qR×V)}(ok:x9 P w H h)(e:Rd H a (.dK kvs)):kvs.length<=sizeLine/\(a==sysModules)=false/\∃vs,KV kvs vs/\h.DictOf (rb P w) a vs:=
 show rP P w H h a (.dK kvs)from Qc ok e
def SR{kvs:List (qR×V)}(ok:x9 P w H h)(e:H a=some (.dK kvs)):kvs.length<=sizeLine/\(a==sysModules)=false/\∃vs,KV kvs vs/\h.DictOf (rb P w) a vs:=HX ok (.inl e)
def EW{ks:List qR}(ok:x9 P w H h)(e:H a=some (.tup (ks.map kV))):(tupleKind (rb P w)).is h ks a:=by obtain⟨_,its,r,o,h1,h2,⟨n,h3⟩,_⟩:=(show rP P w H h a (.tup (ks.map kV))from ok a _ e);exact⟨o,its.toArray,n,h1,h2,h3,by simpa using CY r⟩
def Ir{kvs:List (List qR×V)}(ok:x9 P w H h)(e:Rd H a (.dT kvs)):kvs.length<=sizeLine/\(a==sysModules)=false/\
  ∃xs,KT H kvs xs/\h.DictOfH (tupleKind (rb P w)) a xs:=by
 obtain⟨z,y,xs,r,o,es,ep,h1,h2,h3,h4,h5⟩:=(show rP P w H h a (.dT kvs)from Qc ok e);refine⟨z,y,xs,r,o,es,ep,h1,h2,h3,h4,λx hx=>?_,h5⟩;have all:∀{l:List (List qR×V)} {m:List (List qR×Addr×Vl)},KT H l m->∀x∈m,(tupleKind (rb P w)).is h x.1 x.2.1:=by
  intro l m q;induction q with
  | nil=>intro x hx;exact nomatch hx
  | @cons p q ps qs hq t ih=>
   intro x hx;rcases df.mp hx with e|hx
   .subst e;exact EW ok (by rw[<-hq.1];exact hq.2.1)
   .exact ih x hx
 exact all r x hx
def T1{kvs:List (List qR×V)}(ok:x9 P w H h)(e:H a=some (.dT kvs)):kvs.length<=sizeLine/\(a==sysModules)=false/\
  ∃xs,KT H kvs xs/\h.DictOfH (tupleKind (rb P w)) a xs:=Ir ok (.inl e)
end
def EZ(H:Hp)(a:Addr)(y:V)(r:Option V):Prop:=
 (∃kvs k,Rd H a (.dK kvs)/\y=kV k/\r=wq kvs k)\/∃kvs k b,Rd H a (.dT kvs)/\y=.ref b/\H b=some (.tup (k.map kV))/\r=wq kvs k
def MF(H:Hp)(a:Addr)(y v:V)(H':Hp):Prop:=
 (∃kvs k,H a=some (.dK kvs)/\y=kV k/\kvs.length<sizeLine/\H'=upd H a (.dK (yl kvs k v)))\/
 ∃kvs k b,H a=some (.dT kvs)/\y=.ref b/\H b=some (.tup (k.map kV))/\kvs.length<sizeLine/\H'=upd H a (.dT (yl kvs k v))
def EZ.k{H:Hp}{a:Addr}{kvs:List (qR×V)}{k:qR}(e:H a=some (.dK kvs)):EZ H a (kV k) (wq kvs k):=.inl ⟨kvs,k,.inl e,rfl,rfl⟩
def MF.k{H:Hp}{a:Addr}{kvs:List (qR×V)}{k:qR}{v:V}(e:H a=some (.dK kvs))(hl:kvs.length<sizeLine):MF H a (kV k) v (upd H a (.dK (yl kvs k v))):=.inl ⟨kvs,k,e,rfl,hl,rfl⟩
variable {Wk:List (Addr × Obj)}{σ:St}{y v:V}{u r:Vl}
section
variable {s:Sd}{o:Option V}{A:Ar}{E:Vl→Sd→Prop}
def Inv.big(I:Inv X Wk σ H s):sysModules<s.heap.objs.size:=by have h:mainGlobals<s.heap.objs.size:=(I.mod.glob.keeps I.bk).lt;exact jz (by decide) h
def Jv{Q:Vl->Sd->Prop}(hu:A.units+1<cLine)(I:Inv X Wk σ H s)(g:EZ H a y (some v))(ry:qy y u)(h:∀w' s',Inv X Wk σ H s'->qy v w'->Q w' s'):
  wpAny (model X.prog X.w) A (getItem (.ref a) u) Q E s:=by
 rcases g with⟨kvs,k,e,ey,l⟩|⟨kvs,k,b,e,ey,eb,l⟩
 .subst ey;obtain⟨z,hd,vs,rel,dd⟩:=HX I.mG e;obtain⟨w',hw,Yv⟩:=xY.some_of (v:=v) (o:=valueAt vs k) (by rw[l];exact rel.val k);exact wpAny_getItem_of (FB ry) dd.mapOf hw (h w' _ (I.tok _) Yv)
 .subst ey;cases(show u=Value.ref b from ry);obtain⟨z,hd,xs,rel,dd⟩:=Ir I.mG e;obtain⟨w',hw,Yv⟩:=xY.some_of (v:=v) (o:=(atKey xs k).map (·.2)) (by rw[l];exact rel.val k);obtain⟨p,hp,Ww⟩:=iu.mp hw;refine wpAny_getItem_heap (jb hu) (EW I.mG eb) dd hp ?_;rw[Ww];exact h w' _ (I.tok _) Yv
def UO{Q:Vl->Sd->Prop}(hu:A.units+1<cLine)(I:Inv X Wk σ H s)(g:EZ H a y o)(ry:qy y u)(h:∀s',Inv X Wk σ H s'->Q (.bool o.isSome) s'):
  wpAny (model X.prog X.w) A (compareOp .In u (.ref a)) Q E s:=by
 rcases g with⟨kvs,k,e,ey,l⟩|⟨kvs,k,b,e,ey,eb,l⟩
 .subst ey;obtain⟨z,hd,vs,rel,dd⟩:=HX I.mG e;refine wpAny_in_of (FB ry) hd dd.mapOf ?_;rw[<-(rel.val k).m9,<-l];exact h _ (I.tok _)
 .subst ey;cases(show u=Value.ref b from ry);obtain⟨z,hd,xs,rel,dd⟩:=Ir I.mG e;refine wpAny_in_heap (jb hu) (EW I.mG eb) hd dd ?_;have q:=(rel.val k).m9;rw[jl]at q;rw[<-q,<-l];exact h _ (I.tok _)
def Im{h':Heap}{t':Nat}{ob:HO}(I:Inv X Wk σ H s)(mu:Uk (H a))(hs:Heap.SameBut a s.heap h')(he:∃q,h'.get? a=some q)(new:rP X.prog X.w (upd H a ob) h' a ob):
  Inv X Wk σ (upd H a ob) {s with heap:=h',toks:=t'}:=
 I.write (x:=a) (e:=a) mu (.inl rfl) (λb q hb z=>(hs.2 b hb).trans z) he new
def Kg{P:Pg}{w:Wo}{H':Hp}{h':Heap}{kvs:List (qR×V)}{vs:List (qR×Vl)}(z:kvs.length<=sizeLine)(hd:(a==sysModules)=false)(rel:KV kvs vs)(dd:h'.DictOf (rb P w) a vs):
  rP P w H' h' a (.dK kvs):=⟨z,hd,vs,rel,dd⟩
def Jk{H':Hp}{Q:Unit->Sd->Prop}(hu:A.units+1<cLine)(I:Inv X Wk σ H s)(g:MF H a y v H')(ry:qy y u)(rv:qy v r)(h:∀s',Inv X Wk σ H' s'->Q () s'):
  wpAny (model X.prog X.w) A (setItem (.ref a) u r) Q E s:=by
 rcases g with⟨kvs,k,e,ey,l,eH⟩|⟨kvs,k,b,e,ey,eb,l,eH⟩
 .subst ey eH;obtain⟨z,hd,vs,rel,dd⟩:=SR I.mG e;have hz:vs.length<=sizeLine:=by rw[<-rel.length];exact z
  have hl:(yl kvs k v).length<=sizeLine:=by have:=Ag kvs k v;omega
  refine wpAny_setItem_pairs (hsz:=hz) (FB ry) dd λh' dd' hs=>h _ ?_;have he:∃q,h'.get? a=some q:=let⟨q,_,_,hq,_⟩:=dd';⟨q,hq⟩;exact Im I (by rw[e];exact True.intro) hs he (Kg hl hd (rel.put k rv) dd')
 .subst ey eH;cases(show u=Value.ref b from ry);obtain⟨z,hd,xs,rel,dd⟩:=T1 I.mG e;have hz:xs.length<=sizeLine:=by rw[<-jg rel];exact z
  have hl:(yl kvs k v).length<=sizeLine:=by have:=Ag kvs k v;omega
  refine wpAny_setItem_heap (hsz:=hz) (jb hu) (EW I.mG eb) dd λh' dd' hs=>h _ ?_;obtain⟨q,es,ep,hq,h2,h3,h4,_,h5⟩:=dd';refine Im I (by rw[e];exact True.intro) hs ⟨q,hq⟩ ⟨hl,hd,_,(rel.put k eb rv).keeps λc ys ec=>?_,q,es,ep,hq,h2,h3,h4,h5⟩;rw[pL (S8 ec e (λz=>nomatch z))];exact ec
end
variable {kvs:List (qR × V)}{k:qR}
section
variable {s:Sd}{A:Ar}{E:Vl→Sd→Prop}
end
def FU{X:Cx}{Wk:List (Addr×Obj)}{σ:St}{H:Hp}{s:Sd}{a:Addr}{y:V}{o:Option V}(I:Inv X Wk σ H s)(g:EZ H a y o):s.TypeIs (.ref a) "dict":=by
 rcases g with⟨kvs,k,e,_,_⟩|⟨kvs,k,b,e,_,_,_⟩
 .obtain⟨_,_,vs,_,dd⟩:=HX I.mG e;exact dd.typeIs
 .obtain⟨_,_,xs,_,dd⟩:=Ir I.mG e;exact dd.typeIs
def TY(td ty tv:TE):TS:=λD σ H=>tv σ H λv H1=>td σ H1 λx H2=>ty σ H2 λy H3=>∃a H4,x=.ref a/\MF H3 a y v H4/\D.nx σ H4
variable {i e value:Expr}{pos Wt Yu:Pos}{td ty tv:TE}
section
variable {o:Expr}
def Py(hu:X.A.units+1<cLine)(ho:PE X o td)(hi:PE X i ty)(hv:PE X value tv)(hs:swapsWith value (some (.Subscript o i Wt)) pos.line X.env=pure false):
  PS X (.Assign [.Subscript o i Wt] value pos) (TY td ty tv):=by
 intro Wk s σ H D I h;refine wpAny_Assign_Subscript (rV (hv Wk s σ H _ I h) λr s1 zz=>x5 zz λv H1 I1 rv q1=>rV (ho Wk s1 σ H1 _ I1 q1) λu s2 zz=>x5 zz λx H2 I2 rx q2=>rV (hi Wk s2 σ H2 _ I2 q2) λiv s3 zz=>?_) hs;obtain⟨y,H3,I3,ry,a,H4,ex,g,q3⟩:=zz;subst ex;obtain rfl:u=Value.ref a:=rx;exact Jk hu I3 g ry rv λs4 I4=>⟨σ,H4,I4,q3⟩
end
structure M1(X:Cx)(o:Expr)(m:Str)(Wn:Pos)(e:Expr)(Ws:Pos):Prop where
 base:attributeBase o m X.env (eval o X.env)=eval o X.env
 oO:((backTo Ws (starEach [e] X.env)).all (λx=>!x.1)&&(backToKw Ws (keywordEach [] X.env)).all (λx=>x.1.isSome)
  &&decide (([e]:List Expr).length+([]:List Keyword).length+(if ([]:List Keyword).isEmpty then 0 else 1)<30))=true
 line:(Wn.endLine==Ws.line)=true
 trees:backTo Ws (starEach [e] X.env)=[(false,eval e X.env)]
structure M2(X:Cx)(o:Expr)(m:Str)(Wn:Pos)(e f:Expr)(Ws:Pos):Prop where
 base:attributeBase o m X.env (eval o X.env)=eval o X.env
 oO:((backTo Ws (starEach [e,f] X.env)).all (λx=>!x.1)&&(backToKw Ws (keywordEach [] X.env)).all (λx=>x.1.isSome)
  &&decide (([e,f]:List Expr).length+([]:List Keyword).length+(if ([]:List Keyword).isEmpty then 0 else 1)<30))=true
 line:(Wn.endLine==Ws.line)=true
 trees:backTo Ws (starEach [e,f] X.env)=[(false,eval e X.env),(false,eval f X.env)]
variable {d:V}
section
variable {s:Sd}{o:Option V}{A:Ar}{E:Vl→Sd→Prop}
end
variable {f:Expr}{Wn Ws:Pos}{tx:TE}
section
variable {o:Expr}
end
section
variable {s:Sd}{A:Ar}{E:Vl→Sd→Prop}
end
section
variable {s:Sd}{A:Ar}{E:Vl→Sd→Prop}
end
section
variable {κ:Type}[DecidableEq κ]
end
def AE(env:Env):List (Str×NameKind)->List (Str×Addr)->List (Str×Addr)
 | [],acc=>acc
 | (n,k)::r,acc=>AE env r (if k==.free then(n,(env.cells.lookup n).getD 0)::acc else acc)
theorem Fp{env:Env}{f:(Str×NameKind)->List (Str×Addr)->Sem (ForInStep (List (Str×Addr)))} (hf:∀x cs,(x.2=.free->∃c,env.cells.lookup x.1=some c)->f x cs=pure (.yield (if x.2==.free then(x.1,(env.cells.lookup x.1).getD 0)::cs else cs))):
  ∀(l:List (Str×NameKind)) (acc:List (Str×Addr)),(∀x∈l,x.2=.free->∃c,env.cells.lookup x.1=some c)->forIn l acc f=pure (AE env l acc)
 | [],acc,_=>by rw[jU];rfl
 | (n,k)::r,acc,h=>by rw[jK,hf (n,k) acc (h _ dN),pure_bind];exact Fp hf r _ λx hx=>h x (dC _ hx)
def ye{scope:Scope}{env:Env}(h:∀x∈scope.names,x.2=.free->∃c,env.cells.lookup x.1=some c):closureFor scope env=pure (AE env scope.names []):=by
 unfold closureFor;have e:=Fp (env:=env) (f:=λ(x:Str×NameKind) (cs:List (Str×Addr))=>(do
   if x.2==.free then
    let a<-cellOf env x.1
    pure (ForInStep.yield ((x.1,a)::cs))
   else pure (ForInStep.yield cs))) (λx cs hx=>by
  cases hk:x.2==NameKind.free with
  | false=>simp
  | true=>
   obtain⟨c,hc⟩:=hx (by simpa using hk);simp[cellOf,hc]) scope.names [] h
 first
  | exact(eE (·>>=pure) e).trans (by simp)
  | (simp only[bind_pure];exact e)
  | (rw[<-e];rfl)
theorem L4{env:Env}{x:Str}{c:Addr}:∀{l:List (Str×NameKind)} {acc:List (Str×Addr)},(∀x∈l,x.2=.free->∃c,env.cells.lookup x.1=some c)->(∀x c,acc.lookup x=some c->env.cells.lookup x=some c)->(AE env l acc).lookup x=some c->env.cells.lookup x=some c
 | [],acc,_,ha,h=>ha x c h
 | (n,k)::r,acc,hl,ha,h=>by
  refine L4 (l:=r) (acc:=if k==.free then(n,(env.cells.lookup n).getD 0)::acc else acc) (λy hy=>hl y (dC _ hy)) (λy d hd=>?_) h;cases hk:k==NameKind.free with
  | false=>rw[hk]at hd;exact ha y d (by simpa using hd)
  | true=>
   rw[hk,c9 rfl]at hd;obtain⟨e,he⟩:=hl (n,k) dN (by simpa using hk);rw[eK]at hd;cases hy:y==n with
   | true=>
    rw[hy]at hd;have yn:y=n:=by simpa using hy
    subst yn;have he:env.cells.lookup y=some e:=he;rw[he]at hd ⊢;exact hd
   | false=>rw[hy]at hd;exact ha y d hd
theorem LI{env:Env}{x:Str}:∀{l:List (Str×NameKind)} {acc:List (Str×Addr)},(∃c,acc.lookup x=some c)->∃c,(AE env l acc).lookup x=some c
 | [],_,h=>h
 | (n,k)::r,acc,h=>by
  refine LI (l:=r) ?_;cases hk:k==NameKind.free with
  | false=>simpa using h
  | true=>
   rw[c9 rfl,eK];cases hy:x==n with
   | true=>exact⟨_,rfl⟩
   | false=>exact h
theorem Ht{env:Env}{x:Str}:∀{l:List (Str×NameKind)} {acc:List (Str×Addr)},l.lookup x=some .free->∃c,(AE env l acc).lookup x=some c
 | [],_,h=>by simp at h
 | (n,k)::r,acc,h=>by
  rw[eK]at h;cases hy:x==n with
  | true=>rw[hy]at h;have hk:k=.free:=dh h;subst hk;refine LI (l:=r) ⟨(env.cells.lookup n).getD 0,?_⟩;show List.lookup x (if NameKind.free==NameKind.free then(n,(env.cells.lookup n).getD 0)::acc else acc)=some ((env.cells.lookup n).getD 0);rw[c9 (by rfl),eK,hy]
  | false=>rw[hy]at h;exact Ht (l:=r) h
theorem tV{env:Env}{x:Str}:∀{l:List (Str×NameKind)},(l.map λ(n,k)=>if (k==NameKind.free&&env.scope.kind==.function&&env.kindOf n==some .cell)then(n,NameKind.cell)else(n,k)).lookup x
   = (l.lookup x).map λk=>if (k==NameKind.free&&env.scope.kind==.function&&env.kindOf x==some .cell)then NameKind.cell else k
 | []=>rfl
 | (n,k)::r=>by
  rw[dS];show List.lookup x ((if (k==NameKind.free&&env.scope.kind==.function&&env.kindOf n==some .cell)=true then(n,NameKind.cell)else(n,k))::_)=_;cases hy:x==n with
  | true=>
   have yn:x=n:=by simpa using hy
   subst yn;by_cases hc:(k==NameKind.free&&env.scope.kind==.function&&env.kindOf x==some .cell)=true
   .rw[c9 hc,eK,eK,hy];simp only[jL];rw[c9 hc]
   .rw[cY hc,eK,eK,hy];simp only[jL];rw[cY hc]
  | false=>
   by_cases hc:(k==NameKind.free&&env.scope.kind==.function&&env.kindOf n==some .cell)=true
   .rw[c9 hc,eK,eK,hy];exact tV
   .rw[cY hc,eK,eK,hy];exact tV
def NL(ix:List (Option Nat))(σ:St):St:=ix.map λo=>o.bind λi=>(σ[i]?).join
abbrev Cx.comp(X:Cx)(scope:Scope)(N':List Str)(C:Addr)(s0:Sd)(H0:Hp)(ex:List Addr):Cx:=
 {X with N:=N',s₀:=s0,H₀:=H0,env:=compEnvC scope (AE X.env scope.names []) C X.env,outer:=X.stack,ex:=ex,fn:=λ_=>false,pn:=[],xe:=λ_ _=>False}
structure rJ(X:Cx)(scope:Scope)(ix:List (Option Nat))(N':List Str):Prop where
 kind:scope.kind=.function
 n9:∀y∈scope.names,y.2≠.cell
 nam:∀y∈scope.names,y.2=.local->scope.names.lookup y.1=some .local
 fre:∀y∈scope.names,y.2=.free->X.env.scope.names.lookup y.1=some .cell\/X.env.scope.names.lookup y.1=some .free
 len:ix.length=N'.length
 at_:∀(j i:Nat) (x:Str),ix[j]?=some (some i)->N'[j]?=some x->X.N[i]?=some x/\scope.names.lookup x=some .free
variable {scope:Scope}{ix:List (Option Nat)}{N':List Str}{fp:List Addr}
section
variable {s:Sd}
def rJ.cells(S:rJ X scope ix N')(ok:X.Ok):∀x∈scope.names,x.2=.free->∃c,X.env.cells.lookup x.1=some c:=λx hx hk=>ok.has x.1 (S.fre x hx hk)
def rJ.sub(S:rJ X scope ix N')(ok:X.Ok){x:Str}{c:Addr}(h:(AE X.env scope.names []).lookup x=some c):X.env.cells.lookup x=some c:=L4 (S.cells ok) (λ_ _ z=>by simp at z) h
theorem va{x:Str}{k:NameKind}:∀{l:List (Str×NameKind)},l.lookup x=some k->(x,k)∈l
 | [],h=>by simp at h
 | (n,j)::r,h=>by
  rw[eK]at h;cases hy:x==n with
  | true=>
   rw[hy]at h;have yn:x=n:=by simpa using hy
   subst yn;rw[dh h];exact dN
  | false=>rw[hy]at h;exact dC _ (va h)
def Inv.comp{C:Addr}{h1:Heap}{tk:Nat}(I:Inv X Wk σ H s)(S:rJ X scope ix N')(hf:∀b∈fp,Ah X Wk H b)(Wx:∀b∈fp,b<s.heap.objs.size)(hC:s.heap.objs.size<=C) (k:∀b o,s.heap.get? b=some o->h1.get? b=some o) (hn:h1.Ns C (λ_=>none)):Inv (X.comp scope N' C s H fp) (X.pn++Wk) (NL ix σ) H {s with heap:=h1,toks:=tk}:=by
 have sub:∀{x:Str} {c:Addr},(AE X.env scope.names []).lookup x=some c->X.env.cells.lookup x=some c:=λh=>S.sub I.ok h;refine⟨⟨I.ok.mod,S.kind,I.ok.glob,I.ok.blt,hC,λx y c e1 e2=>I.ok.inj x y c (sub e1) (sub e2),λx hx=>?_,λ_ _ z=>(dw z).elim,I.ok.hd,I.ok.frames,.inl rfl,λb hb=>⟨dG (dH (Wx b hb) hC),λx c e=>(hf b hb).2.2.2.2.1 x c (sub e)⟩,I.bs,dY I.ok.nO I.sz,λb o e hb=>?_,λb hb hfs=>?_,I.stack,I.nu⟩,rfl,I.bare,Un.kept k,⟨_,hn,λi x v e1 e2 e3=>?_⟩,λx c e=>?_,I.mG.fresh hC,λx c e=>I.mM x c (sub e),λp hp=>?_,I.mG.kept k,?_⟩
 .have hx:(relabel scope X.env).names.lookup x=some .cell\/(relabel scope X.env).names.lookup x=some .free:=hx;have e:(relabel scope X.env).names.lookup x=(scope.names.lookup x).map λk=>if (k==NameKind.free&&X.env.scope.kind==.function&&X.env.kindOf x==some .cell)then NameKind.cell else k:=tV
  rw[e]at hx;cases q:scope.names.lookup x with
  | none=>rw[q]at hx;rcases hx with hx|hx<;>simp at hx
  | some kd=>
   cases kd with
   | free=>exact Ht q
   | cell=>exact absurd rfl (S.n9 _ (va q))
   | _=>rw[q]at hx;rcases hx with hx|hx<;>simp at hx
 .rcases(hf b hb).2.2.2.1 with z|z
  .exact I.ok.nF b o e z
  .exact absurd (dH (dv e) (dY I.ok.nO z)) (e9 _)
 .rcases df.mp (I.ni b hfs)with z|z
  .exact(hf b hb).2.1 z
  .exact(hf b hb).2.2.1 z
 .have Yx:(ix[i]?).map (λo=>o.bind λi=>(σ[i]?).join)=some (some v):=by have z:(NL ix σ)[i]?=some (some v):=e2;unfold NL at z;rw[dA]at z;exact z
  cases q:ix[i]? with
  | none=>rw[q]at Yx;cases Yx
  | some o=>
   rw[q]at Yx;cases o with
   | none=>cases Yx
   | some j=>
    have Yy:(σ[j]?).join=some v:=dh Yx;have e4:σ[j]?=some (some v):=by
     cases r:σ[j]? with
     | none=>rw[r]at Yy;cases Yy
     | some w=>rw[r]at Yy;exact eE some Yy
    obtain⟨n1,n2⟩:=S.at_ i j x q e1;obtain⟨m,hm,hl⟩:=I.loc;have hk:=S.fre _ (va n2) rfl;have hv:Ru X.env.scope x:=by
     rcases hk with z|z
     .exact .inr (.inl z)
     .exact .inr (.inr z)
    obtain⟨u,ru,lk⟩:=hl j x v n1 e4 hv;refine⟨u,ru,?_⟩;have Zf:X.env.kindOf x=some .cell\/X.env.kindOf x=some .free:=hk;rcases lk with⟨z,_⟩|⟨_,c,hc,hcell⟩
    .rcases Zf with y|y<;>(rw[y]at z;cases z)
    .obtain⟨c',hc'⟩:=Ht (env:=X.env) (acc:=[]) n2;have:=sub hc';rw[hc]at this;cases this;refine .inr ⟨?_,c,hc',hcell.keeps k⟩;show(relabel scope X.env).names.lookup x=some .cell\/(relabel scope X.env).names.lookup x=some .free;have e:(relabel scope X.env).names.lookup x=(scope.names.lookup x).map λk=>if (k==NameKind.free&&X.env.scope.kind==.function&&X.env.kindOf x==some .cell)then NameKind.cell else k:=tV
     rw[e,n2];simp only[jL];split
     .exact .inl rfl
     .exact .inr rfl
 .obtain⟨v,q⟩:=I.cell x c (sub e);exact⟨v,q.keeps k⟩
 .obtain⟨e,n,ne,nf,d⟩:=I.pin p (by simpa using hp);refine⟨k _ _ e,n,dG (dH (dv e) hC),λz=>?_,d⟩;rcases df.mp (I.ni p.1 z)with y|y
  .exact ne y
  .exact nf y
 .show(NL ix σ).length=N'.length;unfold NL;rw[cT];exact S.len
end
section
variable {prog:Pg}{w:Wo}{A:Ar}{R:Result→Sd→Prop}{s:Sd}
def xt{Xb WO iter:Expr}{WV:List Expr}{scope:Scope}{pos:Pos}{it acc:Vl}{env:Env}(I:Nat->Sd->Prop){EX:Vl->Sd->Prop}(hEX:∀e s',EX e s'->notedBy (model prog w) A env (λx s'=>R (.error x) s') e s') (turn:∀n s,I n s->wpAny (model prog w) A (pyNext it) (λr s₁=>match r with
   | none=>R (.ok .next) s₁
   | some v=>wpAny (model prog w) A (letOwnedTupleGo WO it v) (λ_ s₁=>wpAny (model prog w) A (assign WO env v) (λ_ s₂=>
     wpAny (model prog w) A (forIn WV true λc r=>if r=true then do let ok<-isTrue c env (eval c env);pure (ForInStep.yield ok)else pure (ForInStep.yield r)) (λok s₃=>
      if ok=true then wpAny (model prog w) A (eval Xb env) (λx s₄=>
       wpAny (model prog w) A (call (.builtin "list.append") [acc,x]) (λ_ s₅=>∃m,m<n/\I m s₅) (λ_ _=>False) s₄) EX s₃
      else ∃m,m<n/\I m s₃) (λ_ _=>False) s₂) (λ_ _=>False) s₁) (λ_ _=>False) s₁) (λ_ _=>False) s)
  (n:Nat) (h:I n s):
  codeAny (model prog w) A (.compLoop (.ListComp Xb [⟨WO,iter,WV,0⟩] scope pos) 0 it acc env) R s:=by
 refine codeAny_loop rfl I (λn s hI=>?_) n h;show wpAny _ A ((compTurn (.ListComp Xb [⟨WO,iter,WV,0⟩] scope pos) 0 it acc env).onRaise (λx=>do noteFrame x env;theTreesLotGoes x)) _ _ s;refine wpAny_noted ?_;rw[compTurn_list];refine cU (gL (cU (eA (turn n s hI) (λr s₁ h₁=>?_) λ_ _ h'=>h'.elim)));cases r with
 | none=>exact de h₁
 | some v=>
  refine cU (eA h₁ (λ_ s₁' h₁'=>?_) λ_ _ h'=>h'.elim);refine cU (eA h₁' (λ_ s₂ h₂=>cU (eA h₂ (λok s₃ h₃=>?_) λ_ _ h'=>h'.elim)) λ_ _ h'=>h'.elim);cases ok with
  | false=>exact de ⟨rfl,h₃⟩
  | true=>exact cU (cU (eA h₃ (λx s₄ h₄=>cU (eA h₄ (λ_ s₅ h₅=>de (de ⟨rfl,h₅⟩)) λ_ _ h'=>h'.elim)) hEX))
end
def PF(X:Cx)(WV:List Expr)(t:TT):Prop:=
 ∀(Wk:List (Addr×Obj)) (s:Sd) (σ:St) (H:Hp) (Q:Bool->Hp->Prop),Inv X Wk σ H s->t σ H Q->
  wpAny (model X.prog X.w) X.A (forIn WV true λc r=>if r=true then do let ok<-isTrue c X.env (eval c X.env);pure (ForInStep.yield ok)else pure (ForInStep.yield r)) (TP X Wk σ Q) X.xe s
def SY:TT:=λ_ H Q=>Q true H
def RF{X:Cx}:PF X [] SY:=λ_ _ _ H _ I h=>wpAny_tests_nil ⟨H,I,h⟩
def Ri{X:Cx}{c:Expr}{t:TT}(h:PT X c t):PF X [c] t:=λWk s σ H Q I q=>wpAny_tests_one (h Wk s σ H Q I q)
def Qm(ix:List (Option Nat))(g:TG)(tt:TT)(te:TE)(σ:St)(J:It)(Q:VK)(H:Hp):Prop:=
 ∃W:Nat->Nat->List V->St->Hp->Prop,(∃m,W 0 m [] (NL ix σ) H)/\∀i m ys σ' H,W i m ys σ' H->
  (J.stop i H/\ys.length<=sizeLine/\∀D,H D=none->Q (.ref D) (upd H D (.lst ys)))\/
  (J.go i H/\ys.length<sizeLine/\∀x H',J.ow i H x H'->g x σ' H' λσ2 H2=>tt σ2 H2 λb H3=>if b=true then te σ2 H3 λy H4=>∃m',m'<m/\W (i+1) m' (ys++[y]) σ2 H4 else ∃m',m'<m/\W (i+1) m' ys σ2 H3)
def KS(ix:List (Option Nat))(wi:TI)(g:TG)(tt:TT)(te:TE):TE:=λσ H Q=>wi σ H λJ H1=>Qm ix g tt te σ J Q H1
variable {tg iter Xb:Expr}{WV:List Expr}{g:TG}{tt:TT}{te:TE}{J:It}{it:Addr}{tn:Nat→Heap→Prop}{Q:VK}
section
variable {s:Sd}
def A0{XP:Addr->Sd->Hp->List Addr->List (Addr×Obj)->St->Vl->Sd->Prop}{RR:Vl->Addr->Result->Sd->Prop}{E:Vl->Sd->Prop}(hc:X.calm=true)(S:rJ X scope ix N')(I:Inv X Wk σ H s)(T:FE X.prog X.w X.K tg J fp it tn)(st:tn 0 s.heap)(hf:∀b∈fp,Ah X Wk H b) (hg:∀C s0 H0 ex,PG (X.comp scope N' C s0 H0 ex) tg g) (ht:∀C s0 H0 ex,PF (X.comp scope N' C s0 H0 ex) WV tt) (he:∀C s0 H0 ex Wk s σ H Q,Inv (X.comp scope N' C s0 H0 ex) Wk σ H s->te σ H Q->wpAny (model X.prog X.w) X.A (eval Xb (X.comp scope N' C s0 H0 ex).env) (EP (X.comp scope N' C s0 H0 ex) Wk σ Q) (XP C s0 H0 ex Wk σ) s) (hx:∀C D e s',s.heap.objs.size<=C->(∃Xh σ',(∀b∈fp,∃o,(b,o)∈Xh)/\XP C s H fp Xh σ' e s')->notedBy (model X.prog X.w) X.A (compEnvC scope (AE X.env scope.names []) C X.env) (λx s'=>RR D C (.error x) s') e s') (hw:Qm ix g tt te σ J Q H) (Wp:∀D C s' H' m,s.heap.objs.size<=C->H' C=none->s'.heap.Ns C m->Inv X Wk σ H' s'->Q (.ref D) H'->RR (.ref D) C (.ok .next) s'):
  wpAny (model X.prog X.w) X.A (newList []) (λacc s₃=>wpAny (model X.prog X.w) X.A (newFunctionEnv scope X.env.globals (AE X.env scope.names []) [] X.env.qual none .none (some X.env)) (λW2 s₄=>
   codeAny (model X.prog X.w) X.A (.compStart (.ListComp Xb [⟨tg,iter,WV,0⟩] scope pos) 0 (.ref it) acc {W2 with scope:=relabel scope X.env}) (RR acc W2.locals) s₄) E s₃) E s:=by
 obtain⟨W,⟨m0,w0⟩,turn⟩:=hw;have Wx:∀b∈fp,b<s.heap.objs.size:=λb hb=>by obtain⟨o,e,_⟩:=T.obj _ _ st b hb;exact dv e
 refine fR (wpAny_newFunctionEnv S.n9 (by intro y hy;simp at hy) (λh₁ X4 Yz=>?_) S.kind);dsimp only at X4 Yz ⊢;generalize hH2:s.heap.push {cls:=.type "list",dict:=none,data:=.seq ([]:List Vl).toArray}=H2 at X4 Yz ⊢;have hC:H2.objs.size=s.heap.objs.size+1:=by rw[<-hH2,fm]
 have hDC:s.heap.objs.size≠H2.objs.size:=by rw[hC];exact dG (fv _)
 have YA:s.heap.objs.size<=H2.objs.size:=by rw[hC];exact gS _
 have YS:∀b,b<s.heap.objs.size->b≠H2.objs.size/\b≠s.heap.objs.size:=λb hb=>⟨by rw[hC];exact dG (gU hb),dG hb⟩;have old:∀b o,s.heap.get? b=some o->h₁.get? b=some o:=λb o e=>Yz.extBut b o (YS b (dv e)).1 (cZ _ (hH2 ▸ cZ _ e));have hacc:h₁.get? s.heap.objs.size=some {cls:=.type "list",data:=.seq ([]:List Vl).toArray 0}:=Yz.extBut _ _ hDC (cZ _ (hH2 ▸ dF _ rfl));have X4:h₁.Ns H2.objs.size (λ_=>none):=X4;have Xu:∀{H':Hp} {pl:List (Addr×Obj)},(∀b∈fp,H' b=none)->(∀p∈pl,p.1∉fp)->∀b∈fp,Ah (X.comp scope N' H2.objs.size s H fp) (X.pn++Wk++pl) H' b:=λ{H' pl} hn WA b hb=>by
  refine⟨hn b hb,dG (dH (Wx b hb) YA),λz=>?_,.inl hb,λx c e=>(hf b hb).2.2.2.2.1 x c (S.sub I.ok e),λp hp=>?_⟩
  .rcases df.mp (I.ni b z)with y|y
   .exact(hf b hb).2.1 y
   .exact(hf b hb).2.2.1 y
  .rcases dW.mp (show p∈X.pn++Wk++pl by simpa using hp)with z|z
   .exact(hf b hb).2.2.2.2.2 p z
   .intro q;exact WA p z (q ▸ hb)
 have loop:∀s₃:Sd,s₃={s with heap:=h₁,toks:=s.toks+([]:List (Str×Vl)).length}->
   codeAny (model X.prog X.w) X.A (.compLoop (.ListComp Xb [⟨tg,iter,WV,0⟩] scope pos) 0 (.ref it) (.ref s.heap.objs.size) (compEnvC scope (AE X.env scope.names []) H2.objs.size X.env))
    (RR (.ref s.heap.objs.size) H2.objs.size) s₃:=by
  rintro s₃ rfl
  refine xt (hEX:=λe s' z=>hx _ _ e s' YA z) (λn s'=>∃(i:Nat) (ys:List V) (us:List Vl) (k:Nat) (σ':St) (H':Hp),Inv (X.comp scope N' H2.objs.size s H fp) (X.pn++Wk) σ' H' s'/\tn i s'.heap/\(∀b∈fp,H' b=none)/\H' s.heap.objs.size=none/\
   s'.heap.get? s.heap.objs.size=some {cls:=.type "list",data:=.seq us.toArray k}/\qo ys us/\ys.length<=sizeLine/\W i n ys σ' H') ?_ m0
   ⟨0,[],[],0,NL ix σ,H,I.comp S hf Wx YA old X4,T.keep _ _ _ st λb _ o e=>old b o e,λb hb=>(hf b hb).1,I.mG.fresh (dg _),hacc,.nil,eX _,w0⟩
  rintro n s' ⟨i,ys,us,k,σ',H',I',XD,fr',hD',WZ,rv',hz',w'⟩
  have cellD:∀x c,(X.comp scope N' H2.objs.size s H fp).env.cells.lookup x=some c->c≠s.heap.objs.size:=λx c e=>by obtain⟨v,q⟩:=I.cell x c (S.sub I.ok e);exact dG q.lt
  have pinD:∀p∈X.pn++Wk,p.1≠s.heap.objs.size:=λp hp=>dG (dv (I.pin p hp).1);have dfs:s.heap.objs.size∉(X.comp scope N' H2.objs.size s H fp).fs:=λz=>by
   rcases df.mp (I.ni _ z)with y|y
   .exact absurd I.lt (by rw[<-y];exact e9 _)
   .exact I.oF (dg _) y
  have dfp:s.heap.objs.size∉fp:=λz=>absurd (Wx _ z) (e9 _);have IpD:Inv (X.comp scope N' H2.objs.size s H fp) (X.pn++Wk++[(s.heap.objs.size,{cls:=.type "list",data:=.seq us.toArray k})]) σ' H' s':=I'.nC λp hp=>by
   rcases dW.mp hp with z|z
   .exact I'.pin p (dZ _ z)
   .have e:p=(s.heap.objs.size,{cls:=.type "list",data:=.seq us.toArray k}):=by simpa using z
    subst e;exact⟨WZ,hD',hDC,dfs,λv z=>by cases z⟩
  have pfp:∀p∈[((s.heap.objs.size,{cls:=.type "list",data:=.seq us.toArray k}):Addr×Obj)],p.1∉fp:=λp hp=>by
   have e:p=(s.heap.objs.size,{cls:=.type "list",data:=.seq us.toArray k}):=by simpa using hp
   subst e;exact dfp
  rcases turn i n ys σ' H' w' with⟨stop,hz,q⟩|⟨go,hz,step⟩
  .refine eA (T.done (X.comp scope N' H2.objs.size s H fp) rfl rfl rfl hc i _ s' σ' H' (λ_ _=>False) IpD (Xu fr' pfp) XD stop) (λr s1 ⟨hr,I1⟩=>?_) λ_ _ z=>z;subst hr;show RR _ _ _ _;have ho1:s1.heap.get? s.heap.objs.size=some {cls:=.type "list",data:=.seq us.toArray k}:=(I1.pin (s.heap.objs.size,{cls:=.type "list",data:=.seq us.toArray k}) (by simp)).1;obtain⟨m,hnC,_⟩:=id I1.loc;refine Wp _ _ s1 (upd H' s.heap.objs.size (.lst ys)) m YA (by rw[pL (dJ hDC)];exact I1.free) hnC ?_ (q _ hD');have nD:∀b o,s.heap.get? b=some o->b≠s.heap.objs.size:=λb o e=>(YS b (dv e)).2;have hD0:H s.heap.objs.size=none:=I.mG.fresh (dg _);refine I.oG (s':=s1) (ch:=fp) I1.os ⟨λb o e n1 n2 n3=>?_,λb o e n1 n2 n3=>?_,λb o e n1 n2=>?_,λb o e n1=>?_,λb xs e=>?_,λb o u e=>?_,λb ps e=>?_⟩ (λb u e=>?_) I1.bare λb hb=>⟨(hf b hb).2.2.2.1,(hf b hb).2.1,(hf b hb).2.2.2.2.1,(hf b hb).2.2.2.2.2⟩
   .exact I1.base.keep b o e n1 n2 n3
   .exact I1.base.slot b o e n1 n2 n3
   .rw[pL (nD b o e)];exact I1.base.free b o e n1 n2
   .exact I1.base.there b o e n1
   .rw[pL (qD e hD0)];exact I1.base.mZ b xs e
   .rw[pL (qD e hD0)];exact I1.base.mY b o u e
   .obtain⟨more,z⟩:=I1.base.nq b ps e;exact⟨more,by rw[pL (qD e hD0)];exact z⟩
   .by_cases hb:b=s.heap.objs.size
    .subst hb;rw[pS]at e;cases e;exact⟨hz,us,k,rv',ho1⟩
    .rw[pL hb]at e;exact(I1.mG b u e).m7 (λc v _ z=>z) (λc z=>by rw[pL (qD z hD')];exact z) (λc xs z=>by rw[pL (qD z hD')];exact z)
  .refine eA (T.item (X.comp scope N' H2.objs.size s H fp) rfl rfl rfl hc i _ s' σ' H' (λ_ _=>False) IpD (Xu fr' pfp) XD go) (λr s1 ⟨v,hr,h4⟩=>?_) λ_ _ z=>z;subst hr;show wpAny _ _ (letOwnedTupleGo tg (.ref it) v) _ _ s1;refine eA h4 (λ_ s2 zz=>?_) λ_ _ z=>z;obtain⟨x,H5,I5,r5,y5,YO,fr5⟩:=zz;have I5':=I5.pinned (Xu fr5 pfp) (T.obj _ _ YO);refine eA (hg H2.objs.size s H fp _ s2 σ' H5 x v _ I5' r5 (step x H5 y5)) (λ_ s3 ⟨σ6,H6,I6,q6⟩=>?_) λ_ _ z=>z;refine eA (ht H2.objs.size s H fp _ s3 σ6 H6 _ I6 q6) (λok s4 ⟨H7,I7,q7⟩=>?_) λ_ _ z=>z;have YT:∀{σ7:St} {H7:Hp} {s7:Sd},Inv (X.comp scope N' H2.objs.size s H fp) (X.pn++Wk++[(s.heap.objs.size,{cls:=.type "list",data:=.seq us.toArray k})]++BN fp s2.heap) σ7 H7 s7->
     tn (i+1) s7.heap/\(∀b∈fp,H7 b=none)/\H7 s.heap.objs.size=none/\s7.heap.get? s.heap.objs.size=some {cls:=.type "list",data:=.seq us.toArray k}:=λ{σ7 H7 s7} K7=>by
    have pd:=K7.pin (s.heap.objs.size,{cls:=.type "list",data:=.seq us.toArray k}) (by simp);refine⟨T.keep _ _ _ YO λb hb o e=>(K7.pin (b,o) (dZ _ (dZ _ (vb hb e)))).1,λb hb=>?_,pd.2.1,pd.1⟩;obtain⟨o,e,d⟩:=T.obj _ _ YO b hb;exact(K7.pin (b,o) (dZ _ (dZ _ (vb hb e)))).2.1
   cases ok with
   | false=>rw[cY dw]at q7 ⊢;obtain⟨m',hm,w7⟩:=q7;obtain⟨t7,f7,d7,o7⟩:=YT I7;exact⟨m',hm,i+1,ys,us,k,σ6,H7,I7.mO.mO,t7,f7,d7,o7,rv',hz',w7⟩
   | true=>
    rw[c9 rfl]at q7 ⊢;refine eA (he H2.objs.size s H fp _ s4 σ6 H7 _ I7 q7) (λyv s5 ⟨y,H8,I8,r8,m',hm,w8⟩=>?_) λ_ _ z=>⟨_,_,λb hb=>(by
     obtain⟨o,e,_⟩:=T.obj _ _ YO b hb;exact⟨o,dZ _ (vb hb e)⟩),z⟩
    obtain⟨t8,f8,d8,o8⟩:=YT I8;have hsz:us.toArray.size<=sizeLine:=by rw[dq,<-rv'.length];exact hz'
    refine append_at (hsz:=hsz) o8 λh' sb od=>?_;refine⟨m',hm,i+1,ys++[y],us++[yv],k+1,σ6,H8,?_,T.keep _ _ _ t8 λb hb o e=>(sb.2 b λq=>dfp (q ▸ hb)).trans e,f8,d8,?_,rv'.append (.cons r8 .nil),?_,w8⟩
    .exact I8.mO.mO.turned (it:=s.heap.objs.size) (t':=s5.toks) (λb o hb e=>(sb.2 b hb).trans e) d8 hDC (.inr (dg _)) cellD (by simpa using pinD)
    .rw[od,List.push_toArray]
    .rw[cX,dQ];exact hz
 exact codeAny_compStart_list (loop _ rfl) (T.self _ 0 _ _ _ (T.keep _ _ _ st λb _ o e=>old b o e) (loop _ rfl))
def Inv.letGo{C:Addr}{s':Sd}{H':Hp}{σ':St}{h':Heap}(I:Inv X Wk σ H s)(I':Inv X Wk σ' H' s')(hC:s.heap.objs.size<=C)(hn:H' C=none)(hs:Heap.SameBut C s'.heap h'):Inv X Wk σ' H' {s' with heap:=h'}:=
 I'.turned (t':=s'.toks) (it:=C) (λb o hb e=>(hs.2 b hb).trans e) hn (λz=>absurd (dH I.lt hC) (by rw[z];exact e9 _)) (.inr (dY I.sz hC))
  (λx c e z=>by
   obtain⟨v,r⟩:=I.cell x c e;exact absurd (dH r.lt hC) (by rw[z];exact e9 _))
  (λp hp z=>absurd (dH (dv (I.pin p hp).1) hC) (by rw[z];exact e9 _))
def O7{wi:TI}(hc:X.calm=true)(S:rJ X scope ix N')(hi:PI X tg iter wi)(hg:∀C s0 H0 ex,PG (X.comp scope N' C s0 H0 ex) tg g)(ht:∀C s0 H0 ex,PF (X.comp scope N' C s0 H0 ex) WV tt)(he:∀C s0 H0 ex,PE (X.comp scope N' C s0 H0 ex) Xb te) (hs:∀x,foldedSetIterable iter X.env x=pure x:=by intro _;rfl):PE X (.ListComp Xb [⟨tg,iter,WV,0⟩] scope pos) (KS ix wi g tt te):=by
 intro Wk s σ H Q I h;rw[eval_ListComp];refine jA (use:=none) rfl hs (ye (S.cells I.ok)) S.kind S.nam (eA (hi Wk s σ H _ I h) (λxv s₁ h₁=>eA h₁ (λitv s₂ h₂=>?_) λ_ _ e=>e) λ_ _ e=>e);obtain⟨it,fp,tn,J,H2,e,I2,T,WC,f2,hw⟩:=h₂;subst e;refine A0 (RR:=λacc C=>compPost (model X.prog X.w) X.A X.xe none (EP X Wk σ Q) acc C) hc S I2 T WC f2 hg ht (XP:=λ_ _ _ _ _ _ _ _=>False) he (λ_ _ _ _ _ z=>by obtain⟨_,_,_,z⟩:=z;exact z.elim) hw λD C s' H' m hCs hCn hn I3 q=>?_;exact⟨m,hn,λh' YU=>⟨.ref D,_,I2.letGo I3 hCs hCn YU,rfl,q⟩⟩
def GX{wi:TI}{i:Nat}{x:Str}{px X5:Pos}(hN:X.N.Nodup)(YB:X.N[i]?=some x)(hx:Kd X.env.scope x)(hc:X.calm=true)(S:rJ X scope ix N')(hi:PI X tg iter wi)(hg:∀C s0 H0 ex,PG (X.comp scope N' C s0 H0 ex) tg g)(ht:∀C s0 H0 ex,PF (X.comp scope N' C s0 H0 ex) WV tt) (he:∀C s0 H0 ex,PE (X.comp scope N' C s0 H0 ex) Xb te) (XN:swapsWith (.ListComp Xb [⟨tg,iter,WV,0⟩] scope pos) (some (.Name x px)) X5.line X.env=pure true) (hf:Kf X x:=by first|exact .inl rfl|exact .inr rfl|assumption) (hs:∀x,foldedSetIterable iter X.env x=pure x:=by intro _;rfl):
  PS X (.Assign [.Name x px] (.ListComp Xb [⟨tg,iter,WV,0⟩] scope pos) X5) (NY (KS ix wi g tt te) (Iw i)):=by
 intro Wk s σ H D I h;rw[exec_Assign_Name_used _ _ _ _ XN];refine cU (gL (cU ?_));show wpAny _ X.A (do let _<-comprehension (.ListComp Xb [⟨tg,iter,WV,0⟩] scope pos) scope X.env _ (newList []) false (eval iter X.env) (some (assign (.Name x px) X.env))) _ _ s;refine cU (eA (jA (use:=some (assign (.Name x px) X.env)) (Q:=λ_ s'=>SP X Wk D .next s') rfl hs (ye (S.cells I.ok)) S.kind S.nam
  (eA (hi Wk s σ H _ I h) (λxv s₁ h₁=>eA h₁ (λitv s₂ h₂=>?_) λ_ _ e=>e) λ_ _ e=>e)) (λ_ s' hq=>de (de hq)) λ_ _ e=>e)
 obtain⟨it,fp,tn,J,H2,e,I2,T,WC,f2,hw⟩:=h₂;subst e;refine A0 (RR:=λacc C=>compPost (model X.prog X.w) X.A X.xe (some (assign (.Name x px) X.env)) (λ_ s'=>SP X Wk D .next s') acc C) hc S I2 T WC f2 hg ht (XP:=λ_ _ _ _ _ _ _ _=>False) he (λ_ _ _ _ _ z=>by obtain⟨_,_,_,z⟩:=z;exact z.elim) hw λDa C s' H' m hCs hCn hn I3 q=>?_;show wpAny _ X.A (assign (.Name x px) X.env (.ref Da)) _ _ _;refine kT (Dx I3 hN YB hx (v:=.ref Da) rfl (λs4 I4 ⟨a,sb,ha⟩=>?_) hf);have ca:C≠a:=λz=>by
  rcases ha with y|y
  .exact absurd (dH I2.lt hCs) (by rw[z,y];exact e9 _)
  .obtain⟨v,r⟩:=I2.cell x a y;exact absurd (dH r.lt hCs) (by rw[z];exact e9 _)
 exact⟨m,hn.sameBut sb ca,λh' YU=>⟨_,H',I2.letGo I4 hCs hCn YU,q⟩⟩
end
def Az:typeLookup (.type "list") "__getattr__"=pure none:=by rw[typeLookup_type,jV];kernel_rfl
def EL:typeLookup (.type "list") "keys"=pure none:=by rw[typeLookup_type,jV];kernel_rfl
section
variable {prog:Pg}{w:Wo}{A:Ar}{E:Vl→Sd→Prop}
def L'(a:Addr)(u:Tok)(its:Array Vl)(n:Nat)(sl:Array (Option Vl)):
  Meets (Builtin.«object.__getattribute__» ⟨[.ref a,.str "keys" u],[]⟩) λA R s=>s.heap.get? a=some ⟨.type "list",none,.seq its n,sl⟩/\A.handled=none/\∀h' tk e,Heap.NewAttrErr s.heap h' e (.ref a) "keys"->R (.error (.ref e)) {s with heap:=h',toks:=tk}:=
 Meets.of_wp λprog w A R s hs=>by
  obtain⟨hp,g,d,tk,os⟩:=s;obtain⟨h1,h2,h3⟩:=hs;have hT:(⟨hp,g,d,tk,os⟩:Sd).TypeIs (.ref a) "list":=⟨_,h1,rfl⟩;have f1:=EL;unfold Builtin.«object.__getattribute__»
  repeat (any_goals(first|assumption|wp_step))
  exact wpAny_raiseAttrError h2 h3 (attrMsg_fits (by decide+kernel) (by decide))
def DS{s:Sd}{a:Addr}{its:Array Vl}{n:Nat}{sl:Array (Option Vl)}{Q:Option Vl->Sd->Prop}(ha:s.heap.get? a=some ⟨.type "list",none,.seq its n,sl⟩)(hA:A.handled=none) (h:∀h' tk,(∀b o,s.heap.get? b=some o->h'.get? b=some o)->Q none {s with heap:=h',toks:=tk}):wpAny (model prog w) A (getAttr? (.ref a) "keys") Q E s:=by
 obtain⟨hp,g,d,tk,os⟩:=s;have hT:(⟨hp,g,d,tk,os⟩:Sd).TypeIs (.ref a) "list":=⟨_,ha,rfl⟩;have f1:=sub_AttributeError;have f3:=ie.lookup;have f4:=ie.bind (.ref a);have f5:=Az;unfold getAttr? getAttrBy? getAttrBy
 repeat (any_goals(first|assumption|((with_reducible show wpAny _ _ (call (Value.builtin "list.__getattribute__") _ _) _ _ _);refine jp ie hT F.entry_list_ga (F.args_list_getattribute_2 _ _) (L' a _ its n sl) ⟨ha,hA,λh' tk' e hx=>?_⟩)|wp_step))
 obtain⟨t',u',he⟩:=hx.there;show wpAny _ _ (getattributeRaised _ _ _ _ _ _ _) _ _ _;unfold getattributeRaised
 repeat (any_goals(first|assumption|wp_step))
 all_goals first|exact h _ _ hx.keeps|skip
end
def zY:entryFor table "dict.update.loop"=some Builtin.«dict.update.loop»:=entryFor_of_tree (by kernel_rfl)
def vv:plainId "dict.update.loop"=true:=by decide+kernel
section
variable {prog:Pg}{w:Wo}{A:Ar}{E:Vl→Sd→Prop}{R:Result→Sd→Prop}{κ:Type}[DecidableEq κ]{knd:PySem.KeyKind prog w κ}
 {I:Addr} {fp wr:List Addr} {G:Array GenState->Array GenState->Prop} {P:Nat->Vl->Prop} {St:Nat->Sd->Prop}
def Pz{s:Sd}{t:Addr}{x y:Vl}{Q:List Vl->Sd->Prop}(h:s.heap.IsTuple t #[x,y])(q:Q [x,y] s):wpAny (model prog w) A (Builtin.Dict.pairItems (.ref t)) Q E s:=by
 obtain⟨⟨oc,od,oda,Xd⟩,h1,h2,n,h3⟩:=h;simp only at h2 h3;subst h2 h3;have hT:s.TypeIs (.ref t) "tuple":=⟨_,h1,rfl⟩;obtain⟨hp,g,d,tk,os⟩:=s;unfold Builtin.Dict.pairItems
 repeat (any_goals(first|assumption|wp_step))
def Jf{all:List (κ×Vl)}(W:WalksS prog w A.in1 I fp wr G all.length P St)(d:Addr)(YR:d∉fp)(kv:Nat->Vl)(tp:Nat->Addr)(hP:∀i v,P i v->v=.ref (tp i))(hw:∀j,j<all.length->tp j∉wr/\tp j≠d) (hk:∀j p,all[j]?=some p->knd.is p.1 (kv j)=true) (hz:all.length<=sizeLine):
  ∀(k i:Nat) (z:Int) (s:Sd),all.length - i=k->i<=all.length->St i s->(∀j p,all[j]?=some p->s.heap.IsTuple (tp j) #[kv j,p.2])->s.heap.DictOf knd d (merged [] (all.take i))->
   (∀s',Moved (d::wr) G s s'->s'.heap.DictOf knd d (merged [] all)->R (.ok (.ret .none)) s')->codeAny (model prog w) A (.builtin "dict.update.loop" ⟨[.ref d,.ref I,.int z 0,.none],[]⟩) R s:=by
 have hdw:d∉wr:=λh=>YR (W.sub _ h);have X6:∀b∈wr,b∈d::wr:=λb hb=>dC _ hb;intro k;induction k with
 | zero=>
  intro i z s hk0 hi WH hT hD hR;have Yh:i=all.length:=by omega
  subst Yh;refine gO zY ?_;rw[hU vv _];show wpAny _ A.in1 (pyNext (.ref I)>>=_) _ _ s;refine cU (W.done s _ _ WH λs' hm=>?_);show wpAny _ A.in1 (Builtin.Dict.addKeywords d []>>=_) _ _ s';refine cU (de (de (hR s' (hm.mono X6) ?_)));rw[fN]at hD;obtain⟨o,es,ep,ho,rest⟩:=hD;exact⟨o,es,ep,hm.heap d _ hdw ho,rest⟩
 | succ k ih=>
  intro i z s hk0 hi WH hT hD hR;have Wx:i<all.length:=by omega
  have Xx:all[i]?=some all[i]:=cW Wx;refine gO zY ?_;rw[hU vv _];show wpAny _ A.in1 (pyNext (.ref I)>>=_) _ _ s;refine cU (W.item i s _ _ Wx WH λv s' hPv Zg hm=>?_);obtain rfl:=hP i v hPv;have hT':∀j p,all[j]?=some p->s'.heap.IsTuple (tp j) #[kv j,p.2]:=λj p e=>by obtain⟨o,h1,h2⟩:=hT j p e;exact⟨o,hm.heap _ _ (hw j (cV.mp e).1).1 h1,h2⟩
  have hD':s'.heap.DictOf knd d (merged [] (all.take i)):=by obtain⟨o,es,ep,ho,rest⟩:=hD;exact⟨o,es,ep,hm.heap d _ hdw ho,rest⟩
  show wpAny _ A.in1 (holding [Value.ref (tp i)] _>>=_) _ _ s';refine cU (eC (cU (wpAny_tryCatch (Pz (hT' i _ Xx) ?_))));show wpAny _ A.in1 (holding [kv i,all[i].2] (dictSet d (kv i) all[i].2)) _ _ s';refine eC ?_;unfold dictSet;refine eC (cU (knd.pyHash (hk i _ Xx) ?_));have hl:(merged [] (all.take i)).length<=sizeLine:=by have:=merged_length_le [] (all.take i);rw[fM]at this;simp only[dI]at this;omega
  refine wpAny_dictSetHashed_pairs (hsz:=hl) (hk i _ Xx) hD' λh' dd hs=>?_;rw[<-merged_take_succ [] all i _ Xx]at dd;refine de ⟨kh vv _,ih (i+1) _ _ (by omega) Wx (W.frame _ s' _ _ Zg (gS _) λb hb o e=>?_) (λj p e=>?_) dd λZa Zh hD''=>?_⟩
  .rw[hs.2 b (λz:b=d=>YR (z ▸ hb))];exact e
  .obtain⟨o,h1,h2⟩:=hT' j p e;refine⟨o,?_,h2⟩;show h'.get? (tp j)=some o;rw[hs.2 _ (hw j (cV.mp e).1).2];exact h1
  .refine hR Za (mo W.gtrans ((hm.mono X6).then_heap (gS _) λb o hb e=>?_) Zh) hD'';rw[hs.2 b (λz:b=d=>hb (by rw[z];exact dN))];exact e
end
section
variable {prog:Pg}{w:Wo}{A:Ar}{E:Vl→Sd→Prop}{κ:Type}[DecidableEq κ]{knd:PySem.KeyKind prog w κ}{s:Sd}
def AF{l:Addr}{its:Array Vl}{n:Nat}{sl:Array (Option Vl)}{all:List (κ×Vl)}{Q:Vl->Sd->Prop}(kv:Nat->Vl)(tp:Nat->Addr)(hh:A.handled=none)(hl:s.heap.get? l=some ⟨.type "list",none,.seq its n,sl⟩) (hits:∀(j:Nat) (v:Vl),its[j]?=some v->v=.ref (tp j)) (Wr:its.size=all.length) (hT:∀j p,all[j]?=some p->s.heap.IsTuple (tp j) #[kv j,p.2]) (hk:∀j p,all[j]?=some p->knd.is p.1 (kv j)=true) (hz:all.length<=sizeLine) (h:∀h' tk,h'.DictOf knd s.heap.objs.size (merged [] all)->(∀b o,s.heap.get? b=some o->h'.get? b=some o)->Q (.ref s.heap.objs.size) {s with heap:=h',toks:=tk}):
  wpAny (model prog w) A (call (.type "dict") [.ref l]) Q E s:=by
 refine callType_codes (Q₁:=λobj s₁=>obj=Value.ref s.heap.objs.size/\s₁={s with heap:=s.heap.push {cls:=.type "dict",data:=.dict #[]}}) PySem.F.kt_called_dict (PySem.F.kt_typeCall_dict_1 _) F.entry_dict_init (kt_code_dict_new _ ⟨rfl,rfl⟩) ?_
 rintro obj s₁ ⟨rfl,rfl⟩
 have X2:(s.heap.push {cls:=.type "dict",data:=.dict #[]}).DictOf knd s.heap.objs.size []:=Heap.DictOf.new s.heap;have hl':(s.heap.push {cls:=.type "dict",data:=.dict #[]}).get? l=some ⟨.type "list",none,.seq its n,sl⟩:=cZ _ hl;have hTl:Shared.TypeIs {s with heap:=s.heap.push {cls:=.type "dict",data:=.dict #[]}} (.ref l) "list":=⟨_,hl',rfl⟩;have lsz:l<s.heap.objs.size:=dv hl;refine⟨X2.typeIs,F.args_dict_init_2 _ _,?_⟩;unfold Builtin.«dict.__init__»;refine cU ?_;unfold Builtin.Dict.selfAndRest;refine cU (wpAny_notOrdered_dict X2.typeIs ?_);show wpAny _ _ (pure (s.heap.objs.size,[Value.ref l])) _ _ _;refine de ?_;show wpAny _ _ (Builtin.Dict.updateFrom "dict.__init__" s.heap.objs.size (.ref l) [] .none) _ _ _;unfold Builtin.Dict.updateFrom;refine cU (jy hTl ?_);rw[c9 (by decide)];refine cU (DS hl' (by simpa using hh) λh' tk keep=>?_);have hl2:h'.IsList l its:=⟨_,keep _ _ hl',rfl,n,rfl⟩;show wpAny _ _ (rule _>>=_) _ _ _;refine cU (j7 (cU (gA hl2 ?_)));have nd:h'.objs.size>s.heap.objs.size:=by have z:h'.get? s.heap.objs.size=some _:=keep _ _ (dF _ rfl);exact dv z
 have hDn:h'.DictOf knd s.heap.objs.size []:=by obtain⟨o,es,ep,ho,rest⟩:=X2;exact⟨o,es,ep,keep _ _ ho,rest⟩
 have hTs:∀j p,all[j]?=some p->h'.IsTuple (tp j) #[kv j,p.2]:=λj p e=>by obtain⟨o,h1,h2⟩:=hT j p e;exact⟨o,keep _ _ (cZ _ h1),h2⟩
 have WK:l≠h'.objs.size:=dG (jz lsz nd);have W:=(j8 (prog:=prog) (w:=w) (A:=A.in1.in1) (by simpa using hh) h'.objs.size l WK its).toS;rw[Wr]at W;refine de ⟨kh vv _,Jf (A:=A.in1) W s.heap.objs.size ?_ kv tp (λi v e=>hits i v e) (λj hj=>?_) hk hz all.length 0 0 _ (by omega) (eX _) ⟨⟨_,dF _ rfl,rfl,rfl⟩,hl2.push _⟩ (λj p e=>(hTs j p e).push _) ?_ λs' hm hD=>?_⟩
 .simp only[df,dB,eW,fJ];exact⟨dG nd,gG lsz⟩
 .have hj':all[j]?=some all[j]:=cW hj;obtain⟨o,h1,_⟩:=hT j _ hj';have tsz:=dv h1;simp only[df,dB,eW];exact⟨dG (jz tsz nd),dG tsz⟩
 .obtain⟨o,es,ep,ho,rest⟩:=hDn;exact⟨o,es,ep,cZ _ ho,rest⟩
 .obtain⟨h2,g2,d2,t2,o2⟩:=s';have eg:g2=s.gens:=hm.gens;have ed:d2=s.drawn:=hm.drawn;have eo:o2=s.os:=hm.os;subst eg ed eo;refine⟨rfl,h h2 t2 hD λb o e=>?_⟩;have hb:=dv e;refine hm.heap b o ?_ (cZ _ (keep _ _ (cZ _ e)));simp only[df,dB,eW,fJ];exact⟨dG hb,dG (jz hb nd)⟩
end
def su{κ:Type}[DecidableEq κ](l:List κ):List κ:=l.foldl (λacc k=>if k∈acc then acc else acc++[k]) []
def xP{κ:Type}[DecidableEq κ](l:List κ)(k:κ):su (l++[k])=if k∈su l then su l else su l++[k]:=by unfold su;rw[kZ];rfl
def IA{κ:Type}[DecidableEq κ]:∀l:List κ,(su l).length<=l.length:=by
 have go:∀(l acc:List κ),(l.foldl (λacc k=>if k∈acc then acc else acc++[k]) acc).length<=acc.length+l.length:=by
  intro l;induction l with
  | nil=>intro acc;simp
  | cons k r ih=>
   intro acc;rw[fT];refine dY (ih _) ?_;split
   .simp only[d6];omega
   .simp only[d6,cX,dI];omega
 intro l;have:=go l []
 simpa [su]using this
def Le{κ:Type}[DecidableEq κ](x:κ):∀l:List κ,x∈su l↔x∈l:=by
 have go:∀(l acc:List κ),x∈l.foldl (λacc k=>if k∈acc then acc else acc++[k]) acc↔x∈acc\/x∈l:=by
  intro l;induction l with
  | nil=>intro acc;simp
  | cons k r ih=>
   intro acc;rw[fT,ih];by_cases h:k∈acc
   .rw[c9 h,df];constructor
    .rintro (z|z)
     .exact .inl z
     .exact .inr (.inr z)
    .rintro (z|z|z)
     .exact .inl z
     .subst z;exact .inl h
     .exact .inr z
   .rw[cY h,dW,dD,df,or_assoc]
 intro l;have:=go l []
 simpa [su]using this
def G4{κ:Type}[DecidableEq κ]:∀l:List κ,l.Nodup->su l=l:=by
 have go:∀(l acc:List κ),(acc++l).Nodup->l.foldl (λacc k=>if k∈acc then acc else acc++[k]) acc=acc++l:=by
  intro l;induction l with
  | nil=>intro acc _;simp
  | cons k r ih=>
   intro acc h;have hk:k∉acc:=λz=>by rw[gh]at h;exact h.2.2 k z k dN rfl
   rw[fT,cY hk,ih]
   .rw[fj];rfl
   .rw[fj];exact h
 intro l h;have:=go l [] (by simpa using h)
 simpa [su]using this
section
variable {prog:Pg}{w:Wo}{A:Ar}{E:Vl→Sd→Prop}{R:Result→Sd→Prop}{κ:Type}[DecidableEq κ][BEq κ][LawfulBEq κ]{knd:PySem.KeyKind prog w κ}
 {I:Addr} {fp wr:List Addr} {G:Array GenState->Array GenState->Prop} {P:Nat->Vl->Prop} {St:Nat->Sd->Prop}
def FD{all:List κ}(W:WalksS prog w A.in1 I fp wr G all.length P St)(S:Addr)(hSf:S∉fp)(hval:∀i v k,P i v->all[i]?=some k->knd.is k v=true/\v.scannable=true)(hb:all.length+1<scanBound):
  ∀(n i:Nat) (s:Sd),all.length - i=n->i<=all.length->St i s->s.heap.SetOf knd S (λx=>decide (x∈su (all.take i))) (su (all.take i)).length->
   (∀s',Moved (S::wr) G s s'->s'.heap.SetOf knd S (λx=>decide (x∈su all)) (su all).length->R (.ok (.ret .none)) s')->codeAny (model prog w) A (.builtin "set.update.loop" ⟨[.ref S,.ref I],[]⟩) R s:=by
 have hSw:S∉wr:=λh=>hSf (W.sub _ h);have up:∀b∈wr,b∈S::wr:=λb hb=>dC _ hb;have kept:∀{s s':Sd} {T:κ->Bool} {m:Nat},Moved wr G s s'->s.heap.SetOf knd S T m->s'.heap.SetOf knd S T m:=λhm ⟨o,es,ep,t,ho,rest⟩=>⟨o,es,ep,t,hm.heap S _ hSw ho,rest⟩;intro n;induction n with
 | zero=>
  intro i s h0 hi WH hS hR;obtain rfl:i=all.length:=by omega
  refine gO ig ?_;rw[hU gq _];rw[fN]at hS;exact cU (W.done s _ _ WH λs' hm=>de (hR s' (hm.mono up) (kept hm hS)))
 | succ n ih=>
  intro i s h0 hi WH hS hR;have Wx:i<all.length:=by omega
  have Xx:all[i]?=some all[i]:=cW Wx;refine gO ig ?_;rw[hU gq _];refine cU (W.item i s _ _ Wx WH λv s' hP Zg hm=>?_);obtain⟨k1,k2⟩:=hval i v _ hP Xx;have YC:=kept hm hS;show wpAny _ A.in1 (holding [v] (setAdd S v)>>=_) _ _ s';refine cU (eC ?_);unfold setAdd;refine eC (cU (knd.pyHash k1 ?_));have room:(su (all.take i)).length+1<scanBound:=by have h1:=IA (all.take i);rw[fM]at h1;omega
  refine wpAny_setAddHashed_of (knd:=knd) (s:={s' with toks:=s'.toks+1}) k1 k2 YC room λh' hsb hS2=>?_;have et:all.take (i+1)=all.take i++[all[i]]:=by rw[gW,Xx];rfl
  have hSi:h'.SetOf knd S (λx=>decide (x∈su (all.take (i+1)))) (su (all.take (i+1))).length:=by
   refine ii hS2 (λx=>?_) ?_
   .rw[et];by_cases Wm:all[i]∈su (all.take i)
    .rw[xP,c9 Wm];by_cases hx:x=all[i]
     .subst hx;simp[Wm]
     .simp[hx]
    .rw[xP,cY Wm];by_cases hx:x=all[i]
     .subst hx;simp
     .simp[hx]
   .rw[et,xP];by_cases Wm:all[i]∈su (all.take i)
    .rw[c9 Wm];simp[Wm]
    .rw[cY Wm];simp[Wm]
  refine de ⟨kh gq _,ih (i+1) _ (by omega) Wx (W.frame _ s' _ _ Zg (gS _) λb hb o e=>?_) hSi λZa Zh hS''=>?_⟩
  .rw[hsb.2 b (λz:b=S=>hSf (z ▸ hb))];exact e
  .refine hR Za (mo W.gtrans ((hm.mono up).then_heap (gS _) λb o hb e=>?_) Zh) hS'';rw[hsb.2 b (λz:b=S=>hb (by rw[z];exact dN))];exact e
end
def ES:isSubtype (.type "list") (.type "set")=pure false:=by rw[iW];kernel_rfl
def AB:isSubtype (.type "list") (.type "frozenset")=pure false:=by rw[iW];kernel_rfl
section
variable {prog:Pg}{w:Wo}{A:Ar}{E:Vl→Sd→Prop}{κ:Type}[DecidableEq κ][BEq κ][LawfulBEq κ]{knd:PySem.KeyKind prog w κ}{s:Sd}
set_option maxHeartbeats 4000000 in
def Cj{l:Addr}{Wl:Array Vl}{all:List κ}{Q:Vl->Sd->Prop}(hh:A.handled=none)(hl:s.heap.IsList l Wl)(hn:Wl.size=all.length)(hi:∀(i:Nat) (v:Vl) (k:κ),Wl[i]?=some v->all[i]?=some k->knd.is k v=true/\v.scannable=true)(hb:all.length+1<scanBound) (h:∀(h':Heap) (tk:Nat),h'.SetOf knd s.heap.objs.size (λx=>decide (x∈su all)) (su all).length->(∀b o,s.heap.get? b=some o->h'.get? b=some o)->Q (.ref s.heap.objs.size) {s with heap:=h',toks:=tk}):
  wpAny (model prog w) A (call (.type "set") [.ref l]) Q E s:=by
 obtain⟨c,tl,Zi⟩:=fz.mro;have hmade:=fz.made;have X6:=fz.sub;refine hJ (jM ?_);show wpAny _ _ (callAny (.type "set") _) _ _ _;refine de ⟨ij _ (by decide+kernel),gO k9 ?_⟩;rw[kK (jW "set" [.ref l] []) rfl];have h1:=fz.notType;have h2:=fz.canCreate;have hct:=lF (.ref l)
 repeat (any_goals(first|assumption|wp_step))
 have fresh:∀WM:Bool,(s.heap.push {cls:=.type "set",dict:=none,data:=.set #[] 0 (.fresh 0 0 WM)}).get? s.heap.objs.size=some {cls:=.type "set",dict:=none,data:=.set #[] 0 (.fresh 0 0 WM)}:=λWM=>dF _ rfl;refine gf (code_set_new_1 (.ref l) (E:=E) (Q₁:=λobj s₁=>∃WM:Bool,obj=Value.ref s.heap.objs.size/\s₁={s with heap:=s.heap.push {cls:=.type "set",dict:=none,data:=.set #[] 0 (.fresh 0 0 WM)}}) λWM=>⟨WM,rfl,rfl⟩) λr s₁ hr=>?_;cases r with
 | error e=>exact hr
 | ok fl=>
  cases fl with
  | ret obj=>
   obtain⟨WM,rfl,rfl⟩:=hr;have hS:=fresh WM;have hT:Shared.TypeIs {s with heap:=s.heap.push {cls:=.type "set",dict:=none,data:=.set #[] 0 (.fresh 0 0 WM)}} (.ref s.heap.objs.size) "set":=⟨_,hS,rfl⟩;have hli:=fz.init.lookup;have hbi:=fz.init.bind (.ref s.heap.objs.size)
   repeat (any_goals(first|assumption|wp_step))
   refine gf (hW (R:=wants (λr s₂=>r=.none/\∃h' tk,s₂={s with heap:=h',toks:=tk}/\h'.SetOf knd s.heap.objs.size (λx=>decide (x∈su all)) (su all).length/\(∀b o,s.heap.get? b=some o->h'.get? b=some o)) E) fz.init.plain lG (lH hT ?_)) λr₂ s₂ Zj=>?_
   .obtain⟨ol,hol,YV,nl,hdl⟩:=hl;obtain⟨ocls,X7,odata,Xy⟩:=ol;simp only at YV hdl;subst YV;subst hdl;have Zk:(s.heap.push {cls:=.type "set",dict:=none,data:=.set #[] 0 (.fresh 0 0 WM)}).get? l=some {cls:=.type "list",dict:=X7,data:=.seq Wl nl,slots:=Xy}:=cZ _ hol;have hsls:=ES;have hslf:=AB;have hnd:(Value.type "list"==Value.type "dict")=false:=by decide
    have hl1:(s.heap.push {cls:=.type "set",dict:=none,data:=.set #[] 0 (.fresh 0 0 WM)}).IsList l Wl:=⟨_,Zk,rfl,nl,rfl⟩;unfold Builtin.«set.__init__» noKeywords Builtin.Frozenset.updateFrom;generalize hPI:pyIter=PI
    wp_walk
    subst hPI;refine gA hl1 ?_;refine cU (wpAny_runValue ?_);have lS:l<s.heap.objs.size:=dv hol;have hh3:A.in1.in1.in1.handled=none:=by simp[hh]
    have lI:l≠(s.heap.push {cls:=.type "set",dict:=none,data:=.set #[] 0 (.fresh 0 0 WM)}).objs.size:=by rw[fm];exact dG (gU lS)
    have W:=(j8 (prog:=prog) (w:=w) hh3 _ l lI Wl).toS;rw[hn]at W;refine FD W s.heap.objs.size ?hf (λi v k e1 e2=>hi i v k e1 e2) hb all.length 0 _ (by omega) (eX _) ⟨⟨_,dF _ rfl,rfl,rfl⟩,(hl1.push _)⟩ ?h0 ?hR;case hf=>rw[fm];simp only[df,dB,eW,fJ];exact⟨dG (fv _),gG lS⟩
    case h0=>exact ii ((jc (knd:=knd) WM).setOf (cZ _ hS) (by unfold scanBound;omega)) (λ_=>rfl) rfl
    case hR=>intro s' hm YC;obtain⟨h',g',d',tk',Y9⟩:=s';have eg:g'=s.gens:=hm.gens;have ed:d'=s.drawn:=hm.drawn;have eo:Y9=s.os:=hm.os;subst eg;subst ed;subst eo;refine de ?_;show wpAny _ _ (ret Value.none) _ _ _;refine de ⟨rfl,h',tk',rfl,YC,λb o e=>?_⟩;have hb:=dv e;refine hm.heap b o ?_ (cZ _ (cZ _ e));rw[fm];simp only[df,dB,eW,fJ];exact⟨dG hb,dG (gU hb)⟩
   .cases r₂ with
    | error e=>exact Zj
    | ok fl₂=>
     cases fl₂ with
     | ret r=>
      obtain⟨rfl,h',tk,rfl,YC,Zf⟩:=Zj
      repeat (any_goals(first|assumption|wp_step))
      exact h _ _ YC Zf
     | _=>exact Zj.elim
  | _=>exact hr.elim
end
def CK:isSubtype (.type "tuple") (.type "set")=pure false:=by rw[iW];kernel_rfl
def zO:isSubtype (.type "tuple") (.type "frozenset")=pure false:=by rw[iW];kernel_rfl
section
variable {prog:Pg}{w:Wo}{A:Ar}{E:Vl→Sd→Prop}{κ:Type}[DecidableEq κ][BEq κ][LawfulBEq κ]{knd:PySem.KeyKind prog w κ}{s:Sd}
set_option maxHeartbeats 4000000 in
def By{l:Addr}{Wl:Array Vl}{all:List κ}{Q:Vl->Sd->Prop}(hh:A.handled=none)(hl:s.heap.IsTuple l Wl)(hn:Wl.size=all.length)(hi:∀(i:Nat) (v:Vl) (k:κ),Wl[i]?=some v->all[i]?=some k->knd.is k v=true/\v.scannable=true)(hb:all.length+1<scanBound) (h:∀(h':Heap) (tk:Nat),h'.SetOf knd s.heap.objs.size (λx=>decide (x∈su all)) (su all).length->(∀b o,s.heap.get? b=some o->h'.get? b=some o)->Q (.ref s.heap.objs.size) {s with heap:=h',toks:=tk}):
  wpAny (model prog w) A (call (.type "set") [.ref l]) Q E s:=by
 obtain⟨c,tl,Zi⟩:=fz.mro;have hmade:=fz.made;have X6:=fz.sub;refine hJ (jM ?_);show wpAny _ _ (callAny (.type "set") _) _ _ _;refine de ⟨ij _ (by decide+kernel),gO k9 ?_⟩;rw[kK (jW "set" [.ref l] []) rfl];have h1:=fz.notType;have h2:=fz.canCreate;have hct:=lF (.ref l)
 repeat (any_goals(first|assumption|wp_step))
 have fresh:∀WM:Bool,(s.heap.push {cls:=.type "set",dict:=none,data:=.set #[] 0 (.fresh 0 0 WM)}).get? s.heap.objs.size=some {cls:=.type "set",dict:=none,data:=.set #[] 0 (.fresh 0 0 WM)}:=λWM=>dF _ rfl;refine gf (code_set_new_1 (.ref l) (E:=E) (Q₁:=λobj s₁=>∃WM:Bool,obj=Value.ref s.heap.objs.size/\s₁={s with heap:=s.heap.push {cls:=.type "set",dict:=none,data:=.set #[] 0 (.fresh 0 0 WM)}}) λWM=>⟨WM,rfl,rfl⟩) λr s₁ hr=>?_;cases r with
 | error e=>exact hr
 | ok fl=>
  cases fl with
  | ret obj=>
   obtain⟨WM,rfl,rfl⟩:=hr;have hS:=fresh WM;have hT:Shared.TypeIs {s with heap:=s.heap.push {cls:=.type "set",dict:=none,data:=.set #[] 0 (.fresh 0 0 WM)}} (.ref s.heap.objs.size) "set":=⟨_,hS,rfl⟩;have hli:=fz.init.lookup;have hbi:=fz.init.bind (.ref s.heap.objs.size)
   repeat (any_goals(first|assumption|wp_step))
   refine gf (hW (R:=wants (λr s₂=>r=.none/\∃h' tk,s₂={s with heap:=h',toks:=tk}/\h'.SetOf knd s.heap.objs.size (λx=>decide (x∈su all)) (su all).length/\(∀b o,s.heap.get? b=some o->h'.get? b=some o)) E) fz.init.plain lG (lH hT ?_)) λr₂ s₂ Zj=>?_
   .obtain⟨ol,hol,YV,nl,hdl⟩:=hl;obtain⟨ocls,X7,odata,Xy⟩:=ol;simp only at YV hdl;subst YV;subst hdl;have Zk:(s.heap.push {cls:=.type "set",dict:=none,data:=.set #[] 0 (.fresh 0 0 WM)}).get? l=some {cls:=.type "tuple",dict:=X7,data:=.seq Wl nl,slots:=Xy}:=cZ _ hol;have hsls:=CK;have hslf:=zO;have hnd:(Value.type "tuple"==Value.type "dict")=false:=by decide
    have hl1:(s.heap.push {cls:=.type "set",dict:=none,data:=.set #[] 0 (.fresh 0 0 WM)}).IsTuple l Wl:=⟨_,Zk,rfl,nl,rfl⟩;unfold Builtin.«set.__init__» noKeywords Builtin.Frozenset.updateFrom;generalize hPI:pyIter=PI
    wp_walk
    subst hPI;refine ik hl1 ?_;refine cU (wpAny_runValue ?_);have lS:l<s.heap.objs.size:=dv hol;have hh3:A.in1.in1.in1.handled=none:=by simp[hh]
    have lI:l≠(s.heap.push {cls:=.type "set",dict:=none,data:=.set #[] 0 (.fresh 0 0 WM)}).objs.size:=by rw[fm];exact dG (gU lS)
    have W:=(Walks.tuple (prog:=prog) (w:=w) hh3 _ l lI Wl).toS;rw[hn]at W;refine FD W s.heap.objs.size ?hf (λi v k e1 e2=>hi i v k e1 e2) hb all.length 0 _ (by omega) (eX _) ⟨⟨_,dF _ rfl,rfl,rfl⟩,(hl1.push _)⟩ ?h0 ?hR;case hf=>rw[fm];simp only[df,dB,eW,fJ];exact⟨dG (fv _),gG lS⟩
    case h0=>exact ii ((jc (knd:=knd) WM).setOf (cZ _ hS) (by unfold scanBound;omega)) (λ_=>rfl) rfl
    case hR=>intro s' hm YC;obtain⟨h',g',d',tk',Y9⟩:=s';have eg:g'=s.gens:=hm.gens;have ed:d'=s.drawn:=hm.drawn;have eo:Y9=s.os:=hm.os;subst eg;subst ed;subst eo;refine de ?_;show wpAny _ _ (ret Value.none) _ _ _;refine de ⟨rfl,h',tk',rfl,YC,λb o e=>?_⟩;have hb:=dv e;refine hm.heap b o ?_ (cZ _ (cZ _ e));rw[fm];simp only[df,dB,eW,fJ];exact⟨dG hb,dG (gU hb)⟩
   .cases r₂ with
    | error e=>exact Zj
    | ok fl₂=>
     cases fl₂ with
     | ret r=>
      obtain⟨rfl,h',tk,rfl,YC,Zf⟩:=Zj
      repeat (any_goals(first|assumption|wp_step))
      exact h _ _ YC Zf
     | _=>exact Zj.elim
  | _=>exact hr.elim
end
end L2
namespace HT
open PySem PyProof.Rows
variable {prog:Pg}{w:Wo}{A:Ar}{E:Vl→Sd→Prop}{s:Sd}
def za{t sl:Addr}{Wl:Array Vl}{vl vu:Vl}{lo hi:Option Int}{Q:Vl->Sd->Prop}(ht:IsTup s.heap t Wl)(hs:s.heap.IsSliceOf sl vl vu .none)(pl:IsPart vl lo)(pu:IsPart vu hi) (hw:sG Wl.size 0 lo=0/\sG Wl.size Wl.size hi=Wl.size) (h:Q (.ref t) s):wpAny (model prog w) A (getItem (.ref t) (.ref sl)) Q E s:=by
 obtain⟨os,Zb,YQ,Xv⟩:=id hs;have hTs:s.TypeIs (.ref sl) "slice":=⟨os,Zb,YQ⟩;unfold getItem
 try with_reducible refine eC ?_
 first|refine cU (de ?_)|skip
 refine cU (jk ht.typeIs (by decide) ?_);refine cU (fK (name:=Str.ofString "__getitem__") ht.typeIs fB (fZ fB ht.typeIs ko ?_ (kH _ _)));show wpAny _ _ (Builtin.Tuple.tupleItemsOf (.ref t)>>=_) _ _ s;refine cU (tupleItemsOf_ ht ?_);refine cU (jy hTs ?_);rw[c9 (by decide)];refine cU (vU hs pl pu ?_);have yes:(((sG Wl.size 0 lo:Nat):Int)==0&&(1:Int)==1&&(sG Wl.size Wl.size hi - sG Wl.size 0 lo)==Wl.size)=true:=by rw[hw.1,hw.2];simp
 show wpAny _ _ (if (((sG Wl.size 0 lo:Nat):Int)==0&&(1:Int)==1&&(sG Wl.size Wl.size hi - sG Wl.size 0 lo)==Wl.size)=true then _ else _) _ _ s;rw[c9 yes];have hT:=ht.typeIs;obtain⟨hp,g,d,tk,o⟩:=s
 repeat (any_goals(first|assumption|wp_step))
 exact⟨_,rfl,de h⟩
end HT
namespace L2
open PySem PySem.Spec PyProof.Rows
variable {X:Cx}{p p2 pos X8:Pos}{e:Expr}{te:TE}
section
def Vz(K:pY):V->Option Int->Option Int->Hp->VK->Prop:=λx lo hi H Q=>∃a xs,x=.ref a/\uK K H a xs/\(HT.sG xs.length 0 lo=0/\HT.sG xs.length xs.length hi=xs.length)/\Q (.ref a) H
def RG:Ue X (Vz X.K):=by
 intro Wk s σ H x v vl vu lo hi sl Q I rx hs pl pu h;obtain⟨a,xs,rfl,hx,hw,q⟩:=h;cases rx;obtain⟨its,r,ht,hz⟩:=I.tuple hx;have Wr:its.toArray.size=xs.length:=by rw[dq];exact r.length.symm
 exact⟨"tuple",_,fB.lookup,ht.typeIs,HT.za ht hs pl pu (by rw[Wr];exact hw) ⟨.ref a,H,I,rfl,q⟩⟩
local instance (priority:=5000) keyBEq:BEq qR:=instBEqOfDecidableEq
local instance (priority:=5000) keyLaw:LawfulBEq qR:=inferInstanceAs (LawfulBEq (Sum Int Str))
def Oc(K:pY)(te:TE):TE:=λσ H Q=>te σ H λx H1=>∃a,∃ss:List Str,x=.ref a/\(yJ K H1 a (ss.map V.str)\/uK K H1 a (ss.map V.str))/\ss.length+1<scanBound/\Q (.int (su ss).length) H1
def F5{P:Pg}{w:Wo}{ss:List Str}{us:List Vl}(r:qo (ss.map V.str) us):us.length=ss.length/\∀(i:Nat) (v:Vl) (k:qR),us[i]?=some v->(ss.map λx=>(Sum.inr x:qR))[i]?=some k->(rb P w).is k v=true/\v.scannable=true:=by
 refine⟨by rw[<-r.length,cT],λi v k e1 e2=>?_⟩;rw[dA]at e2;cases q:ss[i]? with
 | none=>rw[q]at e2;cases e2
 | some x=>rw[q]at e2;cases e2;obtain⟨u,e3,t,rfl⟩:=r.get (i:=i) (x:=V.str x) (by rw[dA,q];rfl);rw[e3]at e1;cases e1;exact⟨Ae P w x t,rfl⟩
def ML{ss:List Str}:(su (ss.map λx=>(Sum.inr x:qR))).length=(su ss).length:=by
 have go:∀(l acc:List Str),(l.map λx=>(Sum.inr x:qR)).foldl (λacc k=>if k∈acc then acc else acc++[k]) (acc.map Sum.inr)=(l.foldl (λacc k=>if k∈acc then acc else acc++[k]) acc).map Sum.inr:=by
  intro l;induction l with
  | nil=>intro acc;rfl
  | cons k r ih=>
   intro acc;rw[dS,fT,fT];have hm:(Sum.inr k:qR)∈acc.map Sum.inr↔k∈acc:=by
    rw[dz];constructor
    .rintro ⟨y,h1,h2⟩;cases h2;exact h1
    .exact λh=>⟨k,h,rfl⟩
   by_cases h:k∈acc
   .rw[c9 h,c9 (hm.mpr h)];exact ih acc
   .rw[cY h,cY λz=>h (hm.mp z)];have:=ih (acc++[k]);rw[dP]at this;exact this
 have:=go ss [];unfold su;rw[iG]at this;rw[this,cT]
def JD(hc:X.calm=true)(he:PE X e te)(hg1:Gl X "len")(Wm:X.mg "len"=none)(hg2:Gl X "set")(WB:X.mg "set"=none)(b1:bootBuiltins "len"=some (.builtin "len"))(b2:bootBuiltins "set"=some (.type "set")) (hs:starEach [e] X.env=[(false,eval e X.env)]:=by rfl):PE X (.Call (.Name "len" p) [.Call (.Name "set" p2) [e] [] X8] [] pos) (Oc X.K te):=by
 intro Wk s σ H Q I h;refine gb (xc I hg1 Wm b1 ?_);refine iF ?_ rfl rfl;show wpAny _ _ (spliced ((false,eval (.Call (.Name "set" p2) [e] [] X8) X.env)::backTo pos (starEach [] X.env))) _ _ s;refine ja ?_;refine gb (xc I hg2 WB b2 ?_);refine fS ?_ hs rfl;rw[hs];show wpAny _ _ (spliced ((false,eval e X.env)::backTo X8 (starEach [] X.env))) _ _ s;refine ja (rV (he Wk s σ H _ I h) λu s1 ⟨x,H1,I1,r1,a,ss,ex,hq,hb,q⟩=>ji ?_);subst ex;obtain rfl:u=Value.ref a:=r1;have Xc:(ss.map λx=>(Sum.inr x:qR)).length+1<scanBound:=by rw[cT];exact hb
 have Wp:∀(h':Heap) (tk:Nat),h'.SetOf (rb X.prog X.w) s1.heap.objs.size (λx=>decide (x∈su (ss.map λx=>(Sum.inr x:qR)))) (su (ss.map λx=>(Sum.inr x:qR))).length->(∀b o,s1.heap.get? b=some o->h'.get? b=some o)->
   wpAny (model X.prog X.w) X.A (spliced (backTo pos (starEach [] X.env))) (λvs s₁=>wpAny (model X.prog X.w) X.A (call (.builtin "len") (.ref s1.heap.objs.size::vs)) (EP X Wk σ Q) X.xe s₁) X.xe {s1 with heap:=h',toks:=tk}:=λh' tk hS keep=>by
  refine ji ?_;obtain⟨o,es,ep,t,ho,hex,hd,_,_,hz,hf,hn⟩:=hS;have Wx:(es.size:Int)<2 ^ 63:=by have:scanBound=4096:=rfl;omega
  refine call_len_set ho hex hd hf Wx ?_;refine⟨.int es.size,H1,I1.kept keep,⟨_,rfl⟩,?_⟩;rw[hn,ML];exact q
 rcases hq with hq|hq
 .obtain⟨its,r,pl,hz⟩:=I1.list hq;obtain⟨k1,k2⟩:=F5 (P:=X.prog) (w:=X.w) r;exact L2.Cj (knd:=rb X.prog X.w) (all:=ss.map λx=>(Sum.inr x:qR)) (I1.ok.hd hc) pl.isList (by rw[dq,k1,cT]) (λi v k e1 e2=>k2 i v k (by simpa using e1) e2) Xc Wp
 .obtain⟨its,r,pl,hz⟩:=I1.tuple hq;obtain⟨k1,k2⟩:=F5 (P:=X.prog) (w:=X.w) r;exact L2.By (knd:=rb X.prog X.w) (all:=ss.map λx=>(Sum.inr x:qR)) (I1.ok.hd hc) pl (by rw[dq,k1,cT]) (λi v k e1 e2=>k2 i v k (by simpa using e1) e2) Xc Wp
end
variable {Wk:List (Addr × Obj)}{σ:St}{H:Hp}{s:Sd}
theorem Dp(I:Inv X Wk σ H s):∀(ts:List Addr) (kvs:List (qR×V)),ts.length=kvs.length->(∀(j:Nat) (t:Addr) (p:qR×V),ts[j]?=some t->kvs[j]?=some p->uK X.K H t [kV p.1,p.2])->
  ∃(us:List Vl) (all:List (qR×Vl)),us.length=kvs.length/\KV kvs all/\∀(j:Nat) (t:Addr) (p:qR×Vl),ts[j]?=some t->all[j]?=some p->∃u,us[j]?=some u/\s.heap.IsTuple t #[u,p.2]/\(rb X.prog X.w).is p.1 u=true
 | [],[],_,_=>⟨[],[],rfl,.nil,λj t p e=>by simp at e⟩
 | [],_::_,h,_=>by simp at h
 | _::_,[],h,_=>by simp at h
 | t::ts,(k,v)::kvs,h,hq=>by
  obtain⟨us,all,h1,h2,h3⟩:=Dp I ts kvs (by simpa using h) (λj t p e1 e2=>hq (j+1) t p (by simpa using e1) (by simpa using e2));obtain⟨its,r,pl,_⟩:=I.tuple (hq 0 t (k,v) (by simp) (by simp));cases r with
  | cons r1 r2=>
   cases r2 with
   | cons r3 r4=>
    cases r4;rename_i u w;refine⟨u::us,(k,w)::all,by simpa using h1,.cons ⟨rfl,r3⟩ h2,λj t' p e1 e2=>?_⟩;cases j with
    | zero=>
     have e1':t=t':=by simpa using e1
     have Yx:(k,w)=p:=by simpa using e2
     subst e1' Yx;exact⟨u,by simp,pl,FB r1⟩
    | succ j=>simpa using h3 j t' p (by simpa using e1) (by simpa using e2)
theorem KA:∀{kvs:List (qR×V)} {all:List (qR×Vl)},KV kvs all->all.map (·.1)=kvs.map (·.1)
 | _,_,.nil=>rfl
 | _,_,.cons r rs=>by rw[dS,dS,KA rs,r.1]
def GE(hc:X.calm=true):yY X (.type "dict") (λxs H Q=>∃l,∃ts:List Addr,∃kvs:List (qR×V),xs=[V.ref l]/\yJ X.K H l (ts.map V.ref)/\ts.length=kvs.length/\
  (∀(j:Nat) (t:Addr) (p:qR×V),ts[j]?=some t->kvs[j]?=some p->uK X.K H t [kV p.1,p.2])/\(kvs.map (·.1)).Nodup/\∀d,H d=none->Q (.ref d) (upd H d (.dK kvs))):=by
 intro Wk s σ H xs us Q I r h;obtain⟨l,ts,kvs,rfl,hl,Wr,hq,hnd,q⟩:=h;obtain⟨u,rfl,ru⟩:=yb r;cases ru;obtain⟨its,rv,⟨⟨c1,d1,t1,sl1⟩,n,g1,e1,e2,e3⟩,hz⟩:=I.list hl;simp only at e1 e2 e3;subst e1 e2 e3;obtain⟨ks,all,h1,h2,h3⟩:=Dp I ts kvs Wr hq;have la:all.length=kvs.length:=(jg h2).symm;have li:its.length=kvs.length:=by rw[<-rv.length,cT,Wr]
 have zl:all.length<=sizeLine:=by rw[la,<-Wr];simpa using hz
 have at_:∀(j:Nat) (p:qR×Vl),all[j]?=some p->∃t,ts[j]?=some t:=λj p e=>by have:=(cV.mp e).1;exact⟨ts[j],cW (by omega)⟩
 refine AF (knd:=rb X.prog X.w) (all:=all) (λj=>(ks[j]?).getD .none) (λj=>(ts[j]?).getD 0) (I.ok.hd hc) g1 (λj v e=>?_) (by rw[dq,li,la]) (λj p e=>?_) (λj p e=>?_) zl λh' tk hD keep=>?_
 .have e':its[j]?=some v:=by simpa using e
  have hj:=(cV.mp e').1;have hj2:j<ts.length:=by omega
  obtain⟨w,e4,e5⟩:=rv.get (i:=j) (x:=V.ref ts[j]) (by rw[dA,cW hj2];rfl);rw[e']at e4;cases e4;show v=Value.ref ((ts[j]?).getD 0);rw[cW hj2];exact e5
 .obtain⟨t,et⟩:=at_ j p e;obtain⟨u,e4,e5,_⟩:=h3 j t p et e;show s.heap.IsTuple ((ts[j]?).getD 0) #[(ks[j]?).getD .none,p.2];rw[et,e4];exact e5
 .obtain⟨t,et⟩:=at_ j p e;obtain⟨u,e4,_,e6⟩:=h3 j t p et e;show(rb X.prog X.w).is p.1 ((ks[j]?).getD .none)=true;rw[e4];exact e6
 .rw[merged_nil_of_nodup all (by rw[KA h2];exact hnd)]at hD;have fr:=I.mG.fresh (dg s.heap.objs.size);exact⟨.ref s.heap.objs.size,_,I.laid (t':=tk) (o:=.dK kvs) keep (dg _) (Kg (by rw[<-la];exact zl) (gj.mpr (dJ (dG I.big))) h2 hD),rfl,q _ fr⟩
def Vj:R2:=λx y H Q=>∃a v,x=.ref a/\EZ H a y (some v)/\Q v H
def NB(hu:X.A.units+1<cLine):Sx X Vj:=by
 intro value Wv Wk s σ H x y o i Q I rx ry h hs;obtain⟨a,v,rfl,g,q⟩:=h;obtain rfl:o=Value.ref a:=rx;have hT:=FU I g;have h2:wpAny (model X.prog X.w) X.A (getItem (.ref a) i) (EP X Wk σ Q) X.xe s:=Jv hu I g ry λw' s3 I3 Yv=>⟨v,H,I3,Yv,q⟩;unfold subscriptTail;refine cU ?_;rw[jX hT.not_modules];refine cU (iH hT jq.lookup ?_);have Wp:wpAny (model X.prog X.w) X.A (subscripted Wv false (.ref a) i) (λr s₃=>wpAny (model X.prog X.w) X.A (letTemporaryGo value (.ref a) r>>=λ_=>pure r) (EP X Wk σ Q) X.xe s₃) X.xe s:=by rw[hs];exact wpAny_operating (eA h2 (λr s₃ h₃=>cU (j9 (de h₃))) λ_ _ x=>x)
 first
  | exact de (cU Wp)
  | exact cU (de (cU Wp))
  | exact cU Wp
def Rv(hu:X.A.units+1<cLine):wY X (compareOp .In) (λx y H Q=>∃a o,y=.ref a/\EZ H a x o/\Q (.bl o.isSome) H):=by intro Wk s σ H x y v u Q I rx ry h;obtain⟨a,o,rfl,g,q⟩:=h;obtain rfl:u=Value.ref a:=ry;exact UO hu I g rx λs3 I3=>⟨.bl o.isSome,H,I3,rfl,q⟩
variable {prog:Pg}{w:Wo}{A:Ar}{E:Vl→Sd→Prop}{a:Addr}{δ:Type}{k:Str}{tk:Tok}
section
variable {R:δ→Vl→Prop}{D:List (Str × δ)}
def yf(T:KTD.TabOf R s.heap a D):s.TypeIs (.ref a) "dict":=let⟨_,o,_,_,ho,hc,_⟩:=T;⟨o,ho,hc.1⟩
def I9{Q:Option Vl->Sd->Prop}(T:KTD.TabOf R s.heap a D)(h1:∀d v,KTD.datumAt k D=some d->R d v->Q (some v) {s with toks:=s.toks+1})(h2:KTD.datumAt k D=none->Q none {s with toks:=s.toks+1}):
  wpAny (model prog w) A (dictGet a (.str k tk)) Q E s:=by
 obtain⟨_,o,es,ep,ho,hc,hd,hr⟩:=T;have hq:Q (findBy (λk v=>v.isStr k) es k) {s with toks:=s.toks+1}:=by
  have hf:findBy (λk v=>v.isStr k) es k=(es.toList.find? λe=>e.key.isStr k).map (·.val):=by obtain⟨l⟩:=es;simp[findBy]
  rw[hf];cases hat:KTD.datumAt k D with
  | none=>rw[hr.find_none hat];exact h2 hat
  | some d=>obtain⟨v,hv,hfl⟩:=hr.find_some hat;rw[hv];exact h1 d v hat hfl
 have W1:(es.all λe=>isExactStrKey e.key)=true:=by
  obtain⟨l⟩:=es
  simpa using hr.exact
 unfold dictGet
 try with_reducible refine eC ?_
 refine cU (ly (cU (KTD.kt_dictFind_strs (s:={s with toks:=s.toks+1}) ho hd W1 ?_)));rw[findBy_of_findIdx?]at hq;cases hi:es.findIdx? λe=>e.key.isStr k with
 | none=>rw[hi]at hq;exact de hq
 | some i=>rw[hi]at hq;exact cU (wpAny_dictEntries (s:={s with toks:=s.toks+1}) ho hd (de hq))
def RB{Q:Vl->Sd->Prop}(T:KTD.TabOf R s.heap a D)(h:Q (.bool (KTD.datumAt k D).isSome) {s with toks:=s.toks+1}):wpAny (model prog w) A (compareOp .In (.str k tk) (.ref a)) Q E s:=by
 have hT:=yf T;show wpAny _ _ (do return .bool (<-contains (.ref a) (.str k tk))) Q E s;refine cU ?_;unfold contains
 try with_reducible refine eC ?_
 refine cU (iH hT jd.lookup ?_);show wpAny _ _ (if (some (Value.builtin "dict.__contains__")==some Value.none)=true then _ else _) _ E s;rw[cY (by rw[beq_builtin_none];exact dw)];refine cU (wpAny_callSpecialUnlessNone?_slot (name:=Str.ofString "__contains__") hT jd (fZ jd hT entry_dict_contains ?_ (args_dict_contains _ _)));show wpAny _ _ (dictGet a (.str k tk)>>=_) _ _ s;refine cU (I9 T (λd v ha _=>?_) λhn=>?_)
 .rw[ha]at h;show wpAny _ _ (ret (.bool true)) _ _ _;exact de ⟨_,rfl,fi (de h)⟩
 .rw[hn]at h;show wpAny _ _ (Builtin.Dict.pendingKey? a (.str k tk)>>=_) _ _ _;exact cU (wpAny_pendingKey_other T.1 (de ⟨_,rfl,fi (de h)⟩))
def Lj{Q:Vl->Sd->Prop}{d:δ}(T:KTD.TabOf R s.heap a D)(hd:KTD.datumAt k D=some d)(h:∀v,R d v->Q v {s with toks:=s.toks+1}):wpAny (model prog w) A (getItem (.ref a) (.str k tk)) Q E s:=by
 have hT:=yf T;unfold getItem
 try with_reducible refine eC ?_
 refine cU (jk hT (by decide) ?_);refine cU (fK (name:=Str.ofString "__getitem__") hT lb (fZ lb hT entry_dict_getitem ?_ (args_dict_getitem _ _)));show wpAny _ _ (dictGet a (.str k tk)>>=_) _ _ s;refine cU (I9 T (λd' v ha hv=>de ⟨v,rfl,de (h v ?_)⟩) λhn=>?_)
 .rw[hd]at ha;cases ha;exact hv
 .rw[hd]at hn;cases hn
end
def L8(K:pY)(mg:Str->Option Vl)(x:Str)(F:List (Str×List Str)):Prop:=∃a o es ep,mg x=some (.ref a)/\(a==sysModules)=false/\K.lookup a=some o/\o.ExactDict/\o.data=.dict es ep/\
 KTD.Rows (λ(ss:List Str) v=>∃t,v=Value.ref t/\uK K (λ_=>none) t (ss.map V.str)) es.toList F
variable {x:Str}{F:List (Str × List Str)}
def IT{K:pY}{t:Addr}{xs:List V}{H:Hp}(h:uK K (λ_=>none) t xs):uK K H t xs:=by
 rcases h with(h|⟨o,h⟩)|h
 .cases h
 .cases h
 .exact .inr h
def Fi{K:pY}{mg:Str->Option Vl}(T:L8 K mg x F):∃a,mg x=some (.ref a)/\∀h:Heap,K.In h->KTD.TabOf (λ(ss:List Str) v=>∃t,v=Value.ref t/\uK K (λ_=>none) t (ss.map V.str)) h a F:=by obtain⟨a,o,es,ep,h1,h2,h3,h4,h5,h6⟩:=T;exact⟨a,h1,λh hk=>⟨h2,o,es,ep,hk a o h3,h4,h5,h6⟩⟩
def Ve(x:Str):It:=⟨λi _=>i<x.cps.size,λi H v H'=>H'=H/\∃c,x.cps[i]?=some c/\v=.str ⟨#[c]⟩,λi _=>i=x.cps.size⟩
def FV{P:Pg}{w:Wo}{K:pY}{tg:Expr}{ty:String}{x:Str}{t:Tok}(it:Addr)(W:∀A':Ar,A'.handled=none->Walks P w A' it [it] [it] x.cps.size (SignAt x) (λi h=>h.IsStrIter it ty x t i)) (hself:∀(A:Ar) (i:Nat) (s:Sd) (Q:Vl->Sd->Prop) (E:Vl->Sd->Prop),s.heap.IsStrIter it ty x t i->Q (.ref it) s->wpAny (model P w) A (pyIter (.ref it)) Q E s) (hn:["enumerate","zip","dict_itemiterator","dict_reverseitemiterator","odict_iterator","itertools.zip_longest","itertools.pairwise"].contains ty=false):FE P w K tg (Ve x) [it] it (λi h=>h.IsStrIter it ty x t i) where
 mem:=by simp
 obj:=λi h st b hb=>by
  obtain rfl:b=it:=by simpa using hb
  obtain⟨o,e,c,d⟩:=st;exact⟨o,e,λv z=>by rw[d]at z;cases z⟩
 keep:=λi h h' st k=>by obtain⟨o,e,r⟩:=st;exact⟨o,k it (by simp) o e,r⟩
 item:=by intro X hP hw hK hc i Wk s σ H E I hf st hg;subst hP hw hK;obtain⟨f0,f1,f2,f3,f4,f5⟩:=hf it (by simp);refine(W X.A (I.ok.hd hc)).item i s _ _ hg st λv h' tk hv XD kp=>?_;obtain⟨c,u,e1,e2⟩:=hv;have I1:Inv X Wk σ H {s with heap:=h',toks:=tk}:=I.turned (t':=tk) (λb o hb e=>kp b o (by simpa using hb) e) f0 f1 f3 f4 f5;obtain⟨o,e,cl,d⟩:=id XD;exact⟨v,rfl,IK (s:={s with heap:=h',toks:=tk}) e cl d hn ⟨.str ⟨#[c]⟩,H,I1,⟨u,e2⟩,⟨rfl,c,e1,rfl⟩,XD,λb hb=>(hf b hb).1⟩⟩
 done:=by intro X hP hw hK hc i Wk s σ H E I hf st hg;subst hP hw hK;obtain⟨f0,f1,f2,f3,f4,f5⟩:=hf it (by simp);obtain rfl:i=x.cps.size:=hg;exact(W X.A (I.ok.hd hc)).done s _ _ st λh' tk kp=>⟨rfl,I.turned (t':=tk) (λb o hb e=>kp b o (by simpa using hb) e) f0 f1 f3 f4 f5⟩
 self:=hself
variable {tg:Expr}
def Ot{l:Expr}{tl:TE}(hc:X.calm=true)(hl:PE X l tl):PI X tg l (λσ H R=>tl σ H λx H1=>(∃a,x=.ref a/\(((∃xs,yJ X.K H1 a xs)/\R (UD X.K a) H1)\/((∃xs,uK X.K H1 a xs)/\R (UJ X.K a) H1)))\/∃z,x=.str z/\R (Ve z) H1):=by
 intro Wk s σ H R I h;refine rV (hl Wk s σ H _ I h) λv s1 zz=>x5 zz λx H1 I1 r1 q1=>?_;rcases q1 with⟨a,e,q1⟩|⟨z,e,q⟩
 .subst e;cases r1;rcases q1 with⟨⟨xs,hq⟩,q⟩|⟨⟨xs,hq⟩,q⟩
  .obtain⟨its,rv,p,hz⟩:=I1.list hq;refine gA p.isList ?_;refine⟨s1.heap.objs.size,[s1.heap.objs.size],_,_,H1,rfl,I1.kept (t':=s1.toks) λb o e=>cZ _ e,J0 a _,⟨_,dF _ rfl,rfl,rfl⟩,λb hb=>?_,q⟩;obtain rfl:b=s1.heap.objs.size:=by simpa using hb
   exact I1.nK (dg _) (I1.mG.fresh (dg _))
  .obtain⟨its,rv,p,hz⟩:=I1.tuple hq;refine ik (show s1.heap.IsTuple a its.toArray from p) ?_;refine⟨s1.heap.objs.size,[s1.heap.objs.size],_,_,H1,rfl,I1.kept (t':=s1.toks) λb o e=>cZ _ e,GK a _,⟨_,dF _ rfl,rfl,rfl⟩,λb hb=>?_,q⟩;obtain rfl:b=s1.heap.objs.size:=by simpa using hb
   exact I1.nK (dg _) (I1.mG.fresh (dg _))
 .subst e;obtain⟨t,rfl⟩:=r1;have fp:∀b∈[s1.heap.objs.size],Ah X Wk H1 b:=λb hb=>by
   obtain rfl:b=s1.heap.objs.size:=by simpa using hb
   exact I1.nK (dg _) (I1.mG.fresh (dg _))
  cases ha:z.cps.all (·<128)
  .refine wpAny_pyIter_wide ha ?_;exact⟨s1.heap.objs.size,[s1.heap.objs.size],_,_,H1,rfl,I1.kept (t':=s1.toks) λb o e=>cZ _ e,FV _ (λA' hA=>Walks.strWide hA _ z t) (λA i s Q E st h=>wpAny_pyIter_striter_wide st h) (by decide),⟨_,dF _ rfl,rfl,rfl⟩,fp,q⟩
  .refine wpAny_pyIter_ascii ha ?_;exact⟨s1.heap.objs.size,[s1.heap.objs.size],_,_,H1,rfl,I1.kept (t':=s1.toks) λb o e=>cZ _ e,FV _ (λA' hA=>Walks.strAscii hA _ z t) (λA i s Q E st h=>wpAny_pyIter_striter_ascii st h) (by decide),⟨_,dF _ rfl,rfl,rfl⟩,fp,q⟩
end L2
namespace L2
inductive B8{α0:Sort u}{α1:Sort v}(p:α0->α1->Prop):Prop
 | mk (a0:α0) (a1:α1) (h:p a0 a1):B8 p
inductive CN{α0:Sort u}{α1:Sort v}{α2:Sort w}(p:α0->α1->α2->Prop):Prop
 | mk (a0:α0) (a1:α1) (a2:α2) (h:p a0 a1 a2):CN p
def x7{α:Sort u}{β:Sort v}{γ:Sort w}{p q r s:α->β->γ->Prop}{C:Prop}(h:CN λa b c=>p a b c/\q a b c/\r a b c/\s a b c)(f:∀a b c,p a b c->q a b c->r a b c->s a b c->C):C:=by obtain⟨a,b,c,h1,h2,h3,h4⟩:=h;exact f a b c h1 h2 h3 h4
def Jr{α:Sort u}{β:Sort v}{γ:Sort w}{p q r s s1 s2 s3:α->β->γ->Prop}{C:Prop}(h:CN λa b c=>p a b c/\q a b c/\r a b c/\s a b c/\s1 a b c/\s2 a b c/\s3 a b c)(f:∀a b c,p a b c->q a b c->r a b c->s a b c->s1 a b c->s2 a b c->s3 a b c->C):C:=by obtain⟨a,b,c,h1,h2,h3,h4,h5,h6,h7⟩:=h;exact f a b c h1 h2 h3 h4 h5 h6 h7
inductive AU{α0:Sort u}{α1:Sort v}{α2:Sort w}{α3:Sort u1}(p:α0->α1->α2->α3->Prop):Prop
 | mk (a0:α0) (a1:α1) (a2:α2) (a3:α3) (h:p a0 a1 a2 a3):AU p
inductive GC{α0:Sort u}{α1:Sort v}{α2:Sort w}{α3:Sort u1}{α4:Sort u2}(p:α0->α1->α2->α3->α4->Prop):Prop
 | mk (a0:α0) (a1:α1) (a2:α2) (a3:α3) (a4:α4) (h:p a0 a1 a2 a3 a4):GC p
inductive Ij{α0:Sort u}{α1:Sort v}{α2:Sort w}{α3:Sort u1}{α4:Sort u2}{α5:Sort u3}(p:α0->α1->α2->α3->α4->α5->Prop):Prop
 | mk (a0:α0) (a1:α1) (a2:α2) (a3:α3) (a4:α4) (a5:α5) (h:p a0 a1 a2 a3 a4 a5):Ij p
inductive Su{α0:Sort u}{α1:Sort v}{α2:Sort w}{α3:Sort u1}{α4:Sort u2}{α5:Sort u3}{α6:Sort u4}(p:α0->α1->α2->α3->α4->α5->α6->Prop):Prop
 | mk (a0:α0) (a1:α1) (a2:α2) (a3:α3) (a4:α4) (a5:α5) (a6:α6) (h:p a0 a1 a2 a3 a4 a5 a6):Su p
inductive Sy{α0:Sort u}{α1:Sort v}{α2:Sort w}{α3:Sort u1}{α4:Sort u2}{α5:Sort u3}{α6:Sort u4}{α7:Sort u5}(p:α0->α1->α2->α3->α4->α5->α6->α7->Prop):Prop
 | mk (a0:α0) (a1:α1) (a2:α2) (a3:α3) (a4:α4) (a5:α5) (a6:α6) (a7:α7) (h:p a0 a1 a2 a3 a4 a5 a6 a7):Sy p
inductive TJ{α0:Sort u}{α1:Sort v}{α2:Sort w}{α3:Sort u1}{α4:Sort u2}{α5:Sort u3}{α6:Sort u4}{α7:Sort u5}{α8:Sort u6}(p:α0->α1->α2->α3->α4->α5->α6->α7->α8->Prop):Prop
 | mk (a0:α0) (a1:α1) (a2:α2) (a3:α3) (a4:α4) (a5:α5) (a6:α6) (a7:α7) (a8:α8) (h:p a0 a1 a2 a3 a4 a5 a6 a7 a8):TJ p
inductive Mr{α0:Sort u}{α1:Sort v}{α2:Sort w}{α3:Sort u1}{α4:Sort u2}{α5:Sort u3}{α6:Sort u4}{α7:Sort u5}{α8:Sort u6}{α9:Sort u7}(p:α0->α1->α2->α3->α4->α5->α6->α7->α8->α9->Prop):Prop
 | mk (a0:α0) (a1:α1) (a2:α2) (a3:α3) (a4:α4) (a5:α5) (a6:α6) (a7:α7) (a8:α8) (a9:α9) (h:p a0 a1 a2 a3 a4 a5 a6 a7 a8 a9):Mr p
inductive Vy{α0:Sort u}{α1:Sort v}{α2:Sort w}{α3:Sort u1}{α4:Sort u2}{α5:Sort u3}{α6:Sort u4}{α7:Sort u5}{α8:Sort u6}{α9:Sort u7}{α10:Sort u8}(p:α0->α1->α2->α3->α4->α5->α6->α7->α8->α9->α10->Prop):Prop
 | mk (a0:α0) (a1:α1) (a2:α2) (a3:α3) (a4:α4) (a5:α5) (a6:α6) (a7:α7) (a8:α8) (a9:α9) (oP:α10) (h:p a0 a1 a2 a3 a4 a5 a6 a7 a8 a9 oP):Vy p
inductive Vb{α0:Sort u}{α1:Sort v}{α2:Sort w}{α3:Sort u1}{α4:Sort u2}{α5:Sort u3}{α6:Sort u4}{α7:Sort u5}{α8:Sort u6}{α9:Sort u7}{α10:Sort u8}{α11:Sort u9}(p:α0->α1->α2->α3->α4->α5->α6->α7->α8->α9->α10->α11->Prop):Prop
 | mk (a0:α0) (a1:α1) (a2:α2) (a3:α3) (a4:α4) (a5:α5) (a6:α6) (a7:α7) (a8:α8) (a9:α9) (oP:α10) (a11:α11) (h:p a0 a1 a2 a3 a4 a5 a6 a7 a8 a9 oP a11):Vb p
end L2
namespace L2
open PySem
def Te(a C:Addr)(h:Heap):Prop:=B8 λoe vs=>h.get? a=some oe/\oe.cls=.ref C/\oe.data=.fields vs/\oe.dict=none
end L2
namespace L3
open PySem PySem.Spec PyProof.Rows L2
inductive D where
 | mC|bl (b:Bool)|int (i:Int)|str (x:Str)|tup (ds:List D)|ref (a:Addr)|ty (n:String)
 | rl (ds:List D)
def Pi(K:pY)(H:Hp)(a:Addr)(xs:List V):Prop:=(∃o,H a=some (.frz o (.lst xs)))\/
 ∃(o:Obj) (its:Array Vl) (n:Nat),K.lookup a=some o/\o.cls=.type "list"/\o.dict=none/\o.data=.seq its n/\its.size<=sizeLine/\qo xs its.toList
def Pi.sq{K:pY}{H:Hp}{a:Addr}{xs:List V}(h:Pi K H a xs):yJ K H a xs:=by
 rcases h with⟨o,h⟩|h
 .exact .inl (.inr ⟨o,h⟩)
 .exact .inr h
mutual
def rh(K:pY)(H:Hp):D->V->Prop
 | .mC,v=>v=.mC
 | .bl b,v=>v=.bl b
 | .int i,v=>v=.int i
 | .str x,v=>v=.str x
 | .ref a,v=>v=.ref a
 | .ty n,v=>v=.ty n
 | .tup ds,v=>∃a xs,v=.ref a/\uK K H a xs/\pV K H ds xs
 | .rl ds,v=>∃a xs,v=.ref a/\Pi K H a xs/\pV K H ds xs
def pV(K:pY)(H:Hp):List D->List V->Prop
 | [],xs=>xs=[]
 | d::ds,xs=>∃x r,xs=x::r/\rh K H d x/\pV K H ds r
end
structure qF(K:pY)(H H':Hp):Prop where
 t:∀a xs,uK K H a xs->uK K H' a xs
 f:∀a o xs,H a=some (.frz o (.lst xs))->H' a=some (.frz o (.lst xs))
def qF.refl{K:pY}{H:Hp}:qF K H H:=⟨λ_ _ h=>h,λ_ _ _ h=>h⟩
def qF.trans{K:pY}{H H1 H2:Hp}(a:qF K H H1)(b:qF K H1 H2):qF K H H2:=⟨λc xs h=>b.t c xs (a.t c xs h),λc o xs h=>b.f c o xs (a.f c o xs h)⟩
def qF.upd{K:pY}{H:Hp}{p:Addr}{o:HO}(h:∀xs,¬Rd H p (.tup xs))(h':∀u xs,H p≠some (.frz u (.lst xs))):qF K H (upd H p o):=⟨λa xs q=>by
 rcases q with q|q
 .have ne:a≠p:=λz=>h xs (z ▸ q);rcases q with q|⟨u,q⟩
  .exact .inl (.inl (by rw[pL ne];exact q))
  .exact .inl (.inr ⟨u,by rw[pL ne];exact q⟩)
 .exact .inr q,λa u xs q=>by
 have ne:a≠p:=λz=>h' u xs (z ▸ q);rw[pL ne];exact q⟩
def qF.new{K:pY}{H:Hp}{p:Addr}{o:HO}(h:H p=none):qF K H (L2.upd H p o):=.upd (λxs q=>by
 rcases q with q|⟨u,q⟩<;>(rw[h]at q;cases q)) λu xs q=>by rw[h]at q;cases q
def Pi.mono{K:pY}{H H':Hp}{a:Addr}{xs:List V}(e:qF K H H')(h:Pi K H a xs):Pi K H' a xs:=by
 rcases h with⟨o,h⟩|h
 .exact .inl ⟨o,e.f a o xs h⟩
 .exact .inr h
mutual
theorem rh.mono{K:pY}{H H':Hp}(e:qF K H H'):∀{d:D} {v:V},rh K H d v->rh K H' d v
 | .mC,_,h=>h
 | .bl _,_,h=>h
 | .int _,_,h=>h
 | .str _,_,h=>h
 | .ref _,_,h=>h
 | .ty _,_,h=>h
 | .tup ds,v,h=>by unfold rh at h ⊢;obtain⟨a,xs,e1,e2,e3⟩:=h;exact⟨a,xs,e1,e.t _ _ e2,pV.mono e e3⟩
 | .rl ds,v,h=>by unfold rh at h ⊢;obtain⟨a,xs,e1,e2,e3⟩:=h;exact⟨a,xs,e1,e2.mono e,pV.mono e e3⟩
theorem pV.mono{K:pY}{H H':Hp}(e:qF K H H'):∀{ds:List D} {xs:List V},pV K H ds xs->pV K H' ds xs
 | [],_,h=>h
 | d::ds,xs,h=>by unfold pV at h ⊢;obtain⟨x,r,e1,e2,e3⟩:=h;exact⟨x,r,e1,rh.mono e e2,pV.mono e e3⟩
end
variable {K:pY}{H H':Hp}
def pV.nil:pV K H [] []:=by unfold pV;rfl
def pV.cons{d:D}{ds:List D}{x:V}{xs:List V}(a:rh K H d x)(b:pV K H ds xs):pV K H (d::ds) (x::xs):=by unfold pV;exact⟨x,xs,rfl,a,b⟩
def pV.inv{d:D}{ds:List D}{xs:List V}(h:pV K H (d::ds) xs):∃x r,xs=x::r/\rh K H d x/\pV K H ds r:=by unfold pV at h;exact h
def pV.nil_inv{xs:List V}(h:pV K H [] xs):xs=[]:=by unfold pV at h;exact h
theorem pV.length:∀{ds:List D} {xs:List V},pV K H ds xs->ds.length=xs.length
 | [],_,h=>by rw[h.nil_inv];rfl
 | d::ds,_,h=>by obtain⟨x,r,rfl,_,e⟩:=h.inv;simp[pV.length e]
theorem pV.get:∀{ds:List D} {xs:List V} {i:Nat} {d:D},pV K H ds xs->ds[i]?=some d->∃x,xs[i]?=some x/\rh K H d x
 | [],_,_,_,_,e=>by simp at e
 | d::ds,_,0,_,h,e=>by obtain⟨x,r,rfl,a,_⟩:=h.inv;simp at e;subst e;exact⟨x,by simp,a⟩
 | d::ds,_,i+1,_,h,e=>by obtain⟨x,r,rfl,_,b⟩:=h.inv;obtain⟨y,e1,e2⟩:=pV.get b (by simpa using e);exact⟨y,by simpa using e1,e2⟩
theorem pV.append:∀{ds es:List D} {xs ys:List V},pV K H ds xs->pV K H es ys->pV K H (ds++es) (xs++ys)
 | [],_,_,_,h,g=>by rw[h.nil_inv];exact g
 | d::ds,_,_,_,h,g=>by obtain⟨x,r,rfl,a,b⟩:=h.inv;exact .cons a (pV.append b g)
theorem pV.take:∀{ds:List D} {xs:List V} (n:Nat),pV K H ds xs->pV K H (ds.take n) (xs.take n)
 | _,_,0,_=>by simp only[List.take_zero];exact .nil
 | [],_,n+1,h=>by rw[h.nil_inv];exact .nil
 | d::ds,_,n+1,h=>by obtain⟨x,r,rfl,a,b⟩:=h.inv;exact .cons a (pV.take n b)
theorem pV.drop:∀{ds:List D} {xs:List V} (n:Nat),pV K H ds xs->pV K H (ds.drop n) (xs.drop n)
 | _,_,0,h=>h
 | [],_,n+1,h=>by rw[h.nil_inv];exact .nil
 | d::ds,_,n+1,h=>by obtain⟨x,r,rfl,a,b⟩:=h.inv;exact pV.drop n b
def pV.snoc{ds:List D}{xs:List V}{d:D}{x:V}(h:pV K H ds xs)(a:rh K H d x):pV K H (ds++[d]) (xs++[x]):=h.append (.cons a .nil)
theorem pV.ints:∀{ns:List Int},pV K H (ns.map D.int) (ns.map V.int)
 | []=>.nil
 | n::r=>.cons (by unfold rh;rfl) pV.ints
def rh.tup{ds:List D}{a:Addr}{xs:List V}(q:uK K H a xs)(h:pV K H ds xs):rh K H (.tup ds) (.ref a):=by unfold rh;exact⟨a,xs,rfl,q,h⟩
def rh.mE{ds:List D}{v:V}(h:rh K H (.tup ds) v):∃a xs,v=.ref a/\uK K H a xs/\pV K H ds xs:=by unfold rh at h;exact h
def rh.mP{ds:List D}{v:V}(h:rh K H (.rl ds) v):∃a xs,v=.ref a/\Pi K H a xs/\pV K H ds xs:=by unfold rh at h;exact h
def rh.int{i:Int}:rh K H (.int i) (.int i):=by unfold rh;rfl
def rh.bl{i:Bool}:rh K H (.bl i) (.bl i):=by unfold rh;rfl
def rh.str{i:Str}:rh K H (.str i) (.str i):=by unfold rh;rfl
def rh.ref{i:Addr}:rh K H (.ref i) (.ref i):=by unfold rh;rfl
def rh.mC:rh K H .mC .mC:=by unfold rh;rfl
def rh.int_inv{i:Int}{v:V}(h:rh K H (.int i) v):v=.int i:=by unfold rh at h;exact h
def rh.mB{i:Bool}{v:V}(h:rh K H (.bl i) v):v=.bl i:=by unfold rh at h;exact h
def rh.str_inv{i:Str}{v:V}(h:rh K H (.str i) v):v=.str i:=by unfold rh at h;exact h
def rh.mw{i:Addr}{v:V}(h:rh K H (.ref i) v):v=.ref i:=by unfold rh at h;exact h
def rh.nH{i:String}{v:V}(h:rh K H (.ty i) v):v=.ty i:=by unfold rh at h;exact h
def rh.mz{v:V}(h:rh K H .mC v):v=.mC:=by unfold rh at h;exact h
inductive uk where
 | lst (ds:List D)
 | ins (C:Addr) (fs:List (Str×D))
 | dk (kvs:List (qR×D))
 | exc (C:Addr)
abbrev Mp:=Addr->Option uk
def oZ(M:Mp)(a:Addr)(c:uk):Mp:=λb=>if b=a then some c else M b
def pG{M:Mp}{a:Addr}{c:uk}:oZ M a c a=some c:=by unfold oZ;rw[c9 rfl]
def ua{M:Mp}{a b:Addr}{c:uk}(h:b≠a):oZ M a c b=M b:=by unfold oZ;rw[cY h]
def qZ{M:Mp}{a:Addr}{c d:uk}:oZ (oZ M a c) a d=oZ M a d:=by funext b;unfold oZ;split<;>rfl
def Qe{M:Mp}{a b:Addr}{c:uk}(h:M a=some c)(h':M b=none):a≠b:=by intro e;subst e;rw[h]at h';cases h'
def Bg(K:pY)(H:Hp)(fs:List (Str×D))(vs:List (Str×V)):Prop:=vs.map (·.1)=fs.map (·.1)/\pV K H (fs.map (·.2)) (vs.map (·.2))
def xn(K:pY)(H:Hp)(a:Addr):uk->Prop
 | .lst ds=>∃xs,H a=some (.lst xs)/\pV K H ds xs
 | .ins C fs=>∃dx vs,H a=some (.ins C dx vs)/\Cls K C/\(∀f,f∈fs.map (·.1)->tL K C f)/\Bg K H fs vs
 | .dk kvs=>∃vs,H a=some (.dK vs)/\vs.map (·.1)=kvs.map (·.1)/\pV K H (kvs.map (·.2)) (vs.map (·.2))
 | .exc C=>H a=some (.ext (Te a C))
def HM(K:pY)(H:Hp)(M:Mp):Prop:=∀a c,M a=some c->xn K H a c
variable {M:Mp}
def Bg.mono{fs:List (Str×D)}{vs:List (Str×V)}(e:qF K H H')(h:Bg K H fs vs):Bg K H' fs vs:=⟨h.1,h.2.mono e⟩
def xn.keep{a:Addr}{c:uk}(e:qF K H H')(k:H' a=H a)(h:xn K H a c):xn K H' a c:=by
 cases c with
 | lst ds=>obtain⟨xs,e1,e2⟩:=h;exact⟨xs,by rw[k];exact e1,e2.mono e⟩
 | ins C fs=>obtain⟨dx,vs,e1,c,n,e2⟩:=h;exact⟨dx,vs,by rw[k];exact e1,c,n,e2.mono e⟩
 | dk kvs=>obtain⟨vs,e1,e2,e3⟩:=h;exact⟨vs,by rw[k];exact e1,e2,e3.mono e⟩
 | exc C=>exact k.trans h
def xn.there{a:Addr}{c:uk}(h:xn K H a c):∃o,H a=some o/\(∀xs,¬Rd H a (.tup xs))/\∀u xs,H a≠some (.frz u (.lst xs)):=by
 have go:∀o,H a=some o->(∀xs,o≠.tup xs)->(∀u v,o≠.frz u v)->∃o,H a=some o/\(∀xs,¬Rd H a (.tup xs))/\∀u xs,H a≠some (.frz u (.lst xs)):=λo e n1 n2=>⟨o,e,λxs q=>by
  rcases q with q|⟨u,q⟩
  .rw[e]at q;exact n1 xs (dh q)
  .rw[e]at q;exact n2 u _ (dh q),λu xs q=>by rw[e]at q;exact n2 u _ (dh q)⟩
 cases c with
 | lst ds=>obtain⟨xs,e1,e2⟩:=h;exact go _ e1 (λ_ z=>by cases z) λ_ _ z=>by cases z
 | ins C fs=>obtain⟨dx,vs,e1,e2⟩:=h;exact go _ e1 (λ_ z=>by cases z) λ_ _ z=>by cases z
 | dk kvs=>obtain⟨vs,e1,e2,e3⟩:=h;exact go _ e1 (λ_ z=>by cases z) λ_ _ z=>by cases z
 | exc C=>exact go _ h (λ_ z=>by cases z) λ_ _ z=>by cases z
def HM.fresh(h:HM K H M){p:Addr}(n:H p=none):M p=none:=by
 cases e:M p with
 | none=>rfl
 | some c=>obtain⟨o,q,_⟩:=(h p c e).there;rw[n]at q;cases q
def HM.keep(h:HM K H M)(e:qF K H H')(k:∀a c,M a=some c->H' a=H a):HM K H' M:=λa c q=>(h a c q).keep e (k a c q)
def HM.add(h:HM K H M){p:Addr}{o:HO}(n:H p=none):HM K (upd H p o) M:=h.keep (.new n) λa c q=>by obtain⟨u,e,_⟩:=(h a c q).there;rw[pL (qD e n)]
def HM.new(h:HM K H M){p:Addr}{o:HO}{c:uk}(n:H p=none)(ok:xn K (upd H p o) p c):HM K (upd H p o) (oZ M p c):=λa d q=>by
 by_cases e:a=p
 .subst e;rw[pG]at q;cases q;exact ok
 .rw[ua e]at q;exact h.add n a d q
def HM.put(h:HM K H M){p:Addr}{o:HO}{c c0:uk}(e0:M p=some c0)(ok:qF K H (upd H p o)->xn K (upd H p o) p c):HM K (upd H p o) (oZ M p c)/\qF K H (upd H p o):=by
 obtain⟨u,eu,nt,nf⟩:=(h p c0 e0).there;have x:qF K H (upd H p o):=.upd nt nf;refine⟨λa d q=>?_,x⟩;by_cases e:a=p
 .subst e;rw[pG]at q;cases q;exact ok x
 .rw[ua e]at q;exact(h a d q).keep x (pL e)
abbrev St:=L2.St
abbrev uM:=List (Option D)
abbrev DK:=D->Mp->Prop
abbrev T3:=uM->Mp->DK->Prop
abbrev Ac:=uM->Mp->(Bool->Mp->Prop)->Prop
abbrev wW:=uM->Mp->(List D->Mp->Prop)->Prop
structure Gw where
 nx:uM->Mp->Prop
 rt:DK
 bk:uM->Mp->Prop:=λ_ _=>False
 ct:uM->Mp->Prop:=λ_ _=>False
abbrev wV:=Gw->uM->Mp->Prop
def ym(K:pY)(H:Hp)(σ:St)(δ:uM):Prop:=∀(i:Nat) (d:D),δ[i]?=some (some d)->∃v,σ[i]?=some (some v)/\rh K H d v
def ym.mono{K:pY}{H H':Hp}{σ:St}{δ:uM}(e:qF K H H')(h:ym K H σ δ):ym K H' σ δ:=λi d q=>by obtain⟨v,e1,e2⟩:=h i d q;exact⟨v,e1,e2.mono e⟩
def ym.set{K:pY}{H:Hp}{σ:St}{δ:uM}{i:Nat}{d:D}{v:V}(h:ym K H σ δ)(hv:rh K H d v)(hi:i<σ.length):ym K H (σ.set i (some v)) (δ.set i (some d)):=λj e q=>by
 by_cases hj:j=i
 .subst hj;rw[eJ hi];by_cases hl:j<δ.length
  .rw[eJ hl]at q;cases q;exact⟨v,rfl,hv⟩
  .rw[gw (by simpa using hl)]at q;cases q
 .rw[eP (dJ hj)]at q ⊢;exact h j e q
def lo(K:pY)(t:T3):TE:=λσ H Q'=>CN λδ M Q=>ym K H σ δ/\HM K H M/\t δ M Q/\∀v H' d M',rh K H' d v->HM K H' M'->qF K H H'->Q d M'->Q' v H'
def Sr(K:pY)(t:Ac):TT:=λσ H Q'=>CN λδ M Q=>ym K H σ δ/\HM K H M/\t δ M Q/\∀b H' M',HM K H' M'->qF K H H'->Q b M'->Q' b H'
def VH(K:pY)(t:wW):TA:=λσ H Q'=>CN λδ M Q=>ym K H σ δ/\HM K H M/\t δ M Q/\∀vs H' ds M',pV K H' ds vs->HM K H' M'->qF K H H'->Q ds M'->Q' vs H'
def US(K:pY)(t:wV):TS:=λD' σ H=>CN λδ M D=>ym K H σ δ/\HM K H M/\t D δ M/\(∀σ' H' δ' M',ym K H' σ' δ'->HM K H' M'->qF K H H'->σ'.length=σ.length->D.nx δ' M'->D'.nx σ' H')/\
 (∀v H' d M',rh K H' d v->HM K H' M'->qF K H H'->D.rt d M'->D'.rt v H')/\(∀σ' H' δ' M',ym K H' σ' δ'->HM K H' M'->qF K H H'->σ'.length=σ.length->D.bk δ' M'->D'.bk σ' H')/\
 (∀σ' H' δ' M',ym K H' σ' δ'->HM K H' M'->qF K H H'->σ'.length=σ.length->D.ct δ' M'->D'.ct σ' H')
def E3(X:Cx)(e:Expr)(t:T3):Prop:=PE X e (lo X.K t)
def B3(X:Cx)(e:Expr)(t:Ac):Prop:=PT X e (Sr X.K t)
def A3(X:Cx)(es:List Expr)(t:wW):Prop:=PA X es (VH X.K t)
def S3(X:Cx)(st:Stmt)(t:wV):Prop:=PS X st (US X.K t)
def Hv(X:Cx)(st:List Stmt)(t:wV):Prop:=Be X st (US X.K t)
def PE.mono{X:Cx}{e:Expr}{t t':TE}(h:PE X e t)(m:∀σ H Q,t' σ H Q->t σ H Q):PE X e t':=λWk s σ H Q I q=>h Wk s σ H Q I (m σ H Q q)
def PT.mono{X:Cx}{e:Expr}{t t':TT}(h:PT X e t)(m:∀σ H Q,t' σ H Q->t σ H Q):PT X e t':=λWk s σ H Q I q=>h Wk s σ H Q I (m σ H Q q)
def PA.mono{X:Cx}{e:List Expr}{t t':TA}(h:PA X e t)(m:∀σ H Q,t' σ H Q->t σ H Q):PA X e t':=λpos Wk s σ H Q I q=>h pos Wk s σ H Q I (m σ H Q q)
def PS.mono{X:Cx}{e:Stmt}{t t':TS}(h:PS X e t)(m:∀D σ H,t' D σ H->t D σ H):PS X e t':=λWk s σ H D I q=>h Wk s σ H D I (m D σ H q)
def Be.mono{X:Cx}{e:List Stmt}{t t':TS}(h:Be X e t)(m:∀D σ H,t' D σ H->t D σ H):Be X e t':=λWk s σ H D I q=>h Wk s σ H D I (m D σ H q)
def PS.nE{X:Cx}{e:Stmt}{t t':TS}(h:PS X e t)(m:∀D σ H,σ.length=X.N.length->t' D σ H->t D σ H):PS X e t':=λWk s σ H D I q=>h Wk s σ H D I (m D σ H I.len q)
def vq{K:pY}{H H1:Hp}{Q':VK}{Q:DK}(x:qF K H H1)(f:∀v H' d M',rh K H' d v->HM K H' M'->qF K H H'->Q d M'->Q' v H'):∀v H' d M',rh K H' d v->HM K H' M'->qF K H1 H'->Q d M'->Q' v H':=
 λv H' d M' a b c e=>f v H' d M' a b (x.trans c) e
variable {X:Cx}{pos:Pos}
def v3(i:Nat):T3:=λδ M Q=>(δ.getD i none).elim False λd=>Q d M
def JJ{δ:uM}{i:Nat}{P:D->Prop}(h:(δ.getD i none).elim False P):∃d,δ[i]?=some (some d)/\P d:=by
 cases e:δ[i]? with
 | none=>rw[gy,e]at h;exact h.elim
 | some o=>
  rw[gy,e]at h;cases o with
  | none=>exact h.elim
  | some d=>exact⟨d,rfl,h⟩
def Rg(i:Nat){x:Str}(h:PE X (.Name x pos) (E1 i)):E3 X (.Name x pos) (v3 i):=PE.mono h λσ H Q' zz=>x7 zz λδ M Q hs hm ht k=>by obtain⟨d,e,q⟩:=JJ ht;obtain⟨v,e1,e2⟩:=hs i d e;exact⟨v,e1,k v H d M e2 hm .refl q⟩
def c3(d:D):T3:=λ_ M Q=>Q d M
def oU{i j}:E3 X (.Constant (.int i) j pos) (c3 (.int i)):=PE.mono Q3 λσ H Q' zz=>x7 zz λδ M Q hs hm ht k=>k _ H _ M .int hm .refl ht
def yd{i j}:E3 X (.Constant (.bool i) j pos) (c3 (.bl i)):=PE.mono TH λσ H Q' zz=>x7 zz λδ M Q hs hm ht k=>k _ H _ M .bl hm .refl ht
def oV{i j}:E3 X (.Constant (.str i) j pos) (c3 (.str i)):=PE.mono QC λσ H Q' zz=>x7 zz λδ M Q hs hm ht k=>k _ H _ M .str hm .refl ht
def rF{j}:E3 X (.Constant .none j pos) (c3 .mC):=PE.mono Rm λσ H Q' zz=>x7 zz λδ M Q hs hm ht k=>k _ H _ M .mC hm .refl ht
def TN{x:Str}{n:String}(hg:Gl X x)(hm:X.mg x=none)(hv:bootBuiltins x=some (.type n))(hn:x≠"__name__":=by decide)(hd:yk x:=by decide):E3 X (.Name x pos) (c3 (.ty n)):=
 PE.mono (Ou (v:=.ty n) hg hm hv rfl hn hd) λσ H Q' zz=>x7 zz λδ M Q hs hm ht k=>k _ H _ M (by unfold rh;rfl) hm .refl ht
def oy(M:Mp)(a:Addr):Option (List D):=match M a with
 | some (.lst ds)=>some ds
 | _=>none
def yt(x:Str)(n:Int):Str:=⟨(List.replicate n.toNat x.cps).foldl (·++·) #[]⟩
def Uw(op:Operator)(x y:D)(M:Mp)(Q:DK):Prop:=match op,x,y with
 | .Add,.int i,.int j=>Q (.int (i+j)) M
 | .Add,.str i,.str j=>i.length+j.length<=sizeLine/\Q (.str (i++j)) M
 | .Add,.tup i,.tup j=>i≠[]/\i.length+j.length<=sizeLine/\Q (.tup (i++j)) M
 | .Add,.ref a,.ref b=>(oy M a).elim False λi=>(oy M b).elim False λj=>i.length+j.length<=sizeLine/\∀p,M p=none->Q (.ref p) (oZ M p (.lst (i++j)))
 | .Add,.rl i,.ref b=>(oy M b).elim False λj=>i.length+j.length<=sizeLine/\∀p,M p=none->Q (.ref p) (oZ M p (.lst (i++j)))
 | .Sub,.int i,.int j=>Q (.int (i - j)) M
 | .Mult,.int i,.int j=>Cv i j/\Q (.int (i*j)) M
 | .Mult,.str i,.int j=>(j<4096/\-4096<j/\i.length<4096)/\Q (.str (yt i j)) M
 | .FloorDiv,.int i,.int j=>SX i j/\Q (.int (i / j)) M
 | .Mod,.int i,.int j=>0<j/\Q (.int (i % j)) M
 | _,_,_=>False
def o3(op:Operator)(ta tb:T3):T3:=λδ M Q=>ta δ M λx M1=>tb δ M1 λy M2=>Uw op x y M2 Q
def Up(K:pY)(H:Hp)(Q':VK)(Q:DK):Prop:=∀v H' d M',rh K H' d v->HM K H' M'->qF K H H'->Q d M'->Q' v H'
variable {ta tb:T3}
section
def qa{K:pY}{H:Hp}{M:Mp}{a:Addr}{ds:List D}(hm:HM K H M)(h:oy M a=some ds):∃xs,yJ K H a xs/\pV K H ds xs/\Rd H a (.lst xs):=by
 unfold oy at h;cases e:M a with
 | none=>rw[e]at h;cases h
 | some c=>
  rw[e]at h;have ok:=hm a c e;cases c with
  | lst es=>cases h;obtain⟨xs,e1,e2⟩:=ok;exact⟨xs,.inl (.inl e1),e2,.inl e1⟩
  | ins _ _=>cases h
  | dk _=>cases h
  | exc _=>cases h
def qI{α:Type}{o:Option α}{P:α->Prop}(h:o.elim False P):∃a,o=some a/\P a:=by
 cases o with
 | none=>exact h.elim
 | some a=>exact⟨a,rfl,h⟩
def IV:wY X (binaryOp .Add) (λx y H Q=>∃l b xs zs,x=.ref l/\y=.ref b/\yJ X.K H l xs/\yJ X.K H b zs/\xs.length+zs.length<=sizeLine/\∀p,H p=none->Q (.ref p) (upd H p (.lst (xs++zs)))):=by
 intro Wk s σ H x y v u Q I rx ry h;obtain⟨l,b,xs,zs,rfl,rfl,hH,hB,hz,q⟩:=h;cases rx;cases ry;obtain⟨its,r,⟨⟨c1,d1,t1,sl1⟩,n,g1,e1,_,f1⟩,_⟩:=I.list hH;obtain⟨Yi,r2,⟨⟨c2,d2,t2,sl2⟩,m,g2,e2,_,f2⟩,_⟩:=I.list hB;simp only at e1 f1 e2 f2;subst e1 f1 e2 f2;have hl:=r.length;have hl2:=r2.length;refine kG ⟨_,g1,rfl⟩ ⟨_,g2,rfl⟩ noFill_list_add seq_list_add PySem.F.slot_list_add PySem.F.entry_list_add (PySem.F.args_list_add_2 _ _) (list_addW l b its.toArray Yi.toArray n m d1 d2 sl1 sl2 (by rw[dq,dq];omega)) ⟨g1,g2,?_⟩;have ea:its.toArray++Yi.toArray=(its++Yi).toArray:=by simp
 rw[ea];exact⟨.ref _,_,I.oC (t':=s.toks) (r.append r2) (by rw[cX];omega),rfl,q _ I.fresh⟩
def Iy(x:Array Nat):∀k,((List.replicate k x).foldl (·++·) #[]:Array Nat).size=k*x.size:=by
 have go:∀(k:Nat) (acc:Array Nat),((List.replicate k x).foldl (·++·) acc).size=acc.size+k*x.size:=by
  intro k;induction k with
  | zero=>intro acc;simp
  | succ k ih=>intro acc;rw[eF,fT,ih,Array.size_append,l0];omega
 intro k;rw[go];simp
def OD:wY X (binaryOp .Mult) (λx y H Q=>∃i j,x=.str i/\y=.int j/\(j<4096/\-4096<j/\i.length<4096)/\Q (.str (yt i j)) H):=by
 intro Wk s σ H x y v u Q I rx ry h;obtain⟨i,j,rfl,rfl,⟨h1,h2,h3⟩,q⟩:=h;obtain⟨t,rfl⟩:=rx;obtain⟨t',rfl⟩:=ry;refine PySem.P.mul_str ?_ ?_ ?_ ?_
 .rw[eO (by omega),eO (by omega)];rfl
 .intro h0 _;have:(4096:Int)<=(2 ^ 63 - 1) / j:=by
   have:(4096:Int)*j<=2 ^ 63 - 1:=by omega
   exact(Int.le_ediv_iff_mul_le (by omega)).mpr this
  omega
 .intro h0 _;have hm:i.length*j.toNat<=4096*4096:=jY (by omega) (by omega);have hz:=dM;unfold Builtin.Str.tooLong;exact eO (by omega)
 .by_cases h0:j<1
  .rw[c9 h0];have e:yt i j=Str.empty:=by unfold yt;rw[show j.toNat=0 by omega];rfl
   rw[e]at q;exact⟨by decide,⟨.str Str.empty,H,I.tok _,⟨_,rfl⟩,q⟩⟩
  .rw[cY h0];by_cases hj:(j==1||i.length==0)=true
   .rw[c9 hj];have e:yt i j=i:=by
     have hj':j=1\/i.length=0:=by simpa using hj
     unfold yt;rcases hj' with z|z
     .subst z;show(⟨#[]++i.cps⟩:Str)=i;simp
     .have ec:i.cps=#[]:=Array.size_eq_zero_iff.mp z;have er:∀k:Nat,((List.replicate k (#[]:Array Nat)).foldl (·++·) #[]:Array Nat)=#[]:=by
       intro k;induction k with
       | zero=>rfl
       | succ k ih=>rw[eF,fT];simpa using ih
      rw[ec,er,<-ec]
    rw[e]at q;exact⟨.str i,H,I,⟨t,rfl⟩,q⟩
   .rw[cY hj];refine⟨?_,⟨.str _,H,I.tok _,⟨_,rfl⟩,q⟩⟩;have hz:=dM;have hm:j.toNat*i.length<=4096*4096:=jY (by omega) (by omega);show((List.replicate j.toNat i.cps).foldl (·++·) #[]:Array Nat).size<=_;rw[Iy];have XO:j.toNat*i.cps.size<=4096*4096:=hm;omega
def R3(K:pY)(f:D->D->Mp->DK->Prop):R2:=λvx vy H Q'=>AU λx y M Q=>rh K H x vx/\rh K H y vy/\HM K H M/\f x y M Q/\Up K H Q' Q
def V7(op:Operator):wY X (binaryOp op) (R3 X.K (Uw op)):=by
 intro Wk s σ H vx vy v u Q' I rx ry h;obtain⟨x,y,M,Q,hx,hy,hm,q,k⟩:=h;unfold Uw at q;split at q
 .cases hx.int_inv;cases hy.int_inv;exact Qz Wk s σ H _ _ v u Q' I rx ry ⟨_,_,rfl,rfl,k _ _ _ _ .int hm .refl q⟩
 .cases hx.str_inv;cases hy.str_inv;exact Hn Wk s σ H _ _ v u Q' I rx ry ⟨_,_,rfl,rfl,q.1,k _ _ _ _ .str hm .refl q.2⟩
 .rename_i i j;obtain⟨q1,q2,q3⟩:=q;obtain⟨a,xs,rfl,ha,XX⟩:=hx.mE;obtain⟨b,ys,rfl,hb,Xc⟩:=hy.mE;have l1:=XX.length;have l2:=Xc.length;refine OP Wk s σ H _ _ v u Q' I rx ry ⟨a,b,xs,ys,rfl,rfl,ha,hb,λz=>q1 (by rw[z]at l1;exact fL.mp l1),by omega,λz=>?_,λz p hp=>?_⟩
  .refine k _ _ _ _ (.tup ha ?_) hm .refl q3;rw[z]at Xc;have e0:j=[]:=fL.mp (by simpa using Xc.length);rw[e0,eY];exact XX
  .have e:qF X.K H (upd H p (.tup (xs++ys))):=.new hp;exact k _ _ _ _ (.tup (.of pS) ((XX.append Xc).mono e)) (hm.add hp) e q3
 .obtain⟨i,ei,q⟩:=qI q;obtain⟨j,ej,q1,q2⟩:=qI q;cases hx.mw;cases hy.mw;obtain⟨xs,rx',Zl,_⟩:=qa hm ei;obtain⟨ys,ry',hys,_⟩:=qa hm ej;have l1:=Zl.length;have l2:=hys.length;refine IV Wk s σ H _ _ v u Q' I rx ry ⟨_,_,xs,ys,rfl,rfl,rx',ry',by omega,λp hp=>?_⟩;have e:qF X.K H (upd H p (.lst (xs++ys))):=.new hp;exact k _ _ _ _ .ref (hm.new (c:=.lst (i++j)) hp ⟨_,pS,(Zl.append hys).mono e⟩) e (q2 p (hm.fresh hp))
 .obtain⟨j,ej,q1,q2⟩:=qI q;obtain⟨l,xs,rfl,rx',Zl⟩:=hx.mP;cases hy.mw;obtain⟨ys,ry',hys,_⟩:=qa hm ej;have l1:=Zl.length;have l2:=hys.length;refine IV Wk s σ H _ _ v u Q' I rx ry ⟨_,_,xs,ys,rfl,rfl,rx'.sq,ry',by omega,λp hp=>?_⟩;have e:qF X.K H (upd H p (.lst (xs++ys))):=.new hp;exact k _ _ _ _ .ref (hm.new (c:=.lst (_++j)) hp ⟨_,pS,(Zl.append hys).mono e⟩) e (q2 p (hm.fresh hp))
 .cases hx.int_inv;cases hy.int_inv;exact QQ Wk s σ H _ _ v u Q' I rx ry ⟨_,_,rfl,rfl,k _ _ _ _ .int hm .refl q⟩
 .cases hx.int_inv;cases hy.int_inv;exact Rz Wk s σ H _ _ v u Q' I rx ry ⟨_,_,rfl,rfl,q.1,k _ _ _ _ .int hm .refl q.2⟩
 .cases hx.str_inv;cases hy.int_inv;exact OD Wk s σ H _ _ v u Q' I rx ry ⟨_,_,rfl,rfl,q.1,k _ _ _ _ .str hm .refl q.2⟩
 .cases hx.int_inv;cases hy.int_inv;exact Po Wk s σ H _ _ v u Q' I rx ry ⟨_,_,rfl,rfl,q.1,k _ _ _ _ .int hm .refl q.2⟩
 .cases hx.int_inv;cases hy.int_inv;exact Rf Wk s σ H _ _ v u Q' I rx ry ⟨_,_,rfl,rfl,q.1,k _ _ _ _ .int hm .refl q.2⟩
 .exact q.elim
variable {a b:Expr}
def Ho{f:D->D->Mp->DK->Prop}:∀σ H Q',lo X.K (λδ M Q=>ta δ M λx M1=>tb δ M1 λy M2=>f x y M2 Q) σ H Q'->Tq (R3 X.K f) (lo X.K ta) (lo X.K tb) σ H Q':=λσ H Q' zz=>x7 zz λδ M Q hs hm ht k=>⟨δ,M,_,hs,hm,ht,λv H1 x M1 hx Wm e1 q1=>⟨δ,M1,_,hs.mono e1,Wm,q1,λu H2 y M2 hy WB e2 q2=>⟨x,y,M2,Q,hx.mono e2,hy,WB,q2,vq (e1.trans e2) k⟩⟩⟩
def pM{op:Operator}(ha:E3 X a ta)(hb:E3 X b tb):E3 X (.BinOp a op b pos) (o3 op ta tb):=PE.mono (P0 (V7 op) ha hb) Ho
end
def rY(f:D->D->Option Bool):List D->List D->Option Bool
 | x::a,y::b=>(f x y).bind λp=>(rY f a b).map λq=>p&&q
 | _,_=>some true
def yI(M:Mp):Nat->D->D->Option Bool
 | 0,_,_=>none
 | n+1,x,y=>match x,y with
  | .mC,.mC=>some true
  | .bl a,.bl b=>some (a==b)
  | .int a,.int b=>some (a==b)
  | .str a,.str b=>some (a==b)
  | .mC,.bl _=>some false
  | .mC,.int _=>some false
  | .mC,.str _=>some false
  | .bl _,.mC=>some false
  | .bl _,.str _=>some false
  | .int _,.mC=>some false
  | .int _,.str _=>some false
  | .str _,.mC=>some false
  | .str _,.bl _=>some false
  | .str _,.int _=>some false
  | .tup a,.tup b=>(rY (yI M n) a b).map λp=>p&&a.length==b.length
  | .ref a,.ref b=>(oy M a).bind λi=>(oy M b).bind λj=>if i.length=j.length then rY (yI M n) i j else some false
  | _,_=>none
variable {Wk:List (Addr × Obj)}{σ:St}{s:Sd}
theorem yw{f:D->D->Option Bool}:∀{ds es:List D} {xs:List V} {b:Bool},pV X.K H ds xs->pV X.K H es xs->(∀x y v b,rh X.K H x v->rh X.K H y v->f x y=some b->b=true)->rY f ds es=some b->b=true
 | [],[],_,_,_,_,_,e=>(dh e).symm
 | [],_::_,_,_,h,g,_,_=>by have h1:=h.length;have h2:=g.length;rw[<-h1]at h2;simp at h2
 | _::_,[],_,_,h,g,_,_=>by have h1:=h.length;have h2:=g.length;rw[<-h1]at h2;simp at h2
 | d::ds,e::es,xs,b,h,g,k,q=>by
  obtain⟨x,r,rfl,h1,h2⟩:=h.inv;obtain⟨x',r',e',g1,g2⟩:=g.inv;cases e';unfold rY at q;cases p1:f d e with
  | none=>rw[p1]at q;cases q
  | some b1=>
   rw[p1]at q;cases p2:rY f ds es with
   | none=>rw[p2]at q;cases q
   | some b2=>rw[p2]at q;have q':(b1&&b2)=b:=dh q;rw[<-q',k _ _ _ _ h1 g1 p1,yw h2 g2 k p2];rfl
theorem zj(I:Inv X Wk σ H s)(hm:HM X.K H M):∀(n:Nat) (x y:D) (v:V) (b:Bool),rh X.K H x v->rh X.K H y v->yI M n x y=some b->b=true
 | 0,_,_,_,_,_,_,e=>by cases e
 | n+1,x,y,v,b,hx,hy,e=>by
  unfold yI at e;split at e
  .exact(dh e).symm
  .rw[hx.mB]at hy;cases hy.mB;exact(dh e).symm.trans (by simp)
  .rw[hx.int_inv]at hy;cases hy.int_inv;exact(dh e).symm.trans (by simp)
  .rw[hx.str_inv]at hy;cases hy.str_inv;exact(dh e).symm.trans (by simp)
  .rw[hx.mz]at hy;cases hy.mB
  .rw[hx.mz]at hy;cases hy.int_inv
  .rw[hx.mz]at hy;cases hy.str_inv
  .rw[hx.mB]at hy;cases hy.mz
  .rw[hx.mB]at hy;cases hy.str_inv
  .rw[hx.int_inv]at hy;cases hy.mz
  .rw[hx.int_inv]at hy;cases hy.str_inv
  .rw[hx.str_inv]at hy;cases hy.mz
  .rw[hx.str_inv]at hy;cases hy.mB
  .rw[hx.str_inv]at hy;cases hy.int_inv
  .obtain⟨a,xs,rfl,h1,h2⟩:=hx.mE;obtain⟨a',ys,e',g1,g2⟩:=hy.mE;cases e';rw[I.mV g1 h1]at g2;cases p:rY (yI M n) _ _ with
   | none=>rw[p]at e;cases e
   | some b1=>rw[p]at e;have e':=dh e;rw[<-e',yw h2 g2 (zj I hm n) p,h2.length,g2.length];simp
  .rw[hx.mw]at hy;cases hy.mw;cases p:oy M _ with
   | none=>rw[p]at e;cases e
   | some i=>rw[p]at e;have e:(if i.length=i.length then rY (yI M n) i i else some false)=some b:=e;rw[c9 rfl]at e;obtain⟨xs,_,h2,_⟩:=qa hm p;exact yw h2 h2 (zj I hm n) e
  .cases e
theorem Bo{f:D->D->Option Bool}{A:Ar}:∀{ds es:List D} {xs ys:List V} {us ws:List Vl} {b:Bool},rY f ds es=some b->pV X.K H ds xs->pV X.K H es ys->qo xs us->qo ys ws->
  (∀x y b vx vy u w,f x y=some b->rh X.K H x vx->rh X.K H y vy->qy vx u->qy vy w->SeqAt.EqAt A s u w b)->
  ∃e:Nat->Bool,(∀j (h1:j<us.length) (h2:j<ws.length),SeqAt.EqAt A s us[j] ws[j] (e j))/\(List.range (min us.length ws.length)).all e=b
 | [],es,xs,ys,us,ws,b,q,hx,hy,rx,ry,k=>by
  have e1:=hx.nil_inv;subst e1;cases rx;refine⟨λ_=>true,λj h1=>absurd h1 (by simp),?_⟩;have q':some true=some b:=by cases es<;>exact q
  simpa using(dh q')
 | d::ds,[],xs,ys,us,ws,b,q,hx,hy,rx,ry,k=>by
  have e1:=hy.nil_inv;subst e1;cases ry;refine⟨λ_=>true,λj _ h2=>absurd h2 (by simp),?_⟩;have q':some true=some b:=q
  simpa using(dh q')
 | d::ds,e::es,xs,ys,us,ws,b,q,hx,hy,rx,ry,k=>by
  obtain⟨x,r,rfl,h1,h2⟩:=hx.inv;obtain⟨y,r',rfl,g1,g2⟩:=hy.inv;cases rx with
  | cons r1 r2=>
   cases ry with
   | cons t1 t2=>
    unfold rY at q;cases p1:f d e with
    | none=>rw[p1]at q;cases q
    | some b1=>
     rw[p1]at q;cases p2:rY f ds es with
     | none=>rw[p2]at q;cases q
     | some b2=>
      rw[p2]at q;have q':(b1&&b2)=b:=dh q;obtain⟨e',he,ha⟩:=Bo p2 h2 g2 r2 t2 k;refine⟨λj=>match j with|0=>b1|j+1=>e' j,λj l1 l2=>?_,?_⟩
      .cases j with
       | zero=>exact k _ _ _ _ _ _ _ p1 h1 g1 r1 t1
       | succ j=>exact he j (by simpa using l1) (by simpa using l2)
      .rw[<-q',<-ha];simp only[d6];rw[Nat.succ_min_succ,List.range_succ_eq_map,ft,l8];rfl
theorem E7(I:Inv X Wk σ H s)(hm:HM X.K H M):∀(n:Nat) (A:Ar) (x y:D) (b:Bool) (vx vy:V) (u w:Vl),A.units+n<cLine->yI M n x y=some b->rh X.K H x vx->rh X.K H y vy->qy vx u->qy vy w->
  SeqAt.RcAt A s u w b/\SeqAt.EqAt A s u w b/\SeqAt.RcNeAt A s u w (!b)
 | 0,_,_,_,_,_,_,_,_,_,e,_,_,_,_=>by cases e
 | n+1,A,x,y,b,vx,vy,u,w,hu,e,hx,hy,rx,ry=>by
  have hu1:A.units<cLine:=by omega
  have hui:A.in1.units+n<cLine:=by show A.units+1+n<cLine;omega
  unfold yI at e;split at e
  .cases hx.mz;cases hy.mz;cases rx;cases ry;cases e;exact⟨.none_none,.same _,.none_none⟩
  .cases hx.mB;cases hy.mB;cases rx;cases ry;cases e;exact⟨.bool_bool _ _,.bool_bool _ _,.bool_bool _ _⟩
  .cases hx.int_inv;cases hy.int_inv;obtain⟨t,rfl⟩:=rx;obtain⟨t',rfl⟩:=ry;cases e;exact⟨.int_int _ _ _ _,.int_int _ _ _ _,.int_int _ _ _ _⟩
  .cases hx.str_inv;cases hy.str_inv;obtain⟨t,rfl⟩:=rx;obtain⟨t',rfl⟩:=ry;cases e;exact⟨.str_str _ _ _ _,.str_str _ _ _ _,.str_str _ _ _ _⟩
  .cases hx.mz;cases hy.mB;cases rx;cases ry;cases e;exact⟨.none_bool _,.none_bool _,.none_bool _⟩
  .cases hx.mz;cases hy.int_inv;cases rx;obtain⟨t',rfl⟩:=ry;cases e;exact⟨.none_int _ _,.none_int _ _,.none_int _ _⟩
  .cases hx.mz;cases hy.str_inv;cases rx;obtain⟨t',rfl⟩:=ry;cases e;exact⟨.none_str _ _,.none_str _ _,.none_str _ _⟩
  .cases hx.mB;cases hy.mz;cases rx;cases ry;cases e;exact⟨.bool_none _,.bool_none _,.bool_none _⟩
  .cases hx.mB;cases hy.str_inv;cases rx;obtain⟨t',rfl⟩:=ry;cases e;exact⟨.bool_str _ _ _,.bool_str _ _ _,.bool_str _ _ _⟩
  .cases hx.int_inv;cases hy.mz;obtain⟨t,rfl⟩:=rx;cases ry;cases e;exact⟨.int_none _ _,.int_none _ _,.int_none _ _⟩
  .cases hx.int_inv;cases hy.str_inv;obtain⟨t,rfl⟩:=rx;obtain⟨t',rfl⟩:=ry;cases e;exact⟨.int_str _ _ _ _,.int_str _ _ _ _,.int_str _ _ _ _⟩
  .cases hx.str_inv;cases hy.mz;obtain⟨t,rfl⟩:=rx;cases ry;cases e;exact⟨.str_none _ _,.str_none _ _,.str_none _ _⟩
  .cases hx.str_inv;cases hy.mB;obtain⟨t,rfl⟩:=rx;cases ry;cases e;exact⟨.str_bool _ _ _,.str_bool _ _ _,.str_bool _ _ _⟩
  .cases hx.str_inv;cases hy.int_inv;obtain⟨t,rfl⟩:=rx;obtain⟨t',rfl⟩:=ry;cases e;exact⟨.str_int _ _ _ _,.str_int _ _ _ _,.str_int _ _ _ _⟩
  .rename_i da db;obtain⟨a1,xs,rfl,h1,h2⟩:=hx.mE;obtain⟨a2,ys,rfl,g1,g2⟩:=hy.mE;cases rx;cases ry;obtain⟨us,r1,p1,_⟩:=I.tuple h1;obtain⟨ws,r2,p2,_⟩:=I.tuple g1;cases p:rY (yI M n) da db with
   | none=>rw[p]at e;cases e
   | some b1=>
    have e0:=e;rw[p]at e;have e':(b1&&da.length==db.length)=b:=dh e;obtain⟨f,hf,ha⟩:=Bo (A:=A.in1) (s:=s) p h2 g2 r1 r2 λx y b vx vy u w q1 q2 q3 q4 q5=>(E7 I hm n A.in1 x y b vx vy u w hui q1 q2 q3 q4 q5).2.1;have hb:((List.range (min us.toArray.size ws.toArray.size)).all f&&us.toArray.size==ws.toArray.size)=b:=by rw[dq,dq,ha,<-e',<-r1.length,<-r2.length,h2.length,g2.length]
    have hf':∀j (l1:j<us.toArray.size) (l2:j<ws.toArray.size),SeqAt.EqAt A.in1 s us.toArray[j] ws.toArray[j] (f j):=λj l1 l2=>by simpa using hf j (by simpa using l1) (by simpa using l2)
    have c1:SeqAt.RcAt A s (.ref a1) (.ref a2) b:=by rw[<-hb];exact .tuples p1 p2 hu1 hf'
    have c3:SeqAt.RcNeAt A s (.ref a1) (.ref a2) (!b):=by have:=SeqAt.RcNeAt.tuples p1 p2 hu1 hf';rw[hb]at this;exact this
    refine⟨c1,?_,c3⟩;by_cases ea:a1=a2
    .subst ea;have:b=true:=zj I hm (n+1) (.tup da) (.tup db) (.ref a1) b hx hy (by unfold yI;exact e0);rw[this];exact .same _
    .exact .of_refs ea c1
  .cases hx.mw;cases hy.mw;cases rx;cases ry;rename_i a1 a2;have e0:=e;cases p:oy M a1 with
   | none=>rw[p]at e;cases e
   | some i=>
    cases p':oy M a2 with
    | none=>rw[p,p']at e;cases e
    | some j=>
     rw[p,p']at e;have e:(if i.length=j.length then rY (yI M n) i j else some false)=some b:=e;obtain⟨xs,q1,h2,_⟩:=qa hm p;obtain⟨ys,q2,g2,_⟩:=qa hm p';obtain⟨us,r1,p1,_⟩:=I.list q1;obtain⟨ws,r2,p2,_⟩:=I.list q2;have Wp:SeqAt.RcAt A s (.ref a1) (.ref a2) b/\SeqAt.RcNeAt A s (.ref a1) (.ref a2) (!b):=by
      by_cases hl:i.length=j.length
      .rw[c9 hl]at e;obtain⟨f,hf,ha⟩:=Bo (A:=A.in1) (s:=s) e h2 g2 r1 r2 λx y b vx vy u w q1 q2 q3 q4 q5=>(E7 I hm n A.in1 x y b vx vy u w hui q1 q2 q3 q4 q5).2.1;have hsz:us.toArray.size=ws.toArray.size:=by rw[dq,dq,<-r1.length,<-r2.length,<-h2.length,<-g2.length];exact hl
       have hf':∀j (l1:j<us.toArray.size) (l2:j<ws.toArray.size),SeqAt.EqAt A.in1 s us.toArray[j] ws.toArray[j] (f j):=λj l1 l2=>by simpa using hf j (by simpa using l1) (by simpa using l2)
       have hb:(List.range us.toArray.size).all f=b:=by rw[<-ha];rw[dq,dq]at hsz;rw[dq,<-hsz,Nat.min_self]
       rw[<-hb];exact⟨.lists p1.isList p2.isList hsz hu1 hf',.lists p1.isList p2.isList hsz hu1 hf'⟩
      .rw[cY hl]at e;cases e;have hsz:(us.toArray.size != ws.toArray.size)=true:=by
        rw[dq,dq,<-r1.length,<-r2.length,<-h2.length,<-g2.length]
        simpa using hl
       exact⟨.lists_lengths p1.isList p2.isList hsz hu1,.lists_lengths p1.isList p2.isList hsz hu1⟩
     refine⟨Wp.1,?_,Wp.2⟩;by_cases ea:a1=a2
     .subst ea;have:b=true:=zj I hm (n+1) (.ref a1) (.ref a1) (.ref a1) b .ref .ref (by unfold yI;exact e0);rw[this];exact .same _
     .exact .of_refs ea Wp.1
  .cases e
def uD:D->Bool
 | .mC=>true
 | .bl _=>true
 | .int _=>true
 | .str _=>true
 | _=>false
def PD:D->D->Bool
 | .mC,.mC=>true
 | .bl a,.bl b=>a==b
 | .bl a,.int b=>(if a then 1 else 0)==b
 | .int a,.bl b=>a==(if b then 1 else 0)
 | .int a,.int b=>a==b
 | .str a,.str b=>a==b
 | _,_=>false
def inD(x:D)(ds:List D):Bool:=ds.any λy=>PD y x
def MT(M:Mp):D->Option (List D)
 | .tup ds=>some ds
 | .ref a=>oy M a
 | .rl ds=>some ds
 | _=>none
def Ci(i j:Str):Bool:=!(Builtin.Str.occurrences j i 0 j.length 1).isEmpty
def Q4(XW:Bool)(x y:D)(M:Mp)(Q:DK):Prop:=match x,y with
 | .str i,.str j=>Q (.bl (if XW then !Ci i j else Ci i j)) M
 | _,_=>(MT M y).elim False λds=>uD x=true/\ds.all uD=true/\Q (.bl (if XW then !inD x ds else inD x ds)) M
def ND(op:CmpOp)(x y:D)(M:Mp)(Q:DK):Prop:=match op with
 | .Eq=>(yI M 9 x y).elim False λb=>Q (.bl b) M
 | .NotEq=>(yI M 9 x y).elim False λb=>Q (.bl (!b)) M
 | .Lt=>match x,y with|.int i,.int j=>Q (.bl (decide (i<j))) M|_,_=>False
 | .LtE=>match x,y with|.int i,.int j=>Q (.bl (decide (i<=j))) M|_,_=>False
 | .Gt=>match x,y with|.int i,.int j=>Q (.bl (decide (j<i))) M|_,_=>False
 | .GtE=>match x,y with|.int i,.int j=>Q (.bl (decide (j<=i))) M|_,_=>False
 | .Is=>match y with|.mC=>Q (.bl (match x with|.mC=>true|_=>false)) M|_=>False
 | .IsNot=>match y with|.mC=>Q (.bl (match x with|.mC=>false|_=>true)) M|_=>False
 | .In=>Q4 false x y M Q
 | .NotIn=>Q4 true x y M Q
def k3(op:CmpOp)(ta tb:T3):T3:=λδ M Q=>ta δ M λx M1=>tb δ M1 λy M2=>ND op x y M2 Q
def yW{d:D}{v:V}(h:rh K H d v)(f:uD d=true):yc v=true:=by
 cases d with
 | mC=>rw[h.mz];rfl
 | bl _=>rw[h.mB];rfl
 | int _=>rw[h.int_inv];rfl
 | str _=>rw[h.str_inv];rfl
 | _=>cases f
def HF{d e:D}{v w:V}(h:rh K H d v)(g:rh K H e w)(f:uD d=true)(f':uD e=true):Nk v w=PD d e:=by
 cases d with
 | mC=>
  rw[h.mz];cases e with
  | mC=>rw[g.mz];rfl
  | bl _=>rw[g.mB];rfl
  | int _=>rw[g.int_inv];rfl
  | str _=>rw[g.str_inv];rfl
  | _=>cases f'
 | bl _=>
  rw[h.mB];cases e with
  | mC=>rw[g.mz];rfl
  | bl _=>rw[g.mB];rfl
  | int _=>rw[g.int_inv];rfl
  | str _=>rw[g.str_inv];rfl
  | _=>cases f'
 | int _=>
  rw[h.int_inv];cases e with
  | mC=>rw[g.mz];rfl
  | bl _=>rw[g.mB];rfl
  | int _=>rw[g.int_inv];rfl
  | str _=>rw[g.str_inv];rfl
  | _=>cases f'
 | str _=>
  rw[h.str_inv];cases e with
  | mC=>rw[g.mz];rfl
  | bl _=>rw[g.mB];rfl
  | int _=>rw[g.int_inv];rfl
  | str _=>rw[g.str_inv];rfl
  | _=>cases f'
 | _=>cases f
theorem DW:∀{ds:List D} {xs:List V},pV K H ds xs->ds.all uD=true->xs.all yc=true
 | [],_,h,_=>by rw[h.nil_inv];rfl
 | d::ds,_,h,f=>by obtain⟨x,r,rfl,h1,h2⟩:=h.inv;rw[ft,dU]at f ⊢;exact⟨yW h1 f.1,DW h2 f.2⟩
theorem Ml{e:D}{w:V}(g:rh K H e w)(f':uD e=true):∀{ds:List D} {xs:List V},pV K H ds xs->ds.all uD=true->inV w xs=inD e ds
 | [],_,h,_=>by rw[h.nil_inv];rfl
 | d::ds,_,h,f=>by obtain⟨x,r,rfl,h1,h2⟩:=h.inv;rw[ft,dU]at f;show(Nk x w||inV w r)=(PD d e||inD e ds);rw[HF h1 g f.1 f',Ml g f' h2 f.2]
def Fd(hm:HM K H M){y:D}{v:V}{ds:List D}(h:rh K H y v)(q:MT M y=some ds):∃p xs,v=.ref p/\(yJ K H p xs\/uK K H p xs)/\pV K H ds xs:=by
 cases y with
 | tup es=>cases q;obtain⟨a,xs,rfl,h1,h2⟩:=h.mE;exact⟨a,xs,rfl,.inr h1,h2⟩
 | ref a=>cases h.mw;obtain⟨xs,h1,h2,_⟩:=qa hm q;exact⟨a,xs,rfl,.inl h1,h2⟩
 | rl es=>cases q;obtain⟨a,xs,rfl,h1,h2⟩:=h.mP;exact⟨a,xs,rfl,.inl h1.sq,h2⟩
 | _=>cases q
variable {c:Expr}{tc:T3}
section
def Jg(op:CmpOp)(hu:X.A.units+9<cLine):wY X (compareOp op) (R3 X.K (ND op)):=by
 intro Wk s σ H vx vy v u Q' I rx ry h;obtain⟨x,y,M,Q,hx,hy,hm,q,k⟩:=h;have bk:∀b,Q (.bl b) M->EP X Wk σ Q' (.bool b) s:=λb q=>⟨.bl b,H,I,rfl,k _ _ _ _ .bl hm .refl q⟩;have inn:∀XW:Bool,((MT M y).elim False λds=>uD x=true/\ds.all uD=true/\Q (.bl (if XW then !inD x ds else inD x ds)) M)->Vo X.K XW vx vy H Q':=λXW q=>by obtain⟨ds,e,f1,f2,q⟩:=qI q;obtain⟨p,xs,rfl,h1,h2⟩:=Fd hm hy e;refine⟨p,xs,rfl,h1,yW hx f1,DW h2 f2,?_⟩;rw[Ml hx f1 h2 f2];exact k _ _ _ _ .bl hm .refl q
 cases op with
 | Eq=>obtain⟨b,e,q⟩:=qI q;exact(E7 I hm 9 X.A x y b vx vy v u hu e hx hy rx ry).1 _ _ _ _ (bk b q)
 | NotEq=>obtain⟨b,e,q⟩:=qI q;exact(E7 I hm 9 X.A x y b vx vy v u hu e hx hy rx ry).2.2 _ _ _ _ (bk _ q)
 | Lt=>
  cases x<;>first|exact q.elim|skip
  cases y<;>first|exact q.elim|skip
  cases hx.int_inv;cases hy.int_inv;exact Ud Wk s σ H _ _ v u Q' I rx ry ⟨_,_,rfl,rfl,k _ _ _ _ .bl hm .refl q⟩
 | LtE=>
  cases x<;>first|exact q.elim|skip
  cases y<;>first|exact q.elim|skip
  cases hx.int_inv;cases hy.int_inv;exact Tc Wk s σ H _ _ v u Q' I rx ry ⟨_,_,rfl,rfl,k _ _ _ _ .bl hm .refl q⟩
 | Gt=>
  cases x<;>first|exact q.elim|skip
  cases y<;>first|exact q.elim|skip
  cases hx.int_inv;cases hy.int_inv;exact TX Wk s σ H _ _ v u Q' I rx ry ⟨_,_,rfl,rfl,k _ _ _ _ .bl hm .refl q⟩
 | GtE=>
  cases x<;>first|exact q.elim|skip
  cases y<;>first|exact q.elim|skip
  cases hx.int_inv;cases hy.int_inv;exact TL Wk s σ H _ _ v u Q' I rx ry ⟨_,_,rfl,rfl,k _ _ _ _ .bl hm .refl q⟩
 | Is=>
  cases y<;>first|exact q.elim|skip
  cases hy.mz;refine Rl Wk s σ H _ _ v u Q' I rx ry ⟨rfl,k _ _ _ _ ?_ hm .refl q⟩;cases x with
  | mC=>rw[hx.mz];exact .bl
  | bl _=>rw[hx.mB];exact .bl
  | int _=>rw[hx.int_inv];exact .bl
  | str _=>rw[hx.str_inv];exact .bl
  | tup _=>obtain⟨a,xs,rfl,_⟩:=hx.mE;exact .bl
  | ref _=>rw[hx.mw];exact .bl
  | ty _=>rw[hx.nH];exact .bl
  | rl _=>obtain⟨a,xs,rfl,_⟩:=hx.mP;exact .bl
 | IsNot=>
  cases y<;>first|exact q.elim|skip
  cases hy.mz;refine OU Wk s σ H _ _ v u Q' I rx ry ⟨rfl,k _ _ _ _ ?_ hm .refl q⟩;cases x with
  | mC=>rw[hx.mz];exact .bl
  | bl _=>rw[hx.mB];exact .bl
  | int _=>rw[hx.int_inv];exact .bl
  | str _=>rw[hx.str_inv];exact .bl
  | tup _=>obtain⟨a,xs,rfl,_⟩:=hx.mE;exact .bl
  | ref _=>rw[hx.mw];exact .bl
  | ty _=>rw[hx.nH];exact .bl
  | rl _=>obtain⟨a,xs,rfl,_⟩:=hx.mP;exact .bl
 | In=>
  have q:Q4 false x y M Q:=q;unfold Q4 at q;split at q
  .cases hx.str_inv;cases hy.str_inv;exact J5 Wk s σ H _ _ v u Q' I rx ry ⟨_,_,rfl,rfl,k _ _ _ _ .bl hm .refl q⟩
  .exact J6 Wk s σ H _ _ v u Q' I rx ry (inn false q)
 | NotIn=>
  have q:Q4 true x y M Q:=q;unfold Q4 at q;split at q
  .cases hx.str_inv;cases hy.str_inv;exact DJ Wk s σ H _ _ v u Q' I rx ry ⟨_,_,rfl,rfl,k _ _ _ _ .bl hm .refl q⟩
  .exact EG Wk s σ H _ _ v u Q' I rx ry (inn true q)
variable {a b:Expr}
def pW{op:CmpOp}(hu:X.A.units+9<cLine)(ha:E3 X a ta)(hb:E3 X b tb)(hm:behindInMarks op b=false:=by first|exact G5 _|with_unfolding_all rfl):E3 X (.Compare a [op] [b] pos) (k3 op ta tb):=PE.mono (IY (Jg op hu) ha hb hm) Ho
def b3(t:T3):Ac:=λδ M Q=>t δ M λd M1=>match d with|.bl c=>Q c M1|_=>False
def uS{e:Expr}{t:T3}(h:E3 X e t)(he:∀WS,isTrue e X.env WS=(do let v<-WS;standAt e.pos;holding [v] (truthy v)):=by intro _;rfl):B3 X e (b3 t):=PT.mono (RT h he) λσ H Q' zz=>x7 zz λδ M Q hs hm ht k=>
 ⟨δ,M,_,hs,hm,ht,λv H1 d M1 hd Wm e1 q1=>by
  cases d with
  | bl c=>exact⟨c,hd.mB,k c H1 M1 Wm e1 q1⟩
  | _=>exact q1.elim⟩
def pb{op:CmpOp}(hu:X.A.units+9<cLine)(ha:E3 X a ta)(hb:E3 X b tb)(hm:behindInMarks op b=false:=by first|exact G5 _|with_unfolding_all rfl):B3 X (.Compare a [op] [b] pos) (b3 (k3 op ta tb)):=PT.mono (I0 (Jg op hu) ha hb hm) λσ H Q' zz=>x7 zz λδ M Q hs hm ht k=>
 Ho σ H _ ⟨δ,M,_,hs,hm,ht,λv H1 d M1 hd Wm e1 q1=>by
  cases d with
  | bl c=>exact⟨c,hd.mB,k c H1 M1 Wm e1 q1⟩
  | _=>exact q1.elim⟩
end
variable {tA tB:Ac}{rest:List Expr}
section
variable {a b:Expr}
def OE(t u:Ac):Ac:=λδ M Q=>t δ M λc M1=>if c=true then u δ M1 Q else Q false M1
def Wa(t u:Ac):Ac:=λδ M Q=>t δ M λc M1=>if c=true then Q true M1 else u δ M1 Q
def SC(t:Ac):Ac:=λδ M Q=>t δ M λc M1=>Q (!c) M1
def W3(X:Cx)(e:Expr)(t:Ac):Prop:=PW X e (Sr X.K t)
def PW.mono{X:Cx}{e:Expr}{t t':TT}(h:PW X e t)(m:∀σ H Q,t' σ H Q->t σ H Q):PW X e t':=λwh Wk s σ H Q I q=>h wh Wk s σ H Q I (m σ H Q q)
def W3.b3{e:Expr}{t:Ac}(h:W3 X e t):B3 X e t:=PW.pt h
def vj(h:B3 X a tA):W3 X (.BoolOp .And [a] pos) tA:=PM h
def wH(h:B3 X a tA):W3 X (.BoolOp .Or [a] pos) tA:=QD h
def vF(ha:B3 X a tA)(hb:W3 X (.BoolOp .And (b::rest) pos) tB):W3 X (.BoolOp .And (a::b::rest) pos) (OE tA tB):=PW.mono (RO ha hb) λσ H Q' zz=>x7 zz λδ M Q hs hm ht k=>
 ⟨δ,M,_,hs,hm,ht,λc H1 M1 Wm e1 q1=>by
  cases c with
  | true=>exact(c9 rfl).mpr ⟨δ,M1,Q,hs.mono e1,Wm,(c9 rfl).mp q1,λb H' M' x1 x2 x3=>k b H' M' x1 (e1.trans x2) x3⟩
  | false=>exact(cY dw).mpr (k false H1 M1 Wm e1 ((cY dw).mp q1))⟩
def xl(ha:B3 X a tA)(hb:W3 X (.BoolOp .Or (b::rest) pos) tB):W3 X (.BoolOp .Or (a::b::rest) pos) (Wa tA tB):=PW.mono (SL ha hb) λσ H Q' zz=>x7 zz λδ M Q hs hm ht k=>
 ⟨δ,M,_,hs,hm,ht,λc H1 M1 Wm e1 q1=>by
  cases c with
  | true=>exact(c9 rfl).mpr (k true H1 M1 Wm e1 ((c9 rfl).mp q1))
  | false=>exact(cY dw).mpr ⟨δ,M1,Q,hs.mono e1,Wm,(cY dw).mp q1,λb H' M' x1 x2 x3=>k b H' M' x1 (e1.trans x2) x3⟩⟩
def yz(ha:B3 X a tA):B3 X (.UnaryOp .Not a pos) (SC tA):=PT.mono (Q8 ha) λσ H Q' zz=>x7 zz λδ M Q hs hm ht k=>⟨δ,M,_,hs,hm,ht,λc H1 M1 Wm e1 q1=>k _ H1 M1 Wm e1 q1⟩
def Ub(ta tb:T3):T3:=λδ M Q=>ta δ M λd M1=>match d with|.bl c=>if c=true then tb δ M1 Q else Q (.bl false) M1|_=>False
def Vs(ta tb:T3):T3:=λδ M Q=>ta δ M λd M1=>match d with|.bl c=>if c=true then Q (.bl true) M1 else tb δ M1 Q|_=>False
def SJ(ta:T3):T3:=λδ M Q=>ta δ M λd M1=>match d with|.bl c=>Q (.bl (!c)) M1|_=>False
def sj{op}(h:E3 X a ta):E3 X (.BoolOp op [a] pos) ta:=RQ h
def sJ(ha:E3 X a ta)(hb:E3 X (.BoolOp .And (b::rest) pos) tb):E3 X (.BoolOp .And (a::b::rest) pos) (Ub ta tb):=PE.mono (RW ha hb) λσ H Q' zz=>x7 zz λδ M Q hs hm ht k=>
 ⟨δ,M,_,hs,hm,ht,λv H1 d M1 hd Wm e1 q1=>by
  cases d with
  | bl c=>
   refine⟨c,hd.mB,?_⟩;cases c with
   | true=>exact(c9 rfl).mpr ⟨δ,M1,Q,hs.mono e1,Wm,(c9 rfl).mp q1,vq e1 k⟩
   | false=>exact(cY dw).mpr (k _ H1 _ M1 .bl Wm e1 ((cY dw).mp q1))
  | _=>exact q1.elim⟩
def Ia(ha:E3 X a ta)(hb:E3 X (.BoolOp .Or (b::rest) pos) tb):E3 X (.BoolOp .Or (a::b::rest) pos) (Vs ta tb):=PE.mono (S5 ha hb) λσ H Q' zz=>x7 zz λδ M Q hs hm ht k=>
 ⟨δ,M,_,hs,hm,ht,λv H1 d M1 hd Wm e1 q1=>by
  cases d with
  | bl c=>
   refine⟨c,hd.mB,?_⟩;cases c with
   | true=>exact(c9 rfl).mpr (k _ H1 _ M1 .bl Wm e1 ((c9 rfl).mp q1))
   | false=>exact(cY dw).mpr ⟨δ,M1,Q,hs.mono e1,Wm,(cY dw).mp q1,vq e1 k⟩
  | _=>exact q1.elim⟩
def QW(ha:E3 X a ta):E3 X (.UnaryOp .Not a pos) (SJ ta):=PE.mono (Qy ha) λσ H Q' zz=>x7 zz λδ M Q hs hm ht k=>
 ⟨δ,M,_,hs,hm,ht,λv H1 d M1 hd Wm e1 q1=>by
  cases d with
  | bl c=>exact⟨c,hd.mB,k _ H1 _ M1 .bl Wm e1 q1⟩
  | _=>exact q1.elim⟩
def V5(t:Ac)(ta tb:T3):T3:=λδ M Q=>t δ M λc M1=>if c=true then ta δ M1 Q else tb δ M1 Q
def Qf(hc:B3 X c tA)(ha:E3 X a ta)(hb:E3 X b tb):E3 X (.IfExp c a b pos) (V5 tA ta tb):=PE.mono (Lh hc ha hb) λσ H Q' zz=>x7 zz λδ M Q hs hm ht k=>
 ⟨δ,M,_,hs,hm,ht,λc H1 M1 Wm e1 q1=>by
  cases c with
  | true=>exact(c9 rfl).mpr ⟨δ,M1,Q,hs.mono e1,Wm,(c9 rfl).mp q1,vq e1 k⟩
  | false=>exact(cY dw).mpr ⟨δ,M1,Q,hs.mono e1,Wm,(cY dw).mp q1,vq e1 k⟩⟩
def Vn(x y:D)(M:Mp)(Q:DK):Prop:=match x,y with
 | .tup ds,.int i=>(vY ds i).elim False λd=>Q d M
 | .ref a,.int i=>(oy M a).elim False λds=>(vY ds i).elim False λd=>Q d M
 | .rl ds,.int i=>(vY ds i).elim False λd=>Q d M
 | .str z,.int i=>z.length<=sizeLine/\(vY z.cps.toList i).elim False λc=>Q (.str ⟨#[c]⟩) M
 | _,_=>False
def i3(ta tb:T3):T3:=λδ M Q=>ta δ M λx M1=>tb δ M1 λy M2=>Vn x y M2 Q
def EM{K:pY}{H:Hp}{ds:List D}{xs:List V}{i:Int}{d:D}(h:pV K H ds xs)(e:vY ds i=some d):∃v,vY xs i=some v/\rh K H d v:=by
 unfold vY at e ⊢;rw[<-h.length];cases q:FL ds.length i with
 | none=>rw[q]at e;cases e
 | some j=>rw[q]at e;exact h.get e
def Wh:Sx X (R3 X.K Vn):=by
 intro value Wv Wk s σ H vx vy v u Q' I rx ry h hs;obtain⟨x,y,M,Q,hx,hy,hm,q,k⟩:=h;unfold Vn at q;split at q
 .obtain⟨d,e,q⟩:=qI q;obtain⟨p,xs,rfl,h1,h2⟩:=hx.mE;cases hy.int_inv;obtain⟨w,e1,e2⟩:=EM h2 e;exact QA value Wv Wk s σ H _ _ v u Q' I rx ry ⟨p,xs,_,w,rfl,rfl,h1,e1,k _ _ _ _ e2 hm .refl q⟩ hs
 .obtain⟨ds,e0,q⟩:=qI q;obtain⟨d,e,q⟩:=qI q;cases hx.mw;cases hy.int_inv;obtain⟨xs,h1,h2,_⟩:=qa hm e0;obtain⟨w,e1,e2⟩:=EM h2 e;exact HE value Wv Wk s σ H _ _ v u Q' I rx ry ⟨_,xs,_,w,rfl,rfl,h1,e1,k _ _ _ _ e2 hm .refl q⟩ hs
 .obtain⟨d,e,q⟩:=qI q;obtain⟨p,xs,rfl,h1,h2⟩:=hx.mP;cases hy.int_inv;obtain⟨w,e1,e2⟩:=EM h2 e;exact HE value Wv Wk s σ H _ _ v u Q' I rx ry ⟨p,xs,_,w,rfl,rfl,h1.sq,e1,k _ _ _ _ e2 hm .refl q⟩ hs
 .obtain⟨q1,q⟩:=q;obtain⟨c,e,q⟩:=qI q;cases hx.str_inv;cases hy.int_inv;exact Sh value Wv Wk s σ H _ _ v u Q' I rx ry ⟨_,_,c,rfl,rfl,q1,e,k _ _ _ _ .str hm .refl q⟩ hs
 .exact q.elim
def pz(ha:E3 X a ta)(hb:E3 X b tb)(hs:AZ b:=by exact λ_ _=>rfl):E3 X (.Subscript a b pos) (i3 ta tb):=PE.mono (Mh Wh ha hb hs) Ho
def tq(ds:List D)(lo hi:Option Int):List D:=(ds.drop (HT.sG ds.length 0 lo)).take (HT.sG ds.length ds.length hi - HT.sG ds.length 0 lo)
def ER{K:pY}{H:Hp}{ds:List D}{xs:List V}{l h:Option Int}(q:pV K H ds xs):pV K H (tq ds l h) (BU xs l h):=by unfold tq BU;rw[q.length];exact(q.drop _).take _
abbrev Sw:=uM->Mp->(Option Int->Mp->Prop)->Prop
def V6(K:pY)(t:Sw):TO:=λσ H Q'=>CN λδ M Q=>ym K H σ δ/\HM K H M/\t δ M Q/\∀o H' M',HM K H' M'->qF K H H'->Q o M'->Q' o H'
def O3(X:Cx)(e:Option Expr)(t:Sw):Prop:=PO X e (V6 X.K t)
def Nv:Sw:=λ_ M Q=>Q none M
def Uh(t:T3):Sw:=λδ M Q=>t δ M λd M1=>match d with|.int i=>Q (some i) M1|_=>False
def PO.mono{X:Cx}{e:Option Expr}{t t':TO}(h:PO X e t)(m:∀σ H Q,t' σ H Q->t σ H Q):PO X e t':=λWk s σ H Q I q=>h Wk s σ H Q I (m σ H Q q)
def sV:O3 X none Nv:=PO.mono PX λσ H Q' zz=>x7 zz λδ M Q hs hm ht k=>k none H M hm .refl ht
def se{e:Expr}{t:T3}(h:E3 X e t):O3 X (some e) (Uh t):=PO.mono (Pp h) λσ H Q' zz=>x7 zz λδ M Q hs hm ht k=>
 ⟨δ,M,_,hs,hm,ht,λv H1 d M1 hd Wm e1 q1=>by
  cases d with
  | int i=>exact⟨i,hd.int_inv,k (some i) H1 M1 Wm e1 q1⟩
  | _=>exact q1.elim⟩
def VJ(x:D)(lo hi:Option Int)(M:Mp)(Q:DK):Prop:=match x with
 | .tup ds=>Q (.tup (tq ds lo hi)) M
 | .ref a=>(oy M a).elim False λds=>∀p,M p=none->Q (.ref p) (oZ M p (.lst (tq ds lo hi)))
 | .rl ds=>∀p,M p=none->Q (.ref p) (oZ M p (.lst (tq ds lo hi)))
 | _=>False
def s3(te:T3)(tl th:Sw):T3:=λδ M Q=>te δ M λx M1=>tl δ M1 λl M2=>th δ M2 λu M3=>VJ x l u M3 Q
def VB(K:pY):V->Option Int->Option Int->Hp->VK->Prop:=λvx l u H Q'=>CN λx M Q=>rh K H x vx/\HM K H M/\VJ x l u M Q/\Up K H Q' Q
def Oa{ds:List D}{lo hi:Option Int}(h:HT.sG ds.length 0 lo=0/\HT.sG ds.length ds.length hi=ds.length):tq ds lo hi=ds:=by unfold tq;rw[h.1,h.2,iX,kM,fN]
def UN:Ue X (VB X.K):=by
 intro Wk s σ H vx v vl vu l u sl Q' I rx Yj pl pu h;obtain⟨x,M,Q,hx,hm,q,k⟩:=h;cases x with
 | tup ds=>
  have q2:Q (.tup (tq ds l u)) M:=q;obtain⟨a,xs,rfl,h1,h2⟩:=hx.mE;by_cases q1:HT.sG ds.length 0 l=0/\HT.sG ds.length ds.length u=ds.length
  .rw[Oa q1]at q2;exact RG Wk s σ H _ v vl vu l u sl Q' I rx Yj pl pu ⟨a,xs,rfl,h1,by rw[<-h2.length];exact q1,k _ _ _ _ hx hm .refl q2⟩
  refine Rn Wk s σ H _ v vl vu l u sl Q' I rx Yj pl pu ⟨a,xs,rfl,h1,by rw[<-h2.length];exact q1,λp hp=>?_⟩;have e:qF X.K H (upd H p (.tup (BU xs l u))):=.new hp;exact k _ _ _ _ (.tup (.of pS) ((ER h2).mono e)) (hm.add hp) e q2
 | ref a=>obtain⟨ds,e0,q⟩:=qI q;cases hx.mw;obtain⟨xs,h1,h2,_⟩:=qa hm e0;refine HR Wk s σ H _ v vl vu l u sl Q' I rx Yj pl pu ⟨a,xs,rfl,h1,λp hp=>?_⟩;have e:qF X.K H (upd H p (.lst (BU xs l u))):=.new hp;exact k _ _ _ _ .ref (hm.new (c:=.lst (tq ds l u)) hp ⟨_,pS,(ER h2).mono e⟩) e (q p (hm.fresh hp))
 | rl ds=>obtain⟨a,xs,rfl,h1,h2⟩:=hx.mP;refine HR Wk s σ H _ v vl vu l u sl Q' I rx Yj pl pu ⟨a,xs,rfl,h1.sq,λp hp=>?_⟩;have e:qF X.K H (upd H p (.lst (BU xs l u))):=.new hp;exact k _ _ _ _ .ref (hm.new (c:=.lst (tq ds l u)) hp ⟨_,pS,(ER h2).mono e⟩) e (q p (hm.fresh hp))
 | _=>exact q.elim
def rR{e:Expr}{te:T3}{lo hi:Option Expr}{tl th:Sw}{p2:Pos}(he:E3 X e te)(hl:O3 X lo tl)(hu:O3 X hi th):E3 X (.Subscript e (.Slice lo hi none p2) pos) (s3 te tl th):=PE.mono (Mm UN he hl hu) λσ H Q' zz=>x7 zz λδ M Q hs hm ht k=>⟨δ,M,_,hs,hm,ht,λv H1 x M1 hx Wm e1 q1=>⟨δ,M1,_,hs.mono e1,Wm,q1,λl H2 M2 WB e2 q2=>⟨δ,M2,_,hs.mono (e1.trans e2),WB,q2,λu H3 M3 Xe e3 q3=>⟨x,M3,Q,hx.mono (e2.trans e3),Xe,q3,vq (e1.trans (e2.trans e3)) k⟩⟩⟩⟩
def xF:wW:=λ_ M Q=>Q [] M
def uP(ta:T3)(tr:wW):wW:=λδ M Q=>ta δ M λx M1=>tr δ M1 λxs M2=>Q (x::xs) M2
def sC:A3 X [] xF:=PA.mono So λσ H Q' zz=>x7 zz λδ M Q hs hm ht k=>k [] H [] M .nil hm .refl ht
def pN{e:Expr}{es:List Expr}{te:T3}{t:wW}(ha:E3 X e te)(hr:A3 X es t)(hs:AV X e es:=by rfl):A3 X (e::es) (uP te t):=PA.mono (PV ha hr hs) λσ H Q' zz=>x7 zz λδ M Q hs hm ht k=>⟨δ,M,_,hs,hm,ht,λv H1 x M1 hx Wm e1 q1=>⟨δ,M1,_,hs.mono e1,Wm,q1,λvs H2 xs M2 Zl WB e2 q2=>k _ H2 _ M2 (.cons (hx.mono e2) Zl) WB (e1.trans e2) q2⟩⟩
def UX(t:wW):T3:=λδ M Q=>t δ M λds M1=>ds.length<=sizeLine/\Q (.tup ds) M1
def SS(t:wW):T3:=λδ M Q=>t δ M λds M1=>ds.length<=sizeLine/\∀p,M1 p=none->Q (.ref p) (oZ M1 p (.lst ds))
def pC{x1}{es:List Expr}{t:wW}(h:A3 X es t):E3 X (.Tuple es x1 pos) (UX t):=PE.mono (QR h) λσ H Q' zz=>x7 zz λδ M Q hs hm ht k=>
 ⟨δ,M,_,hs,hm,ht,λvs H1 ds M1 Xv Wm e1 q1=>⟨by rw[<-Xv.length];exact q1.1,λp hp=>by
  have e:qF X.K H1 (upd H1 p (.tup vs)):=.new hp;exact k _ _ _ M1 (.tup (.of pS) (Xv.mono e)) (Wm.add hp) (e1.trans e) q1.2⟩⟩
def qm{es:List Expr}{t:wW}(h:A3 X es t):E3 X (.List es pos) (SS t):=PE.mono (RY h) λσ H Q' zz=>x7 zz λδ M Q hs hm ht k=>
 ⟨δ,M,_,hs,hm,ht,λvs H1 ds M1 Xv Wm e1 q1=>⟨by rw[<-Xv.length];exact q1.1,λp hp=>by
  have e:qF X.K H1 (upd H1 p (.lst vs)):=.new hp;exact k _ _ _ _ .ref (Wm.new (c:=.lst ds) hp ⟨_,pS,Xv.mono e⟩) (e1.trans e) (q1.2 p (Wm.fresh hp))⟩⟩
def ug(t u:wV):wV:=λD δ M=>t {D with nx:=u D} δ M
def Uy:wV:=λD δ M=>D.nx δ M
def pk:Hv X [] Uy:=Be.mono N8 λD' σ H zz=>Jr zz λδ M D hs hm ht k1 k2 k3 k4=>k1 σ H δ M hs hm .refl rfl ht
def oQ{st:Stmt}{rest:List Stmt}{t u:wV}(h1:S3 X st t)(h2:Hv X rest u):Hv X (st::rest) (ug t u):=Be.mono (KO h1 h2) λD' σ H zz=>Jr zz λδ M D hs hm ht k1 k2 k3 k4=>
 ⟨δ,M,{D with nx:=u D},hs,hm,ht,λσ1 H1 δ1 M1 Zm Wm e1 l1 q1=>⟨δ1,M1,D,Zm,Wm,q1,λσ' H' δ' M' x1 x2 x3 x4 x5=>k1 σ' H' δ' M' x1 x2 (e1.trans x3) (x4.trans l1) x5,λv H' d M' x1 x2 x3 x4=>k2 v H' d M' x1 x2 (e1.trans x3) x4,λσ' H' δ' M' x1 x2 x3 x4 x5=>k3 σ' H' δ' M' x1 x2 (e1.trans x3) (x4.trans l1) x5,λσ' H' δ' M' x1 x2 x3 x4 x5=>k4 σ' H' δ' M' x1 x2 (e1.trans x3) (x4.trans l1) x5⟩,k2,k3,k4⟩
def oS{st:Stmt}{t:wV}(h1:S3 X st t):Hv X [st] t:=Be.mono (Ee h1) λD' σ H h=>h
def U7:wV:=λD δ M=>D.ct δ M
def Fh:S3 X (.Continue pos) U7:=PS.mono Fz λD' σ H zz=>Jr zz λδ M D hs hm ht k1 k2 k3 k4=>k4 σ H δ M hs hm .refl rfl ht
def Tu(te:T3):wV:=λD δ M=>te δ M λ_ M1=>D.nx δ M1
def pD{e:Expr}{te:T3}(he:E3 X e te)(XN:swapsWith e none pos.line X.env=pure false:=by rfl):S3 X (.Expr e pos) (Tu te):=PS.mono (NJ he XN) λD' σ H zz=>Jr zz λδ M D hs hm ht k1 k2 k3 k4=>⟨δ,M,_,hs,hm,ht,λv H1 d M1 hd Wm e1 q1=>k1 σ H1 δ M1 (hs.mono e1) Wm e1 rfl q1⟩
def QE(te:T3):wV:=λD δ M=>te δ M D.rt
def oY{e:Expr}{te:T3}(he:E3 X e te):S3 X (.Return (some e) pos) (QE te):=PS.mono (QU he) λD' σ H zz=>Jr zz λδ M D hs hm ht k1 k2 k3 k4=>⟨δ,M,_,hs,hm,ht,λv H1 d M1 hd Wm e1 q1=>k2 v H1 d M1 hd Wm e1 q1⟩
def NX(c:Ac)(t u:wV):wV:=λD δ M=>c δ M λb M1=>if b=true then t D δ M1 else u D δ M1
def pE{c:Expr}{as bs:List Stmt}{tc:Ac}{t u:wV}(hc:B3 X c tc)(ha:Hv X as t)(hb:Hv X bs u):S3 X (.If c as bs pos) (NX tc t u):=PS.mono (Tg hc ha hb) λD' σ H zz=>Jr zz λδ M D hs hm ht k1 k2 k3 k4=>
 ⟨δ,M,_,hs,hm,ht,λb H1 M1 Wm e1 q1=>by
  have up:∀t:wV,t D δ M1->US X.K t D' σ H1:=λt q=>⟨δ,M1,D,hs.mono e1,Wm,q,λσ' H' δ' M' x1 x2 x3 x4 x5=>k1 σ' H' δ' M' x1 x2 (e1.trans x3) x4 x5,λv H' d M' x1 x2 x3 x4=>k2 v H' d M' x1 x2 (e1.trans x3) x4,λσ' H' δ' M' x1 x2 x3 x4 x5=>k3 σ' H' δ' M' x1 x2 (e1.trans x3) x4 x5,λσ' H' δ' M' x1 x2 x3 x4 x5=>k4 σ' H' δ' M' x1 x2 (e1.trans x3) x4 x5⟩
  cases b with
  | true=>exact(c9 rfl).mpr (up t ((c9 rfl).mp q1))
  | false=>exact(cY dw).mpr (up u ((cY dw).mp q1))⟩
def RU:wV:=λ_ _ _=>False
def Gr{st:Stmt}:S3 X st RU:=PS.mono Lg λD' σ H ⟨δ,M,D,hs,hm,ht,_⟩=>ht
abbrev Cp:=D->uM->Mp->(uM->Mp->Prop)->Prop
def Uz(K:pY)(g:Cp):TG:=λv σ H Q'=>AU λd δ M Q=>rh K H d v/\ym K H σ δ/\HM K H M/\g d δ M Q/\∀σ' H' δ' M',ym K H' σ' δ'->HM K H' M'->qF K H H'->σ'.length=σ.length->Q δ' M'->Q' σ' H'
def G3(X:Cx)(e:Expr)(g:Cp):Prop:=PG X e (Uz X.K g)
def PG.nE{X:Cx}{e:Expr}{t t':TG}(h:PG X e t)(m:∀v σ H Q,σ.length=X.N.length->t' v σ H Q->t v σ H Q):PG X e t':=λWk s σ H v u Q I r q=>h Wk s σ H v u Q I r (m v σ H Q I.len q)
def ud(i:Nat):Cp:=λd δ M Q=>Q (δ.set i (some d)) M
def IW{i:Nat}{x:Str}(hN:X.N.Nodup)(hi:X.N[i]?=some x)(hx:Kd X.env.scope x)(hf:Kf X x:=by first|exact .inl rfl|exact .inr rfl|assumption):G3 X (.Name x pos) (ud i):=
 PG.nE (OW hN hi hx hf) λv σ H Q' hl ⟨d,δ,M,Q,hd,hs,hm,ht,k⟩=>k _ H _ M (hs.set hd (by rw[hl];exact(cV.mp hi).1)) hm .refl (by simp) ht
abbrev Cq:=List D->uM->Mp->(uM->Mp->Prop)->Prop
def Va(K:pY)(g:Cq):NP:=λvs σ H Q'=>AU λds δ M Q=>pV K H ds vs/\ym K H σ δ/\HM K H M/\g ds δ M Q/\∀σ' H' δ' M',ym K H' σ' δ'->HM K H' M'->qF K H H'->σ'.length=σ.length->Q δ' M'->Q' σ' H'
def SQ(X:Cx)(es:List Expr)(g:Cq):Prop:=Nj X es (Va X.K g)
def Nj.mono{X:Cx}{e:List Expr}{t t':NP}(h:Nj X e t)(m:∀v σ H Q,t' v σ H Q->t v σ H Q):Nj X e t':=λWk s σ H v u Q I r q=>h Wk s σ H v u Q I r (m v σ H Q q)
def PG.mono{X:Cx}{e:Expr}{t t':TG}(h:PG X e t)(m:∀v σ H Q,t' v σ H Q->t v σ H Q):PG X e t':=λWk s σ H v u Q I r q=>h Wk s σ H v u Q I r (m v σ H Q q)
def Fs:Cq:=λds δ M Q=>match ds with|[]=>Q δ M|_=>False
def zR(t:Cp)(u:Cq):Cq:=λds δ M Q=>match ds with|d::r=>t d δ M λδ' M'=>u r δ' M' Q|[]=>False
def tK:SQ X [] Fs:=Nj.mono OK λvs σ H Q' ⟨ds,δ,M,Q,hd,hs,hm,ht,k⟩=>by
 cases ds with
 | nil=>exact⟨hd.nil_inv,k σ H δ M hs hm .refl rfl ht⟩
 | cons _ _=>exact ht.elim
def ql{e:Expr}{es:List Expr}{t:Cp}{u:Cq}(h1:G3 X e t)(h2:SQ X es u)(hs:(assignEach (e::es) X.env).map (·.2)=assign e X.env::(assignEach es X.env).map (·.2):=by rfl):SQ X (e::es) (zR t u):=
 Nj.mono (Lo h1 h2 hs) λvs σ H Q' ⟨ds,δ,M,Q,hd,hs,hm,ht,k⟩=>by
 cases ds with
 | nil=>exact ht.elim
 | cons d r=>obtain⟨x,xr,rfl,hx,hr⟩:=hd.inv;exact⟨x,xr,rfl,d,δ,M,_,hx,hs,hm,ht,λσ1 H1 δ1 M1 Zm Wm e1 l1 q1=>⟨r,δ1,M1,Q,hr.mono e1,Zm,Wm,q1,λσ' H' δ' M' x1 x2 x3 x4 x5=>k σ' H' δ' M' x1 x2 (e1.trans x3) (x4.trans l1) x5⟩⟩
def Qo(n:Nat)(t:Cq):Cp:=λd δ M Q=>match d with|.tup ds=>ds.length=n/\t ds δ M Q|_=>False
def uT{es:List Expr}{k:Nat}{t:Cq}{n:Nat}(hc:X.calm=true)(h:SQ X es t)(hn:(assignEach es X.env).length=n:=by rfl)(WH:(assignEach es X.env).findIdx? (·.1)=none:=by rfl):G3 X (.Tuple es k pos) (Qo n t):=
 PG.mono (Si hc h hn WH) λv σ H Q' ⟨d,δ,M,Q,hd,hs,hm,ht,k⟩=>by
 cases d with
 | tup ds=>obtain⟨a,xs,rfl,h1,h2⟩:=hd.mE;exact⟨a,xs,rfl,h1,by rw[<-h2.length];exact ht.1,ds,δ,M,Q,h2,hs,hm,ht.2,k⟩
 | _=>exact ht.elim
def FR(te:T3)(g:Cp):wV:=λD δ M=>te δ M λx M1=>g x δ M1 D.nx
def GD{tg e:Expr}{te:T3}{g:Cp}(he:E3 X e te)(hg:G3 X tg g)(hs:swapsWithSole [tg] e pos.line X.env=pure false:=by rfl)(hw:swappedStores [tg] e X.env=pure none:=by rfl)
  (h1:(assignEach [tg] X.env).map (·.2)=[assign tg X.env]:=by rfl):S3 X (.Assign [tg] e pos) (FR te g):=PS.mono (Rw he hg hs hw h1) λD' σ H zz=>Jr zz λδ M D hs hm ht k1 k2 k3 k4=>
 ⟨δ,M,_,hs,hm,ht,λv H1 d M1 hd Wm e1 q1=>⟨d,δ,M1,_,hd,hs.mono e1,Wm,q1,λσ' H' δ' M' x1 x2 x3 x4 x5=>k1 σ' H' δ' M' x1 x2 (e1.trans x3) x4 x5⟩⟩
def QB{i:Nat}{x:Str}{e:Expr}{te:T3}{Wt:Pos}(hN:X.N.Nodup)(hi:X.N[i]?=some x)(hx:Kd X.env.scope x)(he:E3 X e te)(XN:swapsWith e (some (.Name x Wt)) pos.line X.env=pure false:=by rfl)
  (hf:Kf X x:=by first|exact .inl rfl|exact .inr rfl|assumption):S3 X (.Assign [.Name x Wt] e pos) (FR te (ud i)):=PS.nE (KP hN hi hx he XN hf) λD' σ H hl zz=>Jr zz λδ M D hs hm ht k1 k2 k3 k4=>
 ⟨δ,M,_,hs,hm,ht,λv H1 d M1 hd Wm e1 q1=>k1 _ H1 _ M1 ((hs.mono e1).set hd (by rw[hl];exact(cV.mp hi).1)) Wm e1 (by simp) q1⟩
end
abbrev qT:=List D->Mp->DK->Prop
def Ng(K:pY)(sp:qT):Sp:=λvs H Q' _=>CN λds M Q=>pV K H ds vs/\HM K H M/\sp ds M Q/\Up K H Q' Q
def wz(N:List Str)(ds:List D):uM:=ds.map some++List.replicate (N.length - ds.length) none
def C1{K:pY}{H:Hp}{N:List Str}{ds:List D}{vs:List V}(h:pV K H ds vs):ym K H (L2.start N vs) (wz N ds):=λi d q=>by
 unfold wz at q;unfold L2.start;by_cases hi:i<ds.length
 .rw[eZ (by simpa using hi),dA]at q;cases e:ds[i]? with
  | none=>rw[e]at q;cases q
  | some d'=>rw[e]at q;cases q;obtain⟨v,e1,e2⟩:=h.get e;refine⟨v,?_,e2⟩;rw[eZ (by rw[cT,<-h.length];exact hi),dA,e1];rfl
 .rw[eS (by simpa using hi),jG]at q;split at q<;>cases q
variable {P:Pg}{w:Wo}{mg:Str→Option Vl}{base:Heap}
abbrev Sv(P:Pg)(w:Wo)(K:pY)(mg:Str->Option Vl)(base:Heap)(k:Nat)(f:Addr)(fd:FuncData)(ps:List Str)(sp:qT):Prop:=wR P w K mg base Ni k f fd ps (Ng K sp)
variable {k:Nat}{f C:Addr}{fd:FuncData}{ps:List Str}{sp:qT}{x m fn:Str}{p Wn:Pos}{e o:Expr}{es:List Expr}{t:wW}
def Dt(sp:qT)(t:wW):T3:=λδ M Q=>t δ M λds M1=>sp ds M1 Q
def PB(F:Sv X.prog X.w X.K X.mg X.base k f fd ps sp)(hr:rD k X.A)(hg:Gl X x)(hm:X.mg x=some (.ref f))(hk:W.keepIn X.K (.ref f)=true)(hb:uy X.K fd ps [])(ha:A3 X (e::es) t) (WE:yk x:=by decide) (he:AV X e es:=by rfl) (WA:Cd X pos es:=by rfl):
  E3 X (.Call (.Name x p) (e::es) [] pos) (Dt sp t):=PE.mono (Oz F hr hg hm hk hb .nil (Ga (X:=X)) ha WE he WA) λσ H Q' zz=>x7 zz λδ M Q hs hm ht k=>
 ⟨δ,M,_,hs,hm,ht,λvs H1 ds M1 hd Wm e1 q1=>⟨ds,M1,Q,by rw[eY];exact hd,Wm,q1,vq e1 k⟩⟩
def C3(X:Cx)(f:Vl)(r:qT):Prop:=yY X f λvs H Q'=>∃ds M Q,pV X.K H ds vs/\HM X.K H M/\r ds M Q/\Up X.K H Q' Q
def pH{id:String}{r:qT}(hc:C3 X (.builtin id) r)(hg:Gl X x)(hm:X.mg x=none)(hv:bootBuiltins x=some (.builtin id))(ha:A3 X (e::es) t)(hn:x≠"__name__":=by decide)(WE:yk x:=by decide)
  (he:AV X e es:=by rfl) (WA:Cd X pos es:=by rfl):E3 X (.Call (.Name x p) (e::es) [] pos) (Dt r t):=
 PE.mono (LK hc hg hm hv ha hn WE he WA) λσ H Q' zz=>x7 zz λδ M Q hs hm ht k=>⟨δ,M,_,hs,hm,ht,λvs H1 ds M1 hd Wm e1 q1=>⟨ds,M1,Q,hd,Wm,q1,vq e1 k⟩⟩
def qg{T:String}{r:qT}(hc:C3 X (.type T) r)(hg:Gl X x)(hm:X.mg x=none)(hv:bootBuiltins x=some (.type T))(ha:A3 X (e::es) t)(hn:x≠"__name__":=by decide)(WE:yk x:=by decide)
  (he:AV X e es:=by rfl) (WA:Cd X pos es:=by rfl):E3 X (.Call (.Name x p) (e::es) [] pos) (Dt r t):=
 PE.mono (Jx hc hg hm hv ha hn WE he WA) λσ H Q' zz=>x7 zz λδ M Q hs hm ht k=>⟨δ,M,_,hs,hm,ht,λvs H1 ds M1 hd Wm e1 q1=>⟨ds,M1,Q,hd,Wm,q1,vq e1 k⟩⟩
def Um(ds:List D)(M:Mp)(Q:DK):Prop:=match ds with
 | [.str z]=>z.length<=sizeLine/\Q (.int z.length) M
 | [.tup es]=>Q (.int es.length) M
 | [.ref a]=>(oy M a).elim False λes=>Q (.int es.length) M
 | [.rl es]=>Q (.int es.length) M
 | _=>False
def rM{K:pY}{H:Hp}{d:D}{vs:List V}(h:pV K H [d] vs):∃v,vs=[v]/\rh K H d v:=by obtain⟨x,r,rfl,a,b⟩:=h.inv;rw[b.nil_inv];exact⟨x,rfl,a⟩
def E2{K:pY}{H:Hp}{d e:D}{vs:List V}(h:pV K H [d,e] vs):∃v u,vs=[v,u]/\rh K H d v/\rh K H e u:=by obtain⟨x,r,rfl,a,b⟩:=h.inv;obtain⟨y,rfl,c⟩:=rM b;exact⟨x,y,rfl,a,c⟩
def qk:C3 X (.builtin "len") Um:=by
 intro Wk s σ H vs us Q' I rv h;obtain⟨ds,M,Q,hd,hm,q,k⟩:=h;unfold Um at q;split at q
 .obtain⟨v,rfl,hv⟩:=rM hd;cases hv.str_inv;exact DB Wk s σ H _ us Q' I rv ⟨_,rfl,q.1,k _ _ _ _ .int hm .refl q.2⟩
 .obtain⟨v,rfl,hv⟩:=rM hd;obtain⟨a,xs,rfl,h1,h2⟩:=hv.mE;exact wF Wk s σ H _ us Q' I rv ⟨a,xs,rfl,.inr h1,k _ _ _ _ (by rw[<-h2.length];exact .int) hm .refl q⟩
 .obtain⟨v,rfl,hv⟩:=rM hd;obtain⟨es,e0,q⟩:=qI q;cases hv.mw;obtain⟨xs,h1,h2,_⟩:=qa hm e0;exact wF Wk s σ H _ us Q' I rv ⟨_,xs,rfl,.inl h1,k _ _ _ _ (by rw[<-h2.length];exact .int) hm .refl q⟩
 .obtain⟨v,rfl,hv⟩:=rM hd;obtain⟨a,xs,rfl,h1,h2⟩:=hv.mP;exact wF Wk s σ H _ us Q' I rv ⟨a,xs,rfl,.inl h1.sq,k _ _ _ _ (by rw[<-h2.length];exact .int) hm .refl q⟩
 .exact q.elim
def Tj(ds:List D)(M:Mp)(Q:DK):Prop:=match ds with
 | [.int i,.int j]=>Q (.int (if j<i then j else i)) M
 | _=>False
def RD(hc:X.calm=true):C3 X (.builtin "min") Tj:=by
 intro Wk s σ H vs us Q' I rv h;obtain⟨ds,M,Q,hd,hm,q,k⟩:=h;unfold Tj at q;split at q
 .obtain⟨v,u,rfl,hv,hw⟩:=E2 hd;cases hv.int_inv;cases hw.int_inv;exact J7 hc Wk s σ H _ us Q' I rv ⟨_,_,rfl,k _ _ _ _ .int hm .refl q⟩
 .exact q.elim
def K8(ds:List D)(M:Mp)(Q:DK):Prop:=match ds with
 | [.tup es]=>Q (.tup es) M
 | [.ref a]=>(oy M a).elim False λes=>Q (.tup es) M
 | [.rl es]=>Q (.tup es) M
 | _=>False
def tS:C3 X (.type "tuple") K8:=by
 intro Wk s σ H vs us Q' I rv h;obtain⟨ds,M,Q,hd,hm,q,k⟩:=h;unfold K8 at q;split at q
 .obtain⟨v,rfl,hv⟩:=rM hd;obtain⟨a,xs,rfl,h1,h2⟩:=id hv.mE;exact vD Wk s σ H _ us Q' I rv ⟨a,xs,rfl,.inr ⟨h1,k _ _ _ _ hv hm .refl q⟩⟩
 .obtain⟨v,rfl,hv⟩:=rM hd;obtain⟨es,e0,q⟩:=qI q;cases hv.mw;obtain⟨xs,h1,h2,_⟩:=qa hm e0;refine vD Wk s σ H _ us Q' I rv ⟨_,xs,rfl,.inl ⟨h1,λl hl=>?_⟩⟩;have e:qF X.K H (upd H l (.tup xs)):=.new hl;exact k _ _ _ _ (.tup (.of pS) (h2.mono e)) (hm.add hl) e q
 .obtain⟨v,rfl,hv⟩:=rM hd;obtain⟨a,xs,rfl,h1,h2⟩:=hv.mP;refine vD Wk s σ H _ us Q' I rv ⟨_,xs,rfl,.inl ⟨h1.sq,λl hl=>?_⟩⟩;have e:qF X.K H (upd H l (.tup xs)):=.new hl;exact k _ _ _ _ (.tup (.of pS) (h2.mono e)) (hm.add hl) e q
 .exact q.elim
def P7(ds:List D)(M:Mp)(Q:DK):Prop:=match ds with
 | [d]=>(MT M d).elim False λes=>∀p,M p=none->Q (.ref p) (oZ M p (.lst es))
 | _=>False
def tH:C3 X (.type "list") P7:=by
 intro Wk s σ H vs us Q' I rv h;obtain⟨ds,M,Q,hd,hm,q,k⟩:=h;unfold P7 at q;split at q
 .obtain⟨v,rfl,hv⟩:=rM hd;obtain⟨es,e0,q⟩:=qI q;obtain⟨p,xs,rfl,h1,h2⟩:=Fd hm hv e0;refine Eh Wk s σ H _ us Q' I rv ⟨p,xs,rfl,h1,λl hl=>?_⟩;have e:qF X.K H (upd H l (.lst xs)):=.new hl;exact k _ _ _ _ .ref (hm.new (c:=.lst es) hl ⟨_,pS,h2.mono e⟩) e (q l (hm.fresh hl))
 .exact q.elim
theorem wn{K:pY}{H:Hp}{f:Str}:∀{fs:List (Str×D)} {vs:List (Str×V)},Bg K H fs vs->(∀d,fs.lookup f=some d->∃v,vs.lookup f=some v/\rh K H d v)/\(fs.lookup f=none->vs.lookup f=none)
 | [],[],_=>⟨λd e=>by simp at e,λ_=>rfl⟩
 | [],_::_,h=>by have:=h.1;simp at this
 | _::_,[],h=>by have:=h.1;simp at this
 | (g,d)::fs,(g',v)::vs,h=>by
  have h1:g'=g/\vs.map (·.1)=fs.map (·.1):=by
   have:=h.1
   simpa using this
  obtain⟨x,r,e,a,b⟩:=h.2.inv;have e':v::vs.map (·.2)=x::r:=e;cases e';obtain⟨i1,i2⟩:=wn (f:=f) (fs:=fs) (vs:=vs) ⟨h1.2,b⟩;rw[h1.1];refine⟨λd' e=>?_,λe=>?_⟩
  .rw[eK]at e ⊢;cases q:f==g with
   | true=>rw[q]at e;cases e;exact⟨v,rfl,a⟩
   | false=>rw[q]at e;exact i1 d' e
  .rw[eK]at e ⊢;cases q:f==g with
   | true=>rw[q]at e;cases e
   | false=>rw[q]at e;exact i2 e
theorem Ig{f:Str}{d:D}:∀{fs:List (Str×D)},fs.lookup f=some d->f∈fs.map (·.1)
 | [],h=>by simp at h
 | (g,e)::r,h=>by
  rw[eK]at h;cases q:f==g with
  | true=>
   have z:f=g:=by simpa using q
   rw[z,dS];exact dN
  | false=>rw[q]at h;simp[Ig h]
def zS(o:Option uk)(F:Addr->List (Str×D)->Prop):Prop:=match o with
 | some (.ins C fs)=>F C fs
 | _=>False
def oR{o:Option uk}{F:Addr->List (Str×D)->Prop}{C:Addr}{fs:List (Str×D)}(e:o=some (.ins C fs))(h:F C fs):zS o F:=by rw[e];exact h
def wZ{o:Option uk}{F:Addr->List (Str×D)->Prop}(h:zS o F):∃C fs,o=some (.ins C fs)/\F C fs:=by
 unfold zS at h;split at h
 .exact⟨_,_,rfl,h⟩
 .exact h.elim
def U5(f:Str)(ta:T3):T3:=λδ M Q=>ta δ M λx M1=>match x with
 | .ref a=>zS (M1 a) λ_ fs=>(fs.lookup f).elim False λd=>Q d M1
 | _=>False
def oX{f:Str}(he:E3 X o ta)(hb:attributeBase o f X.env (eval o X.env)=eval o X.env:=by rfl):E3 X (.Attribute o f pos) (U5 f ta):=PE.mono (QF he hb) λσ H Q' zz=>x7 zz λδ M Q hs hm ht k=>
 ⟨δ,M,_,hs,hm,ht,λv H1 d M1 hd Wm e1 q1=>by
  cases d with
  | ref a=>cases hd.mw;obtain⟨C,fs,e,q1⟩:=wZ q1;obtain⟨d,e2,q⟩:=qI q1;obtain⟨dx,vs,h1,cl,na,fo⟩:=Wm a _ e;obtain⟨v,e3,hv⟩:=(wn fo).1 d e2;exact⟨a,C,dx,vs,v,rfl,h1,cl,na f (Ig e2),e3,k v H1 d M1 hv Wm e1 q⟩
  | _=>exact q1.elim⟩
def vI(f:Str)(v:D):List (Str×D)->List (Str×D)
 | []=>[(f,v)]
 | (g,u)::r=>if g=f then(g,v)::r else(g,u)::vI f v r
theorem Ea{K:pY}{H:Hp}{f:Str}{d:D}{v:V}(hv:rh K H d v):∀{fs:List (Str×D)} {vs:List (Str×V)},Bg K H fs vs->Bg K H (vI f d fs) (vg f v vs)
 | [],[],_=>⟨rfl,.cons hv .nil⟩
 | [],_::_,h=>by have:=h.1;simp at this
 | _::_,[],h=>by have:=h.1;simp at this
 | (g,e)::fs,(g',u)::vs,h=>by
  have h1:g'=g/\vs.map (·.1)=fs.map (·.1):=by
   have:=h.1
   simpa using this
  obtain⟨x,r,e1,a,b⟩:=h.2.inv;have e':u::vs.map (·.2)=x::r:=e1;cases e';obtain⟨hg,ht⟩:=h1;subst hg;rw[show vI f d ((g',e)::fs)=(if g'=f then(g',d)::fs else(g',e)::vI f d fs)from rfl,show vg f v ((g',u)::vs)=(if g'=f then(g',v)::vs else(g',u)::vg f v vs)from rfl];by_cases q:g'=f
  .rw[c9 q,c9 q];exact⟨by simpa using ht,.cons hv b⟩
  .rw[cY q,cY q];obtain⟨i1,i2⟩:=Ea hv (fs:=fs) (vs:=vs) ⟨ht,b⟩;exact⟨by simpa using i1,.cons a i2⟩
theorem Bh{f:Str}{d:D}:∀{fs:List (Str×D)} {g:Str},g∈(vI f d fs).map (·.1)->g=f\/g∈fs.map (·.1)
 | [],g,h=>.inl (by simpa [vI]using h)
 | (k,e)::r,g,h=>by
  rw[show vI f d ((k,e)::r)=(if k=f then(k,d)::r else(k,e)::vI f d r)from rfl]at h;by_cases q:k=f
  .rw[c9 q]at h;exact .inr (by simpa using h)
  .rw[cY q]at h;rw[dS,df]at h;rcases h with h|h
   .exact .inr (by simp[h])
   .rcases Bh h with z|z
    .exact .inl z
    .exact .inr (by simp;right;simpa using z)
def T7(K:pY)(f:Str)(ta tv:T3):wV:=λD δ M=>tv δ M λy M1=>ta δ M1 λx M2=>match x with
 | .ref a=>zS (M2 a) λC fs=>tL K C f/\fs.length<1000/\D.nx δ (oZ M2 a (.ins C (vI f y fs)))
 | _=>False
def pQ{f:Str}{value:Expr}{tv:T3}{Wt:Pos}(ha:E3 X o ta)(hv:E3 X value tv)(XN:swapsWith value (some (.Attribute o f Wt)) pos.line X.env=pure false:=by rfl):S3 X (.Assign [.Attribute o f Wt] value pos) (T7 X.K f ta tv):=
 PS.mono (Sb ha hv XN) λD' σ H zz=>Jr zz λδ M D hs hm ht k1 k2 k3 k4=>
 ⟨δ,M,_,hs,hm,ht,λy H1 dy M1 hy Wm e1 q1=>⟨δ,M1,_,hs.mono e1,Wm,q1,λv H2 d M2 hd WB e2 q2=>by
  cases d with
  | ref a=>
   cases hd.mw;obtain⟨C,fs,e,q2⟩:=wZ q2;obtain⟨na,hl,q⟩:=q2;obtain⟨dx,vs,h1,cl,nn,fo⟩:=WB a _ e;have Wr:vs.length=fs.length:=by have:=eE List.length fo.1;simpa using this
   refine⟨a,C,dx,vs,rfl,h1,cl,na,by omega,?_⟩;obtain⟨Xe,e3⟩:=WB.put (p:=a) (o:=.ins C dx (vg f y vs)) (c:=.ins C (vI f dy fs)) e λx=>⟨dx,_,pS,cl,λg hg=>by
    rcases Bh hg with z|z
    .rw[z];exact na
    .exact nn g z,Ea ((hy.mono e2).mono x) (fo.mono x)⟩
   exact k1 σ _ δ _ (hs.mono (e1.trans (e2.trans e3))) Xe (e1.trans (e2.trans e3)) rfl q
  | _=>exact q2.elim⟩⟩
def Ql(C:Addr)(sp:qT)(t:wW):T3:=λδ M Q=>t δ M λds M1=>∀x,M1 x=none->sp (.ref x::ds) (oZ M1 x (.ins C [])) λd M2=>d=.mC/\Q (.ref x) M2
def Ko{K:pY}{H:Hp}{M:Mp}{xa dx:Addr}(hm:HM K H M)(cl:Cls K C)(h1:H xa=none)(h2:H dx=none)(ne:dx≠xa):HM K (upd (upd H dx (.own xa)) xa (.ins C dx [])) (oZ M xa (.ins C []))/\qF K H (upd (upd H dx (.own xa)) xa (.ins C dx [])):=by
 have W4:upd H dx (.own xa) xa=none:=by rw[pL (dJ ne)];exact h1
 exact⟨(hm.add (p:=dx) (o:=.own xa) h2).new W4 ⟨dx,[],pS,cl,λg hg=>by simp at hg,rfl,.nil⟩,qF.trans (.new h2) (.new W4)⟩
def O9(cl:Cls X.K C)(Mk':Mk X.K C f)(F:Sv X.prog X.w X.K X.mg X.base k f fd ps sp)(hr:rD (k+1) X.A)(hg:Gl X x)(hm:X.mg x=some (.ref C))(hb:uy X.K fd ps [])(ha:A3 X (e::es) t) (WE:yk x:=by decide) (he:AV X e es:=by rfl) (WA:Cd X pos es:=by rfl):
  E3 X (.Call (.Name x p) (e::es) [] pos) (Ql C sp t):=PE.mono (OA Mk' F hr hg hm hb .nil (Ga (X:=X)) ha WE he WA) λσ H Q' zz=>x7 zz λδ M Q hs hm ht k=>
 ⟨δ,M,_,hs,hm,ht,λvs H1 ds M1 hd Wm e1 q1=>λxa dx n1 n2 ne=>by
  obtain⟨WB,e2⟩:=Ko Wm cl n1 n2 ne;refine⟨.ref xa::ds,_,_,?_,WB,q1 xa (Wm.fresh n1),λv H3 d M3 hd3 Xe e3 q3=>?_⟩
  .rw[eY];exact .cons .ref (hd.mono e2)
  .obtain⟨z,q3⟩:=q3;subst z;exact⟨hd3.mz,k _ H3 _ M3 .ref Xe (e1.trans (e2.trans e3)) q3⟩⟩
def HD(m:Str)(R:Addr->Sp->Prop)(ta:TE)(t:TA):TE:=λσ H Q=>ta σ H λx H1=>∃a C dx fs sp,x=.ref a/\H1 a=some (.ins C dx fs)/\fs.lookup m=none/\R C sp/\t σ H1 λvs H2=>sp (x::vs) H2 Q E0
def xk(P:Pg)(w:Wo)(K:pY)(mg:Str->Option Vl)(base:Heap)(k:Nat)(m:Str)(C:Addr)(sp:Sp):Prop:=Cls K C/\∃f fd ps,vf K C m f/\wR P w K mg base Ni k f fd ps sp/\uy K fd ps []
def Lr{R:Addr->Sp->Prop}{ta:TE}{t:TA}{pl:Sem Bool}(he:PE X o ta)(hR:∀C sp,R C sp->xk X.prog X.w X.K X.mg X.base k m C sp)(hr:rD k X.A)(ha:PA X (e::es) t) (WH:AV X e es:=by rfl) (WA:Cd X pos es:=by rfl)
  (ht:eval (.Call (.Attribute o m Wn) (e::es) [] pos) X.env=(do
   let ov<-eval o X.env
   standAt Wn.atName
   let(f,first)<-holding [ov] (getMethod ov m pl)
   callWith pos f first (backTo pos (starEach (e::es) X.env)) (backToKw pos (keywordEach [] X.env))):=by rfl):
  PE X (.Call (.Attribute o m Wn) (e::es) [] pos) (HD m R ta t):=by
 intro Wk s σ H Q I h;refine jN (pl:=pl) (rV (he Wk s σ H _ I h) λu s1 zz=>?_) ht;obtain⟨x,H1,I1,rx,a,C,dx,fs,sp,ex,ea,l,hRC,q⟩:=zz;obtain⟨c,f,fd,ps,hm,F,hb⟩:=hR C sp hRC;subst ex;obtain rfl:u=Value.ref a:=rx;refine BF I1 ea c hm l ?_;refine iE (first:=[.ref a]) (h₀:=X.base) I.ok.mod.oh hm.kp (rV (ha pos Wk s1 σ H1 _ I1 q) λus s2 zz=>x5 zz λvs H2 I2 r q2=>⟨I2.mQ,?_⟩) WH WA;exact DH (us:=.ref a::us) (vs:=.ref a::vs) F hr hb .nil (Ga (X:=X)) I2 (.cons rfl r) (by rw[eY];exact q2)
def JT{R:Addr->Sp->Prop}{ta:TE}{pl:Sem Bool}(he:PE X o ta)(hR:∀C sp,R C sp->xk X.prog X.w X.K X.mg X.base k m C sp)(hr:rD k X.A) (ht:eval (.Call (.Attribute o m Wn) [] [] pos) X.env=(do
   let ov<-eval o X.env
   standAt Wn.atName
   let(f,first)<-holding [ov] (getMethod ov m pl)
   callWith pos f first (backTo pos (starEach [] X.env)) (backToKw pos (keywordEach [] X.env))):=by rfl):
  PE X (.Call (.Attribute o m Wn) [] [] pos) (HD m R ta Tp):=by
 intro Wk s σ H Q I h;refine jN (pl:=pl) (rV (he Wk s σ H _ I h) λu s1 zz=>?_) ht;obtain⟨x,H1,I1,rx,a,C,dx,fs,sp,ex,ea,l,hRC,q⟩:=zz;obtain⟨c,f,fd,ps,hm,F,hb⟩:=hR C sp hRC;subst ex;obtain rfl:u=Value.ref a:=rx;refine BF I1 ea c hm l ?_;exact W.callWith_K0 (first:=[.ref a]) I1.mQ hm.kp (DH (us:=[.ref a]) (vs:=[.ref a]) F hr hb .nil (Ga (X:=X)) I1 (.cons rfl .nil) (by rw[eY];exact q))
def Ab(m:Str)(R:Addr->qT->Prop)(ta:T3)(t:wW):T3:=λδ M Q=>ta δ M λx M1=>match x with
 | .ref a=>zS (M1 a) λC fs=>fs.lookup m=none/\∃sp,R C sp/\t δ M1 λds M2=>sp (x::ds) M2 Q
 | _=>False
def UQ(K:pY)(R:Addr->qT->Prop):Addr->Sp->Prop:=λC sp'=>∃sp,R C sp/\sp'=Ng K sp
def IC{R:Addr->qT->Prop}:∀σ H Q',lo X.K (Ab m R ta t) σ H Q'->HD m (UQ X.K R) (lo X.K ta) (VH X.K t) σ H Q':=λσ H Q' zz=>x7 zz λδ M Q hs hm ht k=>
 ⟨δ,M,_,hs,hm,ht,λv H1 d M1 hd Wm e1 q1=>by
  cases d with
  | ref a=>cases hd.mw;obtain⟨C,fs,e,q1⟩:=wZ q1;obtain⟨hn,sp,hR,q⟩:=q1;obtain⟨dx,vs,h1,cl,na,fo⟩:=Wm a _ e;exact⟨a,C,dx,vs,_,rfl,h1,(wn fo).2 hn,⟨sp,hR,rfl⟩,δ,M1,_,hs.mono e1,Wm,q,λus H2 ds M2 Xv WB e2 q2=>⟨.ref a::ds,M2,Q,.cons .ref Xv,WB,q2,vq (e1.trans e2) k⟩⟩
  | _=>exact q1.elim⟩
def El{R:Addr->qT->Prop}{pl:Sem Bool}(he:E3 X o ta)(hR:∀C sp,R C sp->xk X.prog X.w X.K X.mg X.base k m C (Ng X.K sp))(hr:rD k X.A)(ha:A3 X (e::es) t) (WH:AV X e es:=by rfl) (WA:Cd X pos es:=by rfl)
  (ht:eval (.Call (.Attribute o m Wn) (e::es) [] pos) X.env=(do
   let ov<-eval o X.env
   standAt Wn.atName
   let(f,first)<-holding [ov] (getMethod ov m pl)
   callWith pos f first (backTo pos (starEach (e::es) X.env)) (backToKw pos (keywordEach [] X.env))):=by rfl):
  E3 X (.Call (.Attribute o m Wn) (e::es) [] pos) (Ab m R ta t):=PE.mono (Lr (R:=UQ X.K R) he (λC sp' ⟨sp,h,z⟩=>by rw[z];exact hR C sp h) hr ha WH WA ht) IC
def BE{R:Addr->qT->Prop}{pl:Sem Bool}(he:E3 X o ta)(hR:∀C sp,R C sp->xk X.prog X.w X.K X.mg X.base k m C (Ng X.K sp))(hr:rD k X.A) (ht:eval (.Call (.Attribute o m Wn) [] [] pos) X.env=(do
   let ov<-eval o X.env
   standAt Wn.atName
   let(f,first)<-holding [ov] (getMethod ov m pl)
   callWith pos f first (backTo pos (starEach [] X.env)) (backToKw pos (keywordEach [] X.env))):=by rfl):
  E3 X (.Call (.Attribute o m Wn) [] [] pos) (Ab m R ta xF):=PE.mono (JT (R:=UQ X.K R) he (λC sp' ⟨sp,h,z⟩=>by rw[z];exact hR C sp h) hr ht) λσ H Q' h=>by
 obtain⟨δ,M,Q,hs,hm,ht,k⟩:=IC (t:=xF) σ H Q' h;refine⟨δ,M,Q,hs,hm,ht,λv H' d M' x1 x2 x3 x4=>?_⟩;obtain⟨a,C,dx,fs,sp,e1,e2,e3,e4,δ',Wq,Q'',y1,y2,y3,y4⟩:=k v H' d M' x1 x2 x3 x4;exact⟨a,C,dx,fs,sp,e1,e2,e3,e4,y4 [] H' [] Wq .nil y2 .refl y3⟩
structure Gd(K:pY)(H1:Hp)(J:It)(ds:List D)(ok:Mp->Prop):Prop where
 go:∀i H M,i<ds.length->HM K H M->ok M->qF K H1 H->J.go i H
 ow:∀i d H M x H',ds[i]?=some d->HM K H M->ok M->qF K H1 H->J.ow i H x H'->rh K H' d x/\HM K H' M/\qF K H H'
 stop:∀H M,HM K H M->ok M->qF K H1 H->J.stop ds.length H
abbrev Nm:=uM->Mp->(List D->(Mp->Prop)->Mp->Prop)->Prop
def VQ(K:pY)(wi:Nm):TI:=λσ H R'=>CN λδ M R=>ym K H σ δ/\HM K H M/\wi δ M R/\∀J H1 ds ok M1,Gd K H1 J ds ok->HM K H1 M1->qF K H H1->ok M1->R ds ok M1->R' J H1
def I3(X:Cx)(tg iter:Expr)(wi:Nm):Prop:=PI X tg iter (VQ X.K wi)
def PI.mono{X:Cx}{tg e:Expr}{t t':TI}(h:PI X tg e t)(m:∀σ H Q,t' σ H Q->t σ H Q):PI X tg e t':=λWk s σ H Q I q=>h Wk s σ H Q I (m σ H Q q)
variable {H1:Hp}
def MO{a:Addr}{ds:List D}:Gd K H1 (UD K a) ds (λM=>oy M a=some ds) where
 go:=λi H M hi hm ok _=>by obtain⟨xs,h1,h2,_⟩:=qa hm ok;obtain⟨x,e,_⟩:=h2.get (cW hi);exact⟨xs,x,h1,e⟩
 ow:=λi d H M x H' hd hm ok _ y=>by obtain⟨xs,h1,h2,_⟩:=qa hm ok;obtain⟨e,y⟩:=y;subst e;obtain⟨x',e,hx⟩:=h2.get hd;have:=y xs h1;rw[e]at this;cases this;exact⟨hx,hm,.refl⟩
 stop:=λH M hm ok _=>by obtain⟨xs,h1,h2,_⟩:=qa hm ok;exact⟨xs,h1,by rw[h2.length];exact dg _⟩
def Pj{a:Addr}{ds:List D}{xs:List V}(h1:uK K H1 a xs)(h2:pV K H1 ds xs):Gd K H1 (UJ K a) ds (λ_=>True) where
 go:=λi H M hi hm ok e1=>by obtain⟨x,e,_⟩:=h2.get (cW hi);exact⟨xs,x,e1.t _ _ h1,e⟩
 ow:=λi d H M x H' hd hm ok e1 y=>by obtain⟨e,y⟩:=y;subst e;obtain⟨x',e,hx⟩:=h2.get hd;have:=y xs (e1.t _ _ h1);rw[e]at this;cases this;exact⟨hx.mono e1,hm,.refl⟩
 stop:=λH M hm ok e1=>⟨xs,e1.t _ _ h1,by rw[h2.length];exact dg _⟩
def RX{a:Addr}{ds:List D}{xs:List V}(h1:Pi K H1 a xs)(h2:pV K H1 ds xs):Gd K H1 (UD K a) ds (λ_=>True) where
 go:=λi H M hi hm ok e1=>by obtain⟨x,e,_⟩:=h2.get (cW hi);exact⟨xs,x,(h1.mono e1).sq,e⟩
 ow:=λi d H M x H' hd hm ok e1 y=>by obtain⟨e,y⟩:=y;subst e;obtain⟨x',e,hx⟩:=h2.get hd;have:=y xs (h1.mono e1).sq;rw[e]at this;cases this;exact⟨hx.mono e1,hm,.refl⟩
 stop:=λH M hm ok e1=>⟨xs,(h1.mono e1).sq,by rw[h2.length];exact dg _⟩
def Jz{n:Nat}{lo:Int}:Gd K H1 (UE lo n) ((List.range n).map λi=>D.int (lo+(i:Nat))) (λ_=>True) where
 go:=λi H M hi hm ok e1=>by
  have z:i<n:=by simpa using hi
  exact z
 ow:=λi d H M x H' hd hm ok e1 y=>by
  obtain⟨e,y⟩:=y;subst e;subst y;have hi:i<n:=by
   have:=(cV.mp hd).1
   simpa using this
  have hd':d=D.int (lo+(i:Nat)):=by rw[dA,kr hi]at hd;exact(dh hd).symm
  subst hd';exact⟨.int,hm,.refl⟩
 stop:=λH M hm ok e1=>by show n<=_;simp
variable {scope:Scope}{ix:List (Option Nat)}{N':List Str}{iter Xb:Expr}{WV:List Expr}{wi:Nm}{g:Cp}{tt:Ac}{te:T3}{tg:Expr}
def TR(t:T3):Nm:=λδ M R=>t δ M λx M1=>match x with
 | .tup ds=>R ds (λ_=>True) M1
 | .ref a=>(oy M1 a).elim False λds=>R ds (λM=>oy M a=some ds) M1
 | .rl ds=>R ds (λ_=>True) M1
 | .str z=>R (z.cps.toList.map λc=>D.str ⟨#[c]⟩) (λ_=>True) M1
 | _=>False
def OH{K:pY}{H1:Hp}{z:Str}:Gd K H1 (Ve z) (z.cps.toList.map λc=>D.str ⟨#[c]⟩) (λ_=>True) where
 go:=λi H M hi hm ok _=>by
  show i<z.cps.size
  simpa using hi
 ow:=λi d H M x H' hd hm ok _ y=>by obtain⟨e,c,e1,e2⟩:=y;subst e e2;rw[dA,Array.getElem?_toList,e1]at hd;cases hd;exact⟨.str,hm,.refl⟩
 stop:=λH M hm ok _=>by show _=z.cps.size;simp
def qv{l:Expr}{t:T3}(h:E3 X l t)(hc:X.calm=true:=by rfl):I3 X tg l (TR t):=PI.mono (Ot hc h) λσ H R' zz=>x7 zz λδ M R hs hm ht k=>
 ⟨δ,M,_,hs,hm,ht,λv H1 d M1 hd Wm e1 q1=>by
  cases d with
  | tup ds=>obtain⟨a,xs,rfl,h1,h2⟩:=hd.mE;exact .inl ⟨a,rfl,.inr ⟨⟨xs,h1⟩,k _ H1 ds _ M1 (Pj h1 h2) Wm e1 trivial q1⟩⟩
  | ref a=>cases hd.mw;obtain⟨ds,e0,q⟩:=qI q1;obtain⟨xs,h1,h2,_⟩:=qa Wm e0;exact .inl ⟨a,rfl,.inl ⟨⟨xs,h1⟩,k _ H1 ds _ M1 MO Wm e1 e0 q⟩⟩
  | str z=>exact .inr ⟨z,hd.str_inv,k _ H1 _ _ M1 OH Wm e1 trivial q1⟩
  | rl ds=>obtain⟨a,xs,rfl,h1,h2⟩:=hd.mP;exact .inl ⟨a,rfl,.inl ⟨⟨xs,h1.sq⟩,k _ H1 ds _ M1 (RX h1 h2) Wm e1 trivial q1⟩⟩
  | _=>exact q1.elim⟩
def T6(t:wW):Nm:=λδ M R=>t δ M λds M1=>match ds with
 | [.int j]=>(-(2 ^ 62)<=j/\j<2 ^ 62)/\R ((List.range j.toNat).map λi=>D.int (0+(i:Nat))) (λ_=>True) M1
 | [.int i,.int j]=>(-(2 ^ 62)<=i/\i<2 ^ 62/\-(2 ^ 62)<=j/\j<2 ^ 62)/\R ((List.range (j - i).toNat).map λn=>D.int (i+(n:Nat))) (λ_=>True) M1
 | _=>False
def vO{a:Expr}{ta:wW}(hg:Gl X "range")(hm:X.mg "range"=none)(ha:A3 X [a] ta)(hs:starEach [a] X.env=[(false,eval a X.env)]:=by rfl):I3 X tg (.Call (.Name "range" p) [a] [] pos) (T6 λδ M Q=>ta δ M λds M1=>ds.length=1/\Q ds M1):=
 PI.mono (JC hg hm ha hs) λσ H R' zz=>x7 zz λδ M R hs hm ht k=>⟨δ,M,_,hs,hm,ht,λvs H1 ds M1 hd Wm e1 q1=>by
  obtain⟨hl,q1⟩:=q1;split at q1
  .obtain⟨v,rfl,hv⟩:=rM hd;cases hv.int_inv;exact⟨_,rfl,q1.1.1,q1.1.2,k _ H1 _ _ M1 Jz Wm e1 trivial q1.2⟩
  .simp at hl
  .exact q1.elim⟩
def DY(g:Cp)(tb:wV)(ok:Mp->Prop)(E:Gw):List D->uM->Mp->Prop
 | [],δ,M=>E.nx δ M
 | d::r,δ,M=>g d δ M λδ2 M2=>tb {E with nx:=λδ' M'=>ok M'/\DY g tb ok E r δ' M',ct:=λδ' M'=>ok M'/\DY g tb ok E r δ' M',bk:=E.nx} δ2 M2
def UV(wi:Nm)(g:Cp)(tb:wV):wV:=λE δ M=>wi δ M λds ok M1=>DY g tb ok E ds δ M1
def uB{iter:Expr}{body:List Stmt}{wi:Nm}{g:Cp}{tb:wV}(hp:PassesOwn (model X.prog X.w) X.A X.env X.xe)(hc:X.calm=true)(hi:I3 X tg iter wi)(hg:G3 X tg g)(hb:Hv X body tb) (hs:∀x,foldedSetIterable iter X.env x=pure x:=by intro _;rfl):S3 X (.For tg iter body [] pos) (UV wi g tb):=PS.mono (Sj hp hc hi hg hb hs) λD' σ H zz=>Jr zz λδ M E hs hm ht k1 k2 k3 k4=>
 ⟨δ,M,_,hs,hm,ht,λJ H1 ds ok M1 S Wm e1 ok1 q1=>by
  refine⟨λi m σ' H'=>m=ds.length - i/\i<=ds.length/\∃δ' M',ym X.K H' σ' δ'/\HM X.K H' M'/\ok M'/\qF X.K H1 H'/\σ'.length=σ.length/\DY g tb ok E (ds.drop i) δ' M',⟨ds.length,by simp,eX _,δ,M1,hs.mono e1,Wm,ok1,.refl,rfl,by simpa using q1⟩,?_⟩
  rintro i m σ' H' ⟨rfl,hi,δ',M',YU,XO,Zn,e',l',q'⟩
  by_cases Wx:i<ds.length
  .rw[gc Wx]at q';refine .inr ⟨S.go i H' M' Wx XO Zn e',λσ2 H2=>∃δ2 M2,ym X.K H2 σ2 δ2/\HM X.K H2 M2/\ok M2/\qF X.K H1 H2/\σ2.length=σ.length/\DY g tb ok E (ds.drop (i+1)) δ2 M2,λσ2 H2 z=>⟨ds.length - (i+1),by omega,rfl,Wx,z⟩,λx H2 y=>?_⟩;obtain⟨hx,WB,e2⟩:=S.ow i ds[i] H' M' x H2 (cW Wx) XO Zn e' y;refine⟨ds[i],δ',M',_,hx,YU.mono e2,WB,q',λσ3 H3 δ3 M3 x1 x2 x3 x4 x5=>?_⟩;refine⟨δ3,M3,_,x1,x2,x5,λσ4 H4 δ4 M4 y1 y2 y3 y4 y5=>?_,λv H4 d M4 y1 y2 y3 y4=>?_,λσ4 H4 δ4 M4 y1 y2 y3 y4 y5=>?_,λσ4 H4 δ4 M4 y1 y2 y3 y4 y5=>?_⟩
   .exact⟨δ4,M4,y1,y2,y5.1,e'.trans (e2.trans (x3.trans y3)),by rw[y4,x4,l'],y5.2⟩
   .exact k2 v H4 d M4 y1 y2 (e1.trans (e'.trans (e2.trans (x3.trans y3)))) y4
   .exact k1 σ4 H4 δ4 M4 y1 y2 (e1.trans (e'.trans (e2.trans (x3.trans y3)))) (by rw[y4,x4,l']) y5
   .exact⟨δ4,M4,y1,y2,y5.1,e'.trans (e2.trans (x3.trans y3)),by rw[y4,x4,l'],y5.2⟩
  .have e:i=ds.length:=by omega
   subst e;rw[jB]at q';exact .inl ⟨S.stop H' M' XO Zn e',k1 σ' H' δ' M' YU XO (e1.trans e') l' q'⟩⟩
def Oo(ix:List (Option Nat))(δ:uM):uM:=ix.map λo=>o.bind λi=>(δ[i]?).join
def Nr{K:pY}{H:Hp}{σ:St}{δ:uM}{ix:List (Option Nat)}(h:ym K H σ δ):ym K H (NL ix σ) (Oo ix δ):=λi d q=>by
 unfold Oo at q;unfold NL;rw[dA]at q ⊢;cases e:ix[i]? with
 | none=>rw[e]at q;cases q
 | some o=>
  rw[e]at q;cases o with
  | none=>cases q
  | some j=>
   have q':(δ[j]?).join=some d:=dh q;have e4:δ[j]?=some (some d):=by
    cases r:δ[j]? with
    | none=>rw[r]at q';cases q'
    | some w=>rw[r]at q';exact eE some q'
   obtain⟨v,e5,hv⟩:=h j d e4;refine⟨v,?_,hv⟩;show some ((σ[j]?).join)=some (some v);rw[e5];rfl
def uC(g:Cp)(tt:Ac)(te:T3)(ok:Mp->Prop)(Q:DK):List D->List D->uM->Mp->Prop
 | [],acc,_,M=>acc.length<=sizeLine/\∀p,M p=none->Q (.ref p) (oZ M p (.lst acc))
 | d::r,acc,δ,M=>acc.length<sizeLine/\g d δ M λδ2 M2=>tt δ2 M2 λb M3=>if b=true then te δ2 M3 λy M4=>ok M4/\uC g tt te ok Q r (acc++[y]) δ2 M4 else ok M3/\uC g tt te ok Q r acc δ2 M3
def Lm(ix:List (Option Nat))(wi:Nm)(g:Cp)(tt:Ac)(te:T3):T3:=λδ M Q=>wi δ M λds ok M1=>uC g tt te ok Q ds [] (Oo ix δ) M1
def F3(X:Cx)(WV:List Expr)(t:Ac):Prop:=PF X WV (Sr X.K t)
def PF.mono{X:Cx}{e:List Expr}{t t':TT}(h:PF X e t)(m:∀σ H Q,t' σ H Q->t σ H Q):PF X e t':=λWk s σ H Q I q=>h Wk s σ H Q I (m σ H Q q)
def B1:Ac:=λ_ M Q=>Q true M
def rC:F3 X [] B1:=PF.mono RF λσ H Q' zz=>x7 zz λδ M Q hs hm ht k=>k true H M hm .refl ht
def uX{c:Expr}{t:Ac}(h:B3 X c t):F3 X [c] t:=Ri h
def IG:∀σ H Q',lo X.K (Lm ix wi g tt te) σ H Q'->KS ix (VQ X.K wi) (Uz X.K g) (Sr X.K tt) (lo X.K te) σ H Q':=λσ H Q' zz=>x7 zz λδ M Q hs hm ht k=>
 ⟨δ,M,_,hs,hm,ht,λJ H1 ds ok M1 S Wm e1 ok1 q1=>by
  refine⟨λi m ys σ' H'=>m=ds.length - i/\i<=ds.length/\∃δ' M' acc,ym X.K H' σ' δ'/\HM X.K H' M'/\pV X.K H' acc ys/\ok M'/\qF X.K H1 H'/\uC g tt te ok Q (ds.drop i) acc δ' M',⟨ds.length,by simp,eX _,Oo ix δ,M1,[],Nr (hs.mono e1),Wm,.nil,ok1,.refl,by simpa using q1⟩,?_⟩
  rintro i m ys σ' H' ⟨rfl,hi,δ',M',acc,YU,XO,XX,Zn,e',q'⟩
  by_cases Wx:i<ds.length
  .rw[gc Wx]at q';obtain⟨hz,q'⟩:=q';refine .inr ⟨S.go i H' M' Wx XO Zn e',by rw[<-XX.length];exact hz,λx H2 y=>?_⟩;obtain⟨hx,WB,e2⟩:=S.ow i ds[i] H' M' x H2 (cW Wx) XO Zn e' y;refine⟨ds[i],δ',M',_,hx,YU.mono e2,WB,q',λσ3 H3 δ3 M3 x1 x2 x3 x4 x5=>?_⟩;refine⟨δ3,M3,_,x1,x2,x5,λb H4 M4 y2 y3 y5=>?_⟩;cases b with
   | true=>rw[c9 rfl]at y5 ⊢;refine⟨δ3,M4,_,x1.mono y3,y2,y5,λv H5 d M5 z1 z2 z3 z4=>⟨ds.length - (i+1),by omega,rfl,Wx,δ3,M5,acc++[d],x1.mono (y3.trans z3),z2,(XX.mono (e2.trans (x3.trans (y3.trans z3)))).snoc z1,z4.1,e'.trans (e2.trans (x3.trans (y3.trans z3))),z4.2⟩⟩
   | false=>rw[cY dw]at y5 ⊢;exact⟨ds.length - (i+1),by omega,rfl,Wx,δ3,M4,acc,x1.mono y3,y2,XX.mono (e2.trans (x3.trans y3)),y5.1,e'.trans (e2.trans (x3.trans y3)),y5.2⟩
  .have e:i=ds.length:=by omega
   subst e;rw[jB]at q';refine .inl ⟨S.stop H' M' XO Zn e',by rw[<-XX.length];exact q'.1,λp hp=>?_⟩;have e5:qF X.K H' (upd H' p (.lst ys)):=.new hp;exact k _ _ _ _ .ref (XO.new (c:=.lst acc) hp ⟨_,pS,XX.mono e5⟩) (e1.trans (e'.trans e5)) (q'.2 p (XO.fresh hp))⟩
def qw(hc:X.calm=true)(S:rJ X scope ix N')(hi:I3 X tg iter wi)(hg:∀{C s0 H0 ex},G3 (X.comp scope N' C s0 H0 ex) tg g)(ht:∀{C s0 H0 ex},F3 (X.comp scope N' C s0 H0 ex) WV tt)(he:∀{C s0 H0 ex},E3 (X.comp scope N' C s0 H0 ex) Xb te) (hs:∀x,foldedSetIterable iter X.env x=pure x:=by intro _;rfl):E3 X (.ListComp Xb [⟨tg,iter,WV,0⟩] scope pos) (Lm ix wi g tt te):=PE.mono (O7 (g:=Uz X.K g) (tt:=Sr X.K tt) (te:=lo X.K te) hc S hi (λ_ _ _ _=>hg) (λ_ _ _ _=>ht) (λ_ _ _ _=>he) hs) IG
def uQ{i:Nat}{x:Str}{px X5:Pos}(hN:X.N.Nodup)(YB:X.N[i]?=some x)(hx:Kd X.env.scope x)(hc:X.calm=true)(S:rJ X scope ix N')(hi:I3 X tg iter wi)(hg:∀{C s0 H0 ex},G3 (X.comp scope N' C s0 H0 ex) tg g)(ht:∀{C s0 H0 ex},F3 (X.comp scope N' C s0 H0 ex) WV tt) (he:∀{C s0 H0 ex},E3 (X.comp scope N' C s0 H0 ex) Xb te) (XN:swapsWith (.ListComp Xb [⟨tg,iter,WV,0⟩] scope pos) (some (.Name x px)) X5.line X.env=pure true:=by rfl)
  (hf:Kf X x:=by first|exact .inl rfl|exact .inr rfl|assumption) (hs:∀x,foldedSetIterable iter X.env x=pure x:=by intro _;rfl):
  S3 X (.Assign [.Name x px] (.ListComp Xb [⟨tg,iter,WV,0⟩] scope pos) X5) (FR (Lm ix wi g tt te) (ud i)):=PS.nE (GX (g:=Uz X.K g) (tt:=Sr X.K tt) (te:=lo X.K te) hN YB hx hc S hi (λ_ _ _ _=>hg) (λ_ _ _ _=>ht) (λ_ _ _ _=>he) XN hf hs) λD' σ H hl zz=>Jr zz λδ M D hs hm ht k1 k2 k3 k4=>
 IG σ H _ ⟨δ,M,_,hs,hm,ht,λv H1 d M1 hd Wm e1 q1=>k1 _ H1 _ M1 ((hs.mono e1).set hd (by rw[hl];exact(cV.mp YB).1)) Wm e1 (by simp) q1⟩
def VO{A:Ar}{k:Nat}(hr:rD k A):A.units+9<cLine:=by have:=hr.units;omega
def GW(sc:Scope)(N:List Str)(scope:Scope)(ix:List (Option Nat))(N':List Str):Bool:=
 (scope.kind==.function)&&(scope.names.all λy=>!(y.2==.cell))&&(scope.names.all λy=>!(y.2==.local)||(scope.names.lookup y.1==some .local))&&
 (scope.names.all λy=>!(y.2==.free)||(sc.names.lookup y.1==some .cell)||(sc.names.lookup y.1==some .free))&&(ix.length==N'.length)&&
 ((ix.zip N').all λp=>match p.1 with|none=>true|some i=>(N[i]?==some p.2)&&(scope.names.lookup p.2==some .free))
def S7{X:Cx}{scope:Scope}{ix:List (Option Nat)}{N':List Str}(h:GW X.env.scope X.N scope ix N'=true):rJ X scope ix N':=by
 unfold GW at h;simp only[dU]at h;obtain⟨⟨⟨⟨⟨h1,h2⟩,h3⟩,h4⟩,h5⟩,h6⟩:=h;refine⟨by simpa using h1,λy hy e=>?_,λy hy e=>?_,λy hy e=>?_,by simpa using h5,λj i x e1 e2=>?_⟩
 .have:=eL.mp h2 y hy;rw[e]at this;simp at this
 .have:=eL.mp h3 y hy;rw[e]at this
  simpa using this
 .have:=eL.mp h4 y hy;rw[e]at this
  simpa using this
 .have hm:(some i,x)∈ix.zip N':=by
   have:(ix.zip N')[j]?=some (some i,x):=by rw[List.getElem?_zip_eq_some];exact⟨e1,e2⟩
   exact fQ this
  have:=eL.mp h6 _ hm
  simpa using this
section
variable {a b:Expr}
def IX(op Xa:CmpOp)(ta tb tc:T3):T3:=λδ M Q=>ta δ M λx M1=>tb δ M1 λy M2=>ND op x y M2 λz M3=>match z with
 | .bl k=>if k=true then tc δ M3 λw M4=>ND Xa y w M4 Q else Q (.bl false) M3
 | _=>False
def tR{op Xa:CmpOp}(hu:X.A.units+9<cLine)(ha:E3 X a ta)(hb:E3 X b tb)(hc:E3 X c tc)(hmk:lastMarks [op,Xa] [b,c]=false:=by rfl):
  E3 X (.Compare a [op,Xa] [b,c] pos) (IX op Xa ta tb tc):=PE.mono (LS (Jg op hu) (Jg Xa hu) ha hb hc hmk) λσ H Q' zz=>x7 zz λδ M Q hs hm ht k=>
 ⟨δ,M,_,hs,hm,ht,λv H1 x M1 hx Wm e1 q1=>⟨δ,M1,_,hs.mono e1,Wm,q1,λu H2 y M2 hy WB e2 q2=>⟨x,y,M2,_,hx.mono e2,hy,WB,q2,λw H3 z M3 hz Xe e3 q3=>by
  cases z with
  | bl c=>
   refine⟨c,hz.mB,?_⟩;cases c with
   | true=>refine(c9 rfl).mpr ⟨δ,M3,_,hs.mono (e1.trans (e2.trans e3)),Xe,(c9 rfl).mp q3,λw' H4 d M4 hd hm4 e4 q4=>⟨y,d,M4,Q,hy.mono (e3.trans e4),hd,hm4,q4,vq (e1.trans (e2.trans (e3.trans e4))) k⟩⟩
   | false=>exact(cY dw).mpr (k _ H3 _ M3 .bl Xe (e1.trans (e2.trans e3)) ((cY dw).mp q3))
  | _=>exact q3.elim⟩⟩⟩
def FS{op Xa:CmpOp}(hu:X.A.units+9<cLine)(ha:E3 X a ta)(hb:E3 X b tb)(hc:E3 X c tc)(hmk:lastMarks [op,Xa] [b,c]=false:=by rfl):
  B3 X (.Compare a [op,Xa] [b,c] pos) (b3 (IX op Xa ta tb tc)):=PT.mono (Lq (Jg op hu) (Jg Xa hu) ha hb hc hmk) λσ H Q' zz=>x7 zz λδ M Q hs hm ht k=>
 ⟨δ,M,_,hs,hm,ht,λv H1 x M1 hx Wm e1 q1=>⟨δ,M1,_,hs.mono e1,Wm,q1,λu H2 y M2 hy WB e2 q2=>⟨x,y,M2,_,hx.mono e2,hy,WB,q2,λw H3 z M3 hz Xe e3 q3=>by
  cases z with
  | bl c=>
   refine⟨c,hz.mB,?_⟩;cases c with
   | true=>
    refine(c9 rfl).mpr ⟨δ,M3,_,hs.mono (e1.trans (e2.trans e3)),Xe,(c9 rfl).mp q3,λw' H4 d M4 hd hm4 e4 q4=>⟨y,d,M4,_,hy.mono (e3.trans e4),hd,hm4,q4,λw5 H5 d5 M5 hd5 hm5 e5 q5=>?_⟩⟩;cases d5 with
    | bl c5=>exact⟨c5,hd5.mB,k c5 H5 M5 hm5 (e1.trans (e2.trans (e3.trans (e4.trans e5)))) q5⟩
    | _=>exact q5.elim
   | false=>exact(cY dw).mpr ⟨false,rfl,k false H3 M3 Xe (e1.trans (e2.trans e3)) ((cY dw).mp q3)⟩
  | _=>exact q3.elim⟩⟩⟩
structure U6(K:pY)(C:Addr):Prop where
 ha:W.findIn K (.ref C) "__class__"=some (some (.builtin "object.__class__"))
 hn:W.specialIn K (.builtin "object.__class__") "__get__"=some (some (.builtin "getset_descriptor.__get__"))
 htk:W.takesIn K (.builtin "object.__class__")=some true
 hm:W.mroIn K C (.type "object")=some true
def GH:Option uk->Option Vl
 | some (.lst _)=>some (.type "list")
 | some (.ins C _)=>some (.ref C)
 | some (.dk _)=>some (.type "dict")
 | some (.exc _)=>none
 | none=>none
def VV(M:Mp):D->Option Vl
 | .mC=>some (.type "NoneType")
 | .bl _=>some (.type "bool")
 | .int _=>some (.type "int")
 | .str _=>some (.type "str")
 | .tup _=>some (.type "tuple")
 | .ref a=>GH (M a)
 | .ty _=>none
 | .rl _=>some (.type "list")
def Vx:D->Option Vl
 | .ref C=>some (.ref C)
 | .ty n=>some (.type n)
 | _=>none
def P3(K:pY)(ds:List D)(M:Mp)(Q:DK):Prop:=match ds with
 | [x,c]=>(VV M x).elim False λt=>(Vx c).elim False λcv=>(∀C,t=.ref C->U6 K C)/\(W.kitOne K t cv).elim False λb=>Q (.bl b) M
 | _=>False
def JG:C3 X (.builtin "isinstance") (P3 X.K):=by
 intro Wk s σ H vs us Q' I rv h;obtain⟨ds,M,Q,hd,hm,q,k⟩:=h;unfold P3 at q;split at q
 .rename_i x c;obtain⟨v,u,rfl,hv,hw⟩:=E2 hd;obtain⟨t,et,q⟩:=qI q;obtain⟨cv,ec,hC,q⟩:=qI q;obtain⟨b,eb,qb⟩:=qI q;obtain⟨uv,uw,rfl,YD,rv2⟩:=LN rv;have ecv:uw=cv:=by
   cases c with
   | ref C=>cases hw.mw;cases ec;exact rv2
   | ty n=>cases hw.nH;cases ec;exact rv2
   | _=>cases ec
  subst ecv;have Wp:∀tk,EP X Wk σ Q' (.bool b) {s with toks:=tk}:=λtk=>⟨.bl b,H,I.tok tk,rfl,k _ _ _ _ .bl hm .refl qb⟩;cases x with
  | mC=>cases hv.mz;cases et;exact um I YD .mC eb Wp
  | bl y=>cases hv.mB;cases et;exact um I YD (.bl y) eb Wp
  | int y=>cases hv.int_inv;cases et;exact um I YD (.int y) eb Wp
  | str y=>cases hv.str_inv;cases et;exact um I YD (.str y) eb Wp
  | tup ds=>obtain⟨a,xs,rfl,h1,h2⟩:=hv.mE;cases et;cases YD;obtain⟨its,r,p,_⟩:=I.tuple h1;obtain⟨o,g1,g2,_⟩:=p;exact gi W.kitx_tuple I.mQ ⟨o,g1,g2⟩ eb (λz=>nomatch z) Wp
  | ref a=>
   cases hv.mw;have et:GH (M a)=some t:=et;cases e:M a with
   | none=>rw[e]at et;cases et
   | some cell=>
    rw[e]at et;have ok:=hm a cell e;cases cell with
    | lst ds=>cases et;obtain⟨xs,e1,_⟩:=ok;exact um I YD (.lst e1) eb Wp
    | ins C fs=>cases et;obtain⟨dx,vs,e1,cl,_⟩:=ok;obtain⟨i1,i2,i3,i4⟩:=hC C rfl;exact um I YD (.ins e1 cl i1 i2 i3 i4) eb Wp
    | dk kvs=>cases et;obtain⟨vs,e1,_⟩:=ok;exact um I YD (.dK e1) eb Wp
    | exc C=>cases et
  | ty n=>cases et
  | rl ds=>obtain⟨p,xs,rfl,h1,h2⟩:=hv.mP;cases et;cases YD;obtain⟨its,r,⟨o,n,g1,g2,_⟩,_⟩:=I.list h1.sq;exact gi ls I.mQ ⟨o,g1,g2⟩ eb (λz=>nomatch z) Wp
 .exact q.elim
def FJ:List D->Option (List Bool)
 | []=>some []
 | .bl b::r=>(FJ r).map (b::·)
 | _::_=>none
theorem D7{K:pY}{H:Hp}:∀{ds:List D} {bs:List Bool} {xs:List V} {us:List Vl},FJ ds=some bs->pV K H ds xs->qo xs us->us=bs.map Value.bool
 | [],bs,xs,us,e,h,r=>by cases e;have:=h.nil_inv;subst this;cases r;rfl
 | d::ds,bs,xs,us,e,h,r=>by
  cases d with
  | bl b=>
   obtain⟨y,ys,rfl,h1,h2⟩:=h.inv;cases h1.mB;unfold FJ at e;cases q:FJ ds with
   | none=>rw[q]at e;cases e
   | some cs=>
    rw[q]at e;cases e;cases r with
    | cons r1 r2=>cases r1;rw[D7 q h2 r2];rfl
  | _=>cases e
def SV(ds:List D)(M:Mp)(Q:DK):Prop:=match ds with
 | [.ref a]=>(oy M a).elim False λes=>(FJ es).elim False λbs=>Q (.bl (bs.all id)) M
 | _=>False
def E9(hc:X.calm=true):C3 X (.builtin "all") SV:=by
 intro Wk s σ H vs us Q' I rv h;obtain⟨ds,M,Q,hd,hm,q,k⟩:=h;unfold SV at q;split at q
 .rename_i a;obtain⟨v,rfl,hv⟩:=rM hd;obtain⟨es,e0,q⟩:=qI q;obtain⟨bs,e1,q⟩:=qI q;cases hv.mw;obtain⟨u,rfl,ru⟩:=yb rv;cases ru;obtain⟨xs,h1,h2,_⟩:=qa hm e0;obtain⟨its,r,pl,hz⟩:=I.list h1;have Zo:=D7 e1 h2 r;subst Zo;have WK:a≠s.heap.objs.size:=by obtain⟨o,_,e,_⟩:=pl;exact dG (dv e)
  refine call_all_walk (gA pl.isList ?_);refine⟨s.heap.objs.size,_,_,_,_,_,λi=>(bs[i]?).getD true,rfl,j8 (A:=X.A.in1) (I.ok.hd hc) _ a WK (bs.map Value.bool).toArray,⟨⟨_,dF _ rfl,rfl,rfl⟩,?_⟩,λi v s' Q E hP hQ=>?_,λh' tk hk=>?_⟩
  .obtain⟨o,n,e,c,d,q⟩:=pl;exact⟨o,cZ _ e,c,n,q⟩
  .simp only[iC,dA]at hP;cases e2:bs[i]? with
   | none=>rw[e2]at hP;cases hP
   | some b=>rw[e2]at hP;cases hP;have hQ:Q ((bs[i]?).getD true) s':=hQ;rw[e2]at hQ;exact fi hQ
  .have ea:(List.range (bs.map Value.bool).toArray.size).all (λi=>(bs[i]?).getD true)=bs.all id:=by
    rw[dq,cT];rw[gg,eL,eL];constructor
    .intro z b hb;obtain⟨i,hi,e⟩:=gJ hb;have:=z i (gk.mpr hi);rw[cW hi,e]at this;exact this
    .intro z i hi;have Yk:=gk.mp hi;rw[cW Yk];exact z _ (hZ Yk)
   rw[ea];refine⟨.bl (bs.all id),H,?_,rfl,k _ _ _ _ .bl hm .refl q⟩;exact I.kept (h':=h') (t':=tk) λb o e=>hk b o (by simpa using dG (dv e)) (cZ _ e)
 .exact q.elim
def Ak(x:D):List D->Option Nat
 | []=>none
 | d::r=>if PD d x=true then some 0 else(Ak x r).map (·+1)
theorem ID{K:pY}{H:Hp}{e:D}{w:V}(g:rh K H e w)(fe:uD e=true):∀{ds:List D} {xs:List V} {us:List Vl} {j:Nat},pV K H ds xs->qo xs us->ds.all uD=true->Ak e ds=some j->
  ∃h:j<us.length,E4 w us[j]=true/\∀m (hm:m<us.length),m<j->E4 w us[m]=false
 | [],_,_,_,_,_,_,q=>by cases q
 | d::ds,_,us,j,h,r,fl,q=>by
  obtain⟨y,ys,rfl,h1,h2⟩:=h.inv;rw[ft,dU]at fl;cases r with
  | @cons _ u _ us' r1 r2=>
   have eu:E4 w u=PD d e:=by rw[HC r1 (yW h1 fl.1),HF h1 g fl.1 fe]
   unfold Ak at q;by_cases hq:PD d e=true
   .rw[c9 hq]at q;cases q;exact⟨by simp,by simpa [eu]using hq,λm _ hm=>absurd hm (Nat.not_lt_zero m)⟩
   .rw[cY hq]at q;cases q2:Ak e ds with
    | none=>rw[q2]at q;cases q
    | some j'=>
     rw[q2]at q;cases q;obtain⟨hl,e1,e2⟩:=ID g fe h2 r2 fl.2 q2;refine⟨by simpa using hl,by simpa using e1,λm hm Wx=>?_⟩;cases m with
     | zero=>simpa [eu]using hq
     | succ m=>simpa using e2 m (by simpa using hm) (by have z:m+1<j'+1:=Wx;omega)
def Q2(x:D)(ds:List D)(M:Mp)(Q:DK):Prop:=match x,ds with
 | .ref a,[y]=>(oy M a).elim False λes=>uD y=true/\es.all uD=true/\(Ak y es).elim False λj=>Q (.int (j:Nat)) M
 | _,_=>False
def M3(X:Cx)(id:String)(r:D->List D->Mp->DK->Prop):Prop:=VT X id λvx vs H Q'=>∃x ds M Q,rh X.K H x vx/\pV X.K H ds vs/\HM X.K H M/\r x ds M Q/\Up X.K H Q' Q
def Lk:M3 X "list.index" Q2:=by
 intro Wk s σ H vx vs v us Q' I rx rv h;obtain⟨x,ds,M,Q,hx,hd,hm,q,k⟩:=h;unfold Q2 at q;split at q
 .rename_i a y;obtain⟨es,e0,f1,f2,q⟩:=qI q;obtain⟨j,e1,q⟩:=qI q;cases hx.mw;cases rx;obtain⟨w,rfl,hw⟩:=rM hd;obtain⟨u,rfl,ru⟩:=yb rv;obtain⟨xs,h1,h2,rd⟩:=qa hm e0;obtain⟨hz,its,n,r,g⟩:=rd.ok I.mG;obtain⟨hl,p1,p2⟩:=ID hw f1 h2 r f2 e1;have hlz:its.length<=sizeLine:=by rw[<-r.length];exact hz
  have h63:=yG;refine jp F.slot_list_index ⟨_,g,rfl⟩ F.entry_list_index (F.args_list_index_2 _ _) (SeqAt.list_indexAt a its.toArray n none #[] u (E4 w) j (by simpa using hl) (by omega) (by simpa using p1) λm hm Wx=>by simpa using p2 m (by simpa using hm) Wx) ⟨g,?_,?_⟩
  .intro z hz';exact vV ru (yW hw f1) r (DW h2 f2) z (by simpa using hz')
  .exact⟨.int (j:Nat),H,I.tok _,⟨_,rfl⟩,k _ _ _ _ .int hm .refl q⟩
 .exact q.elim
def P8(M:Mp):D->Prop
 | .ref a=>(oy M a).isSome=true
 | _=>False
def VF(r:D->List D->Mp->DK->Prop)(to:T3)(t:wW):T3:=λδ M Q=>to δ M λx M1=>P8 M1 x/\t δ M1 λds M2=>r x ds M2 Q
def Rc{K:pY}{H:Hp}{M:Mp}{x:D}{v:V}(hm:HM K H M)(h:rh K H x v)(l:P8 M x):UI K "list" v H:=by
 cases x with
 | ref a=>cases h.mw;obtain⟨ds,e⟩:=jw.mp (show(oy M a).isSome=true from l);obtain⟨xs,h1,_⟩:=qa hm e;exact .inl ⟨rfl,xs,h1⟩
 | _=>exact l.elim
def Qj{id:String}{name:Str}{r:D->List D->Mp->DK->Prop}(slot:Slot "list" name id)(hty:typeOf (.builtin id)=pure (.type "method_descriptor"))(hm:M3 X id r)(ho:E3 X o ta)(ha:A3 X (e::es) t) (WJ:attributeBase o name X.env (eval o X.env)=eval o X.env:=by rfl)
  (Xw:((backTo pos (starEach (e::es) X.env)).all (λx=>!x.1)&&(backToKw pos (keywordEach [] X.env)).all (λx=>x.1.isSome)
   &&decide ((e::es).length+([]:List Keyword).length+(if ([]:List Keyword).isEmpty then 0 else 1)<30))=true:=by rfl)
  (WT:(Wn.endLine==pos.line)=true:=by rfl) (hs:AV X e es:=by rfl) (WD:Cd X pos es:=by rfl):
  E3 X (.Call (.Attribute o name Wn) (e::es) [] pos) (VF r ta t):=PE.mono (SN PySem.F.plainAttrs_list slot hty hm ho ha WJ Xw WT hs WD) λσ H Q' zz=>x7 zz λδ M Q hs hm ht k=>
 ⟨δ,M,_,hs,hm,ht,λv H1 x M1 hx Wm e1 q1=>⟨Rc Wm hx q1.1,δ,M1,_,hs.mono e1,Wm,q1.2,λvs H2 ds M2 Xv WB e2 q2=>⟨x,ds,M2,Q,hx.mono e2,Xv,WB,q2,vq (e1.trans e2) k⟩⟩⟩
def xm(ho:E3 X o ta)(ha:A3 X (e::es) t) (WJ:attributeBase o "index" X.env (eval o X.env)=eval o X.env:=by rfl)
  (Xw:((backTo pos (starEach (e::es) X.env)).all (λx=>!x.1)&&(backToKw pos (keywordEach [] X.env)).all (λx=>x.1.isSome)
   &&decide ((e::es).length+([]:List Keyword).length+(if ([]:List Keyword).isEmpty then 0 else 1)<30))=true:=by rfl)
  (WT:(Wn.endLine==pos.line)=true:=by rfl) (hs:AV X e es:=by rfl) (WD:Cd X pos es:=by rfl):
  E3 X (.Call (.Attribute o "index" Wn) (e::es) [] pos) (VF Q2 ta t):=Qj PySem.F.slot_list_index PySem.F.type_list_index Lk ho ha WJ Xw WT hs WD
structure KY(K:pY)(C:Addr)(m:Str)(f:Addr):Prop where
 hg:W.specialIn K (.ref C) "__getattribute__"=some (some (.builtin "type.__getattribute__"))
 rd:W.readsIn K C (.type "type")=true
 fc:W.findCls K (.ref C) (.type "type") m=some (.val (.ref f))
def O1{sp:Sp}{t:TA}{pl:Sem Bool}(cm:KY X.K C m f)(F:wR X.prog X.w X.K X.mg X.base Ni k f fd ps sp)(hr:rD k X.A)(hg:Gl X x)(hm:X.mg x=some (.ref C))(hk:W.keepIn X.K (.ref f)=true)(hb:uy X.K fd ps [])(ha:PA X (e::es) t) (WE:yk x:=by decide) (WH:AV X e es:=by rfl) (WA:Cd X pos es:=by rfl)
  (ht:eval (.Call (.Attribute (.Name x p) m Wn) (e::es) [] pos) X.env=(do
   let ov<-eval (.Name x p) X.env
   standAt Wn.atName
   let(f,first)<-holding [ov] (getMethod ov m pl)
   callWith pos f first (backTo pos (starEach (e::es) X.env)) (backToKw pos (keywordEach [] X.env))):=by rfl):
  PE X (.Call (.Attribute (.Name x p) m Wn) (e::es) [] pos) (λσ H Q=>t σ H λvs H1=>sp vs H1 Q E0):=by
 intro Wk s σ H Q I h;refine jN (pl:=pl) (wB I hg hm ?_ WE) ht;refine W.method_cls I.mQ cm.hg (W.cls_value I.mQ cm.rd cm.fc rfl ?_);refine iE (first:=[]) (h₀:=X.base) I.ok.mod.oh hk (rV (ha pos Wk _ σ H _ (I.tok _) h) λus s2 zz=>x5 zz λvs H2 I2 r q2=>⟨I2.mQ,?_⟩) WH WA;exact DH F hr hb .nil (Ga (X:=X)) I2 r (by rw[eY];exact q2)
def NF{pl:Sem Bool}(cm:KY X.K C m f)(F:Sv X.prog X.w X.K X.mg X.base k f fd ps sp)(hr:rD k X.A)(hg:Gl X x)(hm:X.mg x=some (.ref C))(hk:W.keepIn X.K (.ref f)=true)(hb:uy X.K fd ps [])(ha:A3 X (e::es) t) (WE:yk x:=by decide) (WH:AV X e es:=by rfl) (WA:Cd X pos es:=by rfl)
  (ht:eval (.Call (.Attribute (.Name x p) m Wn) (e::es) [] pos) X.env=(do
   let ov<-eval (.Name x p) X.env
   standAt Wn.atName
   let(f,first)<-holding [ov] (getMethod ov m pl)
   callWith pos f first (backTo pos (starEach (e::es) X.env)) (backToKw pos (keywordEach [] X.env))):=by rfl):
  E3 X (.Call (.Attribute (.Name x p) m Wn) (e::es) [] pos) (Dt sp t):=PE.mono (O1 cm F hr hg hm hk hb ha WE WH WA ht) λσ H Q' zz=>x7 zz λδ M Q hs hm ht k=>
 ⟨δ,M,_,hs,hm,ht,λvs H1 ds M1 hd Wm e1 q1=>⟨ds,M1,Q,hd,Wm,q1,vq e1 k⟩⟩
def qc:bootBuiltins "len"=some (.builtin "len"):=by decide+kernel
def RK:bootBuiltins "min"=some (.builtin "min"):=by decide+kernel
def Ck:bootBuiltins "isinstance"=some (.builtin "isinstance"):=by decide+kernel
def DF:bootBuiltins "all"=some (.builtin "all"):=by decide+kernel
def tW:bootBuiltins "tuple"=some (.type "tuple"):=by decide+kernel
def tI:bootBuiltins "list"=some (.type "list"):=by decide+kernel
def R0:bootBuiltins "str"=some (.type "str"):=by decide+kernel
def DT:bootBuiltins "dict"=some (.type "dict"):=by decide+kernel
def EN:bootBuiltins "enumerate"=some (.type "enumerate"):=by decide+kernel
def Rp:bootBuiltins "zip"=some (.type "zip"):=by decide+kernel
end
theorem _root_.L2.Inv.drawn{ch:List Addr}{T:Addr}{xs:List V}{its:List Vl}{h':Heap}{tk:Nat}(I:Inv X Wk σ H s)(Xg:∀b∈ch,Ah X Wk H b)(k:∀b o,b∉ch->s.heap.get? b=some o->h'.get? b=some o)(hT:s.heap.objs.size<=T)(hx:xs.length<=sizeLine) (rv:qo xs its) (ht:D3 h' T its.toArray):Inv X Wk σ (upd H T (.tup xs)) {s with heap:=h',toks:=tk}:=by
 have YE:H T=none:=I.mG.fresh hT;have nT:∀b o,s.heap.get? b=some o->b≠T:=λb o e=>dG (dH (dv e) hT);refine I.step (g':=s.gens) (d':=s.drawn) (ch:=ch) (λb hb=>⟨(Xg b hb).2.2.2.1,(Xg b hb).2.1,(Xg b hb).2.2.2.2.1,(Xg b hb).2.2.2.2.2⟩) (λb o _ _ hc e _=>k b o hc e) (λb o _ _ hc e _=>⟨o.slots,k b o hc e⟩) (λb o _ e n=>by rw[pL (nT b o e)];exact n)
  (λb o hc e=>⟨o,k b o hc e⟩) (λb ys e=>by rw[pL (qD e YE)];exact e) (λb o u e=>by rw[pL (qD e YE)];exact e) (λb ps e=>⟨#[],by rw[pL (qD e YE),e];simp⟩) (λm hm=>?_) (λb u e=>?_) I.bare
 .obtain⟨o,es,ep,ho,r⟩:=hm;exact⟨o,es,ep,k _ o (λz=>(Xg _ z).2.1 rfl) ho,r⟩
 .by_cases hb:b=T
  .subst hb;rw[pS]at e;cases e;exact⟨hx,its,rv,ht⟩
  .rw[pL hb]at e;refine(I.mG b u e).m7 (λc v hc q=>k c v (λz=>?_) q) (λc q=>by rw[pL (qD q YE)];exact q) (λc ys q=>by rw[pL (qD q YE)];exact q);have n:=(Xg c z).1;rcases hc with y|y
   .rw[y,e]at n;cases n
   .rw[y]at n;cases n
def VE(K:pY)(a:Addr):It:=
 ⟨λi H=>∃xs x,yJ K H a xs/\xs[i]?=some x,λi H x H'=>∃p y,x=.ref p/\H p=none/\H'=upd H p (.tup [.int (i:Nat),y])/\∀xs,yJ K H a xs->xs[i]?=some y,λi H=>∃xs,yJ K H a xs/\xs.length<=i⟩
def JQ{P:Pg}{w:Wo}{K:pY}{WL:List Expr}{n:Nat}{tp:Pos}(a e it:Addr)(hei:e≠it):FE P w K (.Tuple WL n tp) (VE K a) [e,it] e (λi h=>(∃old,IsEnum h e it (i:Nat) old)/\h.IsListIter it a i) where
 mem:=by simp
 obj:=λi h st b hb=>by
  obtain⟨⟨old,he⟩,o,e1,c,d⟩:=st;rcases df.mp hb with rfl|hb
  .exact⟨_,he,λv z=>by cases z⟩
  .rw[dD.mp hb];exact⟨o,e1,λv z=>by rw[d]at z;cases z⟩
 keep:=λi h h' st k=>by obtain⟨⟨old,he⟩,hi⟩:=st;exact⟨⟨old,k e (by simp) _ he⟩,hi.at λo q=>k it (by simp) o q⟩
 item:=by
  intro X hP hw hK hc i Wk s σ H E I hf st hg;subst hP hw hK;obtain⟨xs,x,hq,hx⟩:=hg;obtain⟨its,rv,p,hz⟩:=I.list hq;obtain⟨u,hu,ru⟩:=rv.get hx;obtain⟨⟨old,he⟩,hi⟩:=st;refine wpAny_pyNext_enum_item he hi p.isList (x:=u) (by simpa using hu) hei λh1 ho W9 hT hsz hk=>?_;refine⟨_,rfl,wpAny_letOwnedTupleGo_enum ho λh2 he2 X0=>?_⟩;have helt:e<s.heap.objs.size:=dv he;have hilt:it<s.heap.objs.size:=by obtain⟨o,q,_⟩:=hi;exact dv q
  have kk:∀b o,b∉[e,it]->s.heap.get? b=some o->h2.get? b=some o:=λb o hb q=>(X0.2 b λz=>hb (by simp[z])).trans (hk b o (λz=>hb (by simp[z])) (λz=>hb (by simp[z])) q);have hT2:h2.get? s.heap.objs.size=some {cls:=.type "tuple",data:=.seq #[.int (i:Nat) s.toks,u]}:=(X0.2 _ (gG helt)).trans hT;have YE:H s.heap.objs.size=none:=I.mG.fresh (dg _);have I2:=I.drawn (ch:=[e,it]) (T:=s.heap.objs.size) (xs:=[.int (i:Nat),x]) (its:=[.int (i:Nat) s.toks,u]) (h':=h2) (tk:=s.toks+1) hf kk (dg _) (by show 2<=sizeLine;decide) (.cons ⟨_,rfl⟩ (.cons ru .nil)) ⟨_,hT2,rfl,⟨_,rfl⟩,rfl⟩;refine⟨.ref s.heap.objs.size,_,I2,rfl,⟨_,x,rfl,YE,rfl,λys hy=>by rw[I.nG hy hq];exact hx⟩,⟨⟨_,by simpa using he2⟩,W9.extBut X0.extBut (dJ hei)⟩,λb hb=>?_⟩;have Xc:b<s.heap.objs.size:=by
   rcases df.mp hb with z|z
   .rw[z];exact helt
   .rw[dD.mp z];exact hilt
  rw[pL (dG Xc)];exact(hf b hb).1
 done:=by intro X hP hw hK hc i Wk s σ H E I hf st hg;subst hP hw hK;obtain⟨xs,hq,hx⟩:=hg;obtain⟨its,rv,p,hz⟩:=I.list hq;obtain⟨⟨old,he⟩,hi⟩:=st;have hl:=rv.length;obtain⟨f0,f1,f2,f3,f4,f5⟩:=hf it (by simp);exact wpAny_pyNext_enum_end (I.ok.hd hc) he hi p.isList (by simp;omega) λh' eb=>⟨rfl,I.turned (t':=s.toks) (λb o hb q=>eb b o hb q) f0 f1 f3 f4 f5⟩
 self:=λ_ _ _ _ _ st h=>by obtain⟨⟨old,he⟩,_⟩:=st;exact lh he h
variable {tp:Pos}{WL:List Expr}{n:Nat}
def PP{a:Expr}{ta:TA}(hg:Gl X "enumerate")(hm:X.mg "enumerate"=none)(ha:PA X [a] ta)(hs:starEach [a] X.env=[(false,eval a X.env)]:=by rfl):
  PI X (.Tuple WL n tp) (.Call (.Name "enumerate" p) [a] [] pos) (λσ H R=>ta σ H λvs H1=>∃l,vs=[.ref l]/\(∃xs,yJ X.K H1 l xs)/\R (VE X.K l) H1):=by
 intro Wk s σ H R I h;refine Call_ (xc I hg hm EN (fS (rV (ha pos Wk s σ H _ I h) λus s1 zz=>x5 zz λvs H1 I1 r1 q1=>?_) hs rfl));obtain⟨l,e,⟨xs,hq⟩,q⟩:=q1;subst e;obtain⟨u,rfl,ru⟩:=yb r1;cases ru;obtain⟨its,rv,pl,hz⟩:=I1.list hq;refine call_enumerate_list pl.isList λh' he hi hsz hk=>?_;refine lh he ?_;have I2:Inv X Wk σ H1 {s1 with heap:=h'}:=I1.kept (t':=s1.toks) hk;refine⟨s1.heap.objs.size+1,[s1.heap.objs.size+1,s1.heap.objs.size],_,_,H1,rfl,I2,JQ l _ _ (Nat.succ_ne_self _),⟨⟨_,he⟩,hi⟩,λb hb=>?_,q⟩;have Xc:s1.heap.objs.size<=b:=by
  rcases df.mp hb with z|z
  .rw[z];exact gS _
  .rw[dD.mp z];exact dg _
 exact I1.nK Xc (I1.mG.fresh Xc)
def uh:Nat->List D->List D
 | _,[]=>[]
 | i,d::r=>.tup [.int (i:Nat),d]::uh (i+1) r
theorem zp:∀{ds:List D} {i j:Nat},(uh j ds)[i]?=(ds[i]?).map λd=>D.tup [.int ((j+i:Nat):Int),d]
 | [],i,j=>by simp[uh]
 | d::r,0,j=>by simp[uh]
 | d::r,i+1,j=>by show(uh (j+1) r)[i]?=_;rw[zp];simp only[List.getElem?_cons_succ];rw[show j+1+i=j+(i+1)by omega]
theorem uZ:∀{ds:List D} {j:Nat},(uh j ds).length=ds.length
 | [],j=>rfl
 | d::r,j=>by simp[uh,uZ]
def M8{K:pY}{H1:Hp}{a:Addr}{ds:List D}:Gd K H1 (VE K a) (uh 0 ds) (λM=>oy M a=some ds) where
 go:=λi H M hi hm ok _=>by rw[uZ]at hi;obtain⟨xs,h1,h2,_⟩:=qa hm ok;obtain⟨x,e,_⟩:=h2.get (cW hi);exact⟨xs,x,h1,e⟩
 ow:=λi d H M x H' hd hm ok _ y=>by
  obtain⟨xs,h1,h2,_⟩:=qa hm ok;obtain⟨p,z,rfl,hp,rfl,y⟩:=y;rw[zp]at hd;cases e:ds[i]? with
  | none=>rw[e]at hd;cases hd
  | some d'=>rw[e]at hd;cases hd;obtain⟨x',e',hx⟩:=h2.get e;have w1:=y xs h1;rw[e']at w1;have w2:x'=z:=dh w1;subst w2;have ex:qF K H (upd H p (.tup [.int (i:Nat),x'])):=.new hp;refine⟨.tup (.of pS) (.cons (by rw[ma];exact .int) (.cons (hx.mono ex) .nil)),hm.add hp,ex⟩
 stop:=λH M hm ok _=>by obtain⟨xs,h1,h2,_⟩:=qa hm ok;exact⟨xs,h1,by rw[uZ,h2.length];exact dg _⟩
def Rh(t:wW):Nm:=λδ M R=>t δ M λds M1=>match ds with
 | [.ref a]=>(oy M1 a).elim False λes=>R (uh 0 es) (λM=>oy M a=some es) M1
 | _=>False
def wA{a:Expr}{ta:wW}(hg:Gl X "enumerate")(hm:X.mg "enumerate"=none)(ha:A3 X [a] ta)(hs:starEach [a] X.env=[(false,eval a X.env)]:=by rfl):I3 X (.Tuple WL n tp) (.Call (.Name "enumerate" p) [a] [] pos) (Rh ta):=
 PI.mono (PP hg hm ha hs) λσ H R' zz=>x7 zz λδ M R hs hm ht k=>⟨δ,M,_,hs,hm,ht,λvs H1 ds M1 hd Wm e1 q1=>by
  split at q1
  .obtain⟨v,rfl,hv⟩:=rM hd;cases hv.mw;obtain⟨es,e0,q⟩:=qI q1;obtain⟨xs,h1,h2,_⟩:=qa Wm e0;exact⟨_,rfl,⟨xs,h1⟩,k _ H1 _ _ M1 M8 Wm e1 e0 q⟩
  .exact q1.elim⟩
variable {prog:Pg}{A:Ar}{E:Vl→Sd→Prop}
def GV{it t:Addr}{i:Nat}{its:Array Vl}{x:Vl}{Q:Vl->Sd->Prop}(hi:s.heap.IsTupleIter it t i)(ht:s.heap.IsTuple t its)(hx:its[i]?=some x) (hQ:∀g,g.IsTupleIter it t (i+1)->Heap.SameBut it s.heap g->Q x {s with heap:=g}):wpAny (model prog w) A (Builtin.SmallTypes.nextOf (.ref it)) Q E s:=by
 obtain⟨ob,e1,e2,e3⟩:=id hi;obtain⟨ot,e4,_,nt,e5⟩:=ht;unfold Builtin.SmallTypes.nextOf;refine cU (fK (name:=Str.ofString "__next__") hi.typeIs gz (fZ gz hi.typeIs je ?_ (iY _)));show wpAny (model prog w) _ (field (.ref it) 0>>=_) _ _ s;refine cU (fh e1 e3 (x:=.ref t) rfl ?_);show wpAny (model prog w) _ (if (Value.ref t==Value.none)=true then _ else _) _ _ s;rw[cY (show ¬(Value.ref t==Value.none)=true from dw)];show wpAny (model prog w) _ (field (.ref it) 1>>=_) _ _ s;refine cU (fh e1 e3 (x:=.int i 0) rfl ?_);show wpAny (model prog w) _ (seqItems? (.ref t)>>=_) _ _ s;refine cU (gm e4 e5 ?_);simp only[jj,hx];refine cU (g9 e1 e3 (by simp) (de ⟨x,rfl,de (hQ _ ⟨_,fF _ e1 (Obj.isFreed_of_fields (kN e3 _)),(Obj.cls_mapFields ..).trans e2,?_⟩ (kt ..))⟩));rw[kN e3];simp[rawInt]
def Bm{it t:Addr}{i:Nat}{its:Array Vl}{Q:Vl->Sd->Prop}(hh:A.handled=none)(hi:s.heap.IsTupleIter it t i)(ht:s.heap.IsTuple t its)(hx:its[i]?=none) (hE:∀g e,Heap.ExtBut it s.heap g->(∃o,g.get? e=some o/\o.cls=.type "StopIteration")->E (.ref e) {s with heap:=g}):wpAny (model prog w) A (Builtin.SmallTypes.nextOf (.ref it)) Q E s:=by
 obtain⟨ob,e1,e2,e3⟩:=id hi;obtain⟨ot,e4,_,nt,e5⟩:=ht;unfold Builtin.SmallTypes.nextOf;refine cU (fK (name:=Str.ofString "__next__") hi.typeIs gz (fZ gz hi.typeIs je ?_ (iY _)));show wpAny (model prog w) _ (field (.ref it) 0>>=_) _ _ s;refine cU (fh e1 e3 (x:=.ref t) rfl ?_);show wpAny (model prog w) _ (if (Value.ref t==Value.none)=true then _ else _) _ _ s;rw[cY (show ¬(Value.ref t==Value.none)=true from dw)];show wpAny (model prog w) _ (field (.ref it) 1>>=_) _ _ s;refine cU (fh e1 e3 (x:=.int i 0) rfl ?_);show wpAny (model prog w) _ (seqItems? (.ref t)>>=_) _ _ s;refine cU (gm e4 e5 ?_);simp only[jj,hx];refine cU (j7 (cU (g9 e1 e3 (by simp) ?_)));show wpAny (model prog w) _ (newExc (.type "StopIteration") []>>=_) _ _ _;refine cU ?_;simp only[newExc,newTuple];refine cU (fR ?_ (by size_fits));refine cU (m:=firstArgMember _ _) (wpAny_of_eq (a:=Value.none) (by first|rfl|(simp only[firstArgMember];rfl)) ?_);refine fR ?_ (by size_fits);simp only[raiseNew];refine cU (wpAny_handled ?_)
 first|rw[show A.in1.handled=none from hh]|rw[hh]
 refine cU (de (wpAny_throw (hE _ _ (((kt ..).extBut.push _).push _) ⟨_,dF _ rfl,rfl⟩)))
def xS{prog:Pg}{w:Wo}{A:Ar}(hh:A.handled=none)(it t:Addr)(WK:t≠it)(its:Array Vl):
  Draws prog w A it [it,t] its.size (λi v=>its[i]?=some v) (λi h=>h.IsTupleIter it t i/\h.IsTuple t its) where
 live:=λi h st=>let⟨o,ho,_⟩:=st.1;⟨o,ho⟩
 frame:=λi h g st hk=>by obtain⟨⟨o,e1,e2⟩,⟨o',e3,e4⟩⟩:=st;exact⟨⟨o,hk it (by simp) o e1,e2⟩,⟨o',hk t (by simp) o' e3,e4⟩⟩
 item:=λi s Q E hi st hQ=>GV st.1 st.2 (x:=its[i]) (by simp[hi]) λg hg hs=>hQ _ g s.toks (by simp[hi]) ⟨hg,st.2.extBut hs.extBut WK⟩ hs
 done:=λs Q E st hE=>Bm hh st.1 st.2 (by simp) hE
structure zP(z TI TO i1 i2:Addr)(f1 f2:List Addr):Prop where
 a1:TI≠z
 a2:TO≠z
 a3:i1≠z
 a4:i2≠z
 a5:TI≠TO
 a6:TI≠i1
 a7:TI≠i2
 a8:TO≠i1
 a9:TO≠i2
 oP:i1≠i2
 b1:z∉f1
 b2:TO∉f1
 b3:i2∉f1
 c1:z∉f2
 c2:TO∉f2
 c3:i1∉f2
variable {z TI TO i1 i2:Addr}{f1 f2:List Addr}{n1 n2 k1 k2:Nat}{P1 P2:Nat→Vl→Prop}{S1 S2:Nat→Heap→Prop}
section
variable {a b:Vl}
def rK{fp:List Addr}{it:Addr}{n:Nat}{Pt:Nat->Vl->Prop}{St:Nat->Heap->Prop}(Dr:Draws prog w A it fp n Pt St){i:Nat}{h g:Heap}{c:Addr}(st:St i h)(hs:Heap.SameBut c h g)(hc:c∉fp):St i g:=
 Dr.frame _ _ _ st λd hd o e=>(hs.2 d λq=>hc (q ▸ hd)).trans e
def Kc{Q:Vl->Sd->Prop}(D1:Draws prog w A i1 f1 n1 P1 S1)(D2:Draws prog w A i2 f2 n2 P2 S2)(WG:zP z TI TO i1 i2 f1 f2)(hz:IsZip s.heap z TI TO .none)(hI:IsPair s.heap TI (.ref i1) (.ref i2))(hO:IsPair s.heap TO a b) (WY:S1 k1 s.heap) (WC:S2 k2 s.heap) (l1:k1<n1) (l2:k2<n2) (hQ:∀x y g tk,P1 k1 x->P2 k2 y->IsZip g z TI TO (rawInt s.heap.objs.size)->IsPair g TO x y->S1 (k1+1) g->S2 (k2+1) g->IsPair g s.heap.objs.size x y->g.objs.size=s.heap.objs.size+1->
   (∀c o,c≠z->c≠TO->c≠i1->c≠i2->s.heap.get? c=some o->g.get? c=some o)->Q (.ref s.heap.objs.size) {s with heap:=g,toks:=tk}):
  wpAny (model prog w) A (Builtin.«zip.__next__» ⟨[.ref z],[]⟩) (λWp s'=>∃v,Wp=.done (.ret v)/\Q v s') E s:=by
 show wpAny (model prog w) A (field (.ref z) 2>>=_) _ _ _;refine cU (fh hz rfl (x:=.bool false) rfl ?_);show wpAny (model prog w) A (field (.ref z) 3>>=_) _ _ _;refine cU (fh hz rfl (x:=.ref TI) rfl (cU (gm hI rfl ?_)));show wpAny (model prog w) A (Builtin.SmallTypes.ownedTupleIsFree (.ref z)>>=_) _ _ _;refine cU ?_;unfold Builtin.SmallTypes.ownedTupleIsFree;refine cU (fh hz rfl (x:=.none) rfl (de ?_));simp only[iV];refine cU (j7 (cU (fh hz rfl (x:=.ref TO) rfl (cU (gu hz (by simp) λg1 z1 X9=>?_)))));replace z1:IsZip g1 z TI TO .ellipsis:=z1;refine cU ?_;simp only[lJ,lR,jK,jU];refine cU (cU (iz ?_));show wpAny (model prog w) A (Builtin.SmallTypes.nextOf (.ref i1)>>=_) _ _ _;have Ya:S1 k1 g1:=rK D1 WY X9 WG.b1;refine cU (D1.item k1 _ _ _ l1 Ya λx g2 tk2 px st1b Xj=>de ?_);replace Xj:Heap.SameBut i1 g1 g2:=Xj;have o2:IsPair g2 TO a b:=Xj.extBut _ _ WG.a8 (X9.extBut _ _ WG.a2 hO);refine cU (gm o2 rfl (cU (iI o2 λg3 o3 Xr=>?_)));replace o3:IsPair g3 TO x b:=o3;replace Xr:Heap.SameBut TO g2 g3:=Xr;refine cU (lw (de (cU (cU (iz ?_)))));show wpAny (model prog w) A (Builtin.SmallTypes.nextOf (.ref i2)>>=_) _ _ _;have YF:S2 k2 g3:=rK D2 (rK D2 (rK D2 WC X9 WG.c1) Xj WG.c3) Xr WG.c2;refine cU (D2.item k2 _ _ _ l2 YF λy g4 tk4 py st2b Yl=>de ?_);replace Yl:Heap.SameBut i2 g3 g4:=Yl;have o4:IsPair g4 TO x b:=Yl.extBut _ _ WG.a9 o3;refine cU (gm o4 rfl (cU (iI o4 λg5 o5 Ym=>?_)));replace o5:IsPair g5 TO x y:=o5;replace Ym:Heap.SameBut TO g4 g5:=Ym;refine cU (lw (de (de (cU (gm o5 rfl (cU (wpAny_newTuple ?_)))))));have esz:g5.objs.size=s.heap.objs.size:=by rw[Ym.1,Yl.1,Xr.1,Xj.1,X9.1]
 have z5:IsZip g5 z TI TO .ellipsis:=Ym.extBut _ _ WG.a2.symm (Yl.extBut _ _ WG.a4.symm (Xr.extBut _ _ WG.a2.symm (Xj.extBut _ _ WG.a3.symm z1)));have kp:∀c o,c≠z->c≠TO->c≠i1->c≠i2->s.heap.get? c=some o->g5.get? c=some o:=λc o q1 q2 q3 q4 q=>Ym.extBut _ _ q2 (Yl.extBut _ _ q4 (Xr.extBut _ _ q2 (Xj.extBut _ _ q3 (X9.extBut _ _ q1 q))));have st1c:S1 (k1+1) g5:=rK D1 (rK D1 (rK D1 st1b Xr WG.b2) Yl WG.b3) Ym WG.b2;have st2c:S2 (k2+1) g5:=rK D2 st2b Ym WG.c2;have zlt:z<g5.objs.size:=dv z5;show wpAny (model prog w) A (Builtin.SmallTypes.ownedTupleHandOut (.ref z) (.ref g5.objs.size)>>=_) _ _ _;refine cU ?_;unfold Builtin.SmallTypes.ownedTupleHandOut;have z6:IsZip (g5.push {cls:=.type "tuple",data:=.seq #[x,y]}) z TI TO .ellipsis:=cZ _ z5;refine cU (gu z6 (by simp) λg7 z7 sb7=>?_);replace z7:IsZip g7 z TI TO (rawInt g5.objs.size):=z7;refine gu z7 (by simp) λg8 z8 sb8=>?_;replace z8:IsZip g8 z TI TO (rawInt g5.objs.size):=z8;have up:∀c o,c≠z->g5.get? c=some o->g8.get? c=some o:=λc o q1 q=>sb8.extBut _ _ q1 (sb7.extBut _ _ q1 (cZ _ q));have tu:IsPair g8 g5.objs.size x y:=sb8.extBut _ _ (gG zlt) (sb7.extBut _ _ (gG zlt) (dF _ rfl));have es8:g8.objs.size=g5.objs.size+1:=by rw[sb8.1,sb7.1,fm]
 rw[esz]at z8 tu es8;refine de ⟨_,rfl,?_⟩;show Q (.ref g5.objs.size) _;rw[esz];exact hQ x y g8 _ px py z8 (up _ _ WG.a2 o5) (D1.frame _ _ _ st1c λc hc o q=>up c o (λr=>WG.b1 (r ▸ hc)) q) (D2.frame _ _ _ st2c λc hc o q=>up c o (λr=>WG.c1 (r ▸ hc)) q) tu es8 λc o q1 q2 q3 q4 q=>up c o q1 (kp c o q1 q2 q3 q4 q)
def LO{Q:Fin->Sd->Prop}(D1:Draws prog w A i1 f1 n1 P1 S1)(D2:Draws prog w A i2 f2 n2 P2 S2)(WG:zP z TI TO i1 i2 f1 f2)(hz:IsZip s.heap z TI TO .none)(hI:IsPair s.heap TI (.ref i1) (.ref i2))(hO:IsPair s.heap TO a b) (WY:S1 k1 s.heap) (WC:S2 k1 s.heap) (Zp:k1=n1\/(k1<n1/\k1=n2)) (hE:∀g e,(∀c o,c≠z->c≠TO->c≠i1->c≠i2->s.heap.get? c=some o->g.get? c=some o)->(∃o,g.get? e=some o/\o.cls=.type "StopIteration")->∀tk,E (.ref e) {s with heap:=g,toks:=tk}):
  wpAny (model prog w) A (Builtin.«zip.__next__» ⟨[.ref z],[]⟩) Q E s:=by
 show wpAny (model prog w) A (field (.ref z) 2>>=_) _ _ _;refine cU (fh hz rfl (x:=.bool false) rfl ?_);show wpAny (model prog w) A (field (.ref z) 3>>=_) _ _ _;refine cU (fh hz rfl (x:=.ref TI) rfl (cU (gm hI rfl ?_)));show wpAny (model prog w) A (Builtin.SmallTypes.ownedTupleIsFree (.ref z)>>=_) _ _ _;refine cU ?_;unfold Builtin.SmallTypes.ownedTupleIsFree;refine cU (fh hz rfl (x:=.none) rfl (de ?_));simp only[iV];refine cU (j7 (cU (fh hz rfl (x:=.ref TO) rfl (cU (gu hz (by simp) λg1 z1 X9=>?_)))));replace z1:IsZip g1 z TI TO .ellipsis:=z1;refine cU ?_;simp only[lJ,lR,jK,jU];refine cU (cU (iz ?_));show wpAny (model prog w) A (Builtin.SmallTypes.nextOf (.ref i1)>>=_) _ _ _;have Ya:S1 k1 g1:=rK D1 WY X9 WG.b1;rcases Zp with he|⟨Wx,he⟩
 .rw[he]at Ya;refine cU (D1.done _ _ _ Ya λg2 e Xj hx=>?_);obtain⟨oe,g,Zq⟩:=hx;have z2:IsZip g2 z TI TO .ellipsis:=Xj _ _ WG.a3.symm z1;have hez:e≠z:=λq=>by subst q;rw[z2]at g;cases g;simp at Zq
  exact gu z2 (by simp) λg3 _ Xr=>hE g3 e (λc o q1 _ q3 _ q=>Xr.extBut _ _ q1 (Xj _ _ q3 (X9.extBut _ _ q1 q))) ⟨oe,Xr.extBut _ _ hez g,Zq⟩ _
 .refine cU (D1.item k1 _ _ _ Wx Ya λx g2 tk2 px st1b Xj=>de ?_);replace Xj:Heap.SameBut i1 g1 g2:=Xj;have o2:IsPair g2 TO a b:=Xj.extBut _ _ WG.a8 (X9.extBut _ _ WG.a2 hO);refine cU (gm o2 rfl (cU (iI o2 λg3 o3 Xr=>?_)));replace Xr:Heap.SameBut TO g2 g3:=Xr;refine cU (lw (de (cU (cU (iz ?_)))));show wpAny (model prog w) A (Builtin.SmallTypes.nextOf (.ref i2)>>=_) _ _ _;have YF:S2 k1 g3:=rK D2 (rK D2 (rK D2 WC X9 WG.c1) Xj WG.c3) Xr WG.c2;rw[he]at YF;refine cU (D2.done _ _ _ YF λg4 e Yl hx=>?_);obtain⟨oe,g,Zq⟩:=hx;have z4:IsZip g4 z TI TO .ellipsis:=Yl _ _ WG.a4.symm (Xr.extBut _ _ WG.a2.symm (Xj.extBut _ _ WG.a3.symm z1));have hez:e≠z:=λq=>by subst q;rw[z4]at g;cases g;simp at Zq
  exact gu z4 (by simp) λg5 _ Ym=>hE g5 e (λc o q1 q2 q3 q4 q=>Ym.extBut _ _ q1 (Yl _ _ q4 (Xr.extBut _ _ q2 (Xj.extBut _ _ q3 (X9.extBut _ _ q1 q))))) ⟨oe,Ym.extBut _ _ hez g,Zq⟩ _
end
abbrev Ux(h:Heap)(t:Addr):Heap:=h.push {cls:=.type "tuple_iterator",data:=.fields #[.ref t,.int 0 0]}
abbrev UB(h:Heap)(t u:Addr):Heap:=(Ux h t).push {cls:=.type "tuple_iterator",data:=.fields #[.ref u,.int 0 0]}
abbrev UA(h:Heap)(t u:Addr):Heap:=(UB h t u).push {cls:=.type "tuple",data:=.seq #[.ref h.objs.size,.ref (Ux h t).objs.size]}
abbrev Uu(h:Heap)(t u:Addr):Heap:=(UA h t u).push {cls:=.type "tuple",data:=.seq #[.none,.none]}
abbrev Ss(h:Heap)(t u:Addr):Heap:=(Uu h t u).push {cls:=.type "zip",data:=.fields #[.none,.bool false,.bool false,.ref (UB h t u).objs.size,.ref (UA h t u).objs.size]}
def Co(t u:Addr)(xs ys:Array Vl):
  Meets (Builtin.«zip.__new__» ⟨[.type "zip",.ref t,.ref u],[]⟩) (λ_ R s=>s.heap.IsTuple t xs/\s.heap.IsTuple u ys/\R (.ok (.ret (.ref (Uu s.heap t u).objs.size))) {s with heap:=Ss s.heap t u}):=
 .of_wp λprog w A R s h=>by
  obtain⟨hp,g,d,tk,os⟩:=s;obtain⟨e1,e2,h⟩:=h;have X6:=sub_zip;have q1:Heap.IsTuple (Shared.heap ⟨hp,g,d,tk,os⟩) t xs:=e1;have q2:Heap.IsTuple (Shared.heap ⟨hp.push {cls:=.type "tuple_iterator",data:=.fields #[.ref t,.int 0 0]},g,d,tk,os⟩) u ys:=Heap.IsTuple.push e2 _
  wp_walk using ik q1,ik q2
  exact⟨_,rfl,h⟩
def Eb{t u:Addr}{xs ys:Array Vl}{Q:Vl->Sd->Prop}(ht:s.heap.IsTuple t xs)(hu:s.heap.IsTuple u ys) (h:∀g,IsZip g (s.heap.objs.size+4) (s.heap.objs.size+2) (s.heap.objs.size+3) .none->IsPair g (s.heap.objs.size+2) (.ref s.heap.objs.size) (.ref (s.heap.objs.size+1))->IsPair g (s.heap.objs.size+3) .none .none->
   g.IsTupleIter s.heap.objs.size t 0->g.IsTupleIter (s.heap.objs.size+1) u 0->(∀c o,s.heap.get? c=some o->g.get? c=some o)->Q (.ref (s.heap.objs.size+4)) {s with heap:=g}):
  wpAny (model prog w) A (call (.type "zip") [.ref t,.ref u]) Q E s:=by
 refine callType_new F.called_zip (by decide) (F.typeCall_zip_2 _ _) (F.newCall_zip_2 _ _) (λobj=>F.args_object_init_3 obj _ _) F.entry_zip_new (Co t u xs ys) ⟨ht,hu,?_⟩;have m1:(Ux s.heap t).objs.size=s.heap.objs.size+1:=fm ..;have m2:(UB s.heap t u).objs.size=s.heap.objs.size+2:=by rw[fm,m1]
 have m3:(UA s.heap t u).objs.size=s.heap.objs.size+3:=by rw[fm,m2]
 have m4:(Uu s.heap t u).objs.size=s.heap.objs.size+4:=by rw[fm,m3]
 have up:∀{h:Heap} {c:Addr} {o p:Obj},h.get? c=some o->(h.push p).get? c=some o:=λq=>cZ _ q;have r5:(Ss s.heap t u).get? (Uu s.heap t u).objs.size=some _:=dF _ rfl;have r4:(Ss s.heap t u).get? (UA s.heap t u).objs.size=some _:=up (dF _ rfl);have r3:(Ss s.heap t u).get? (UB s.heap t u).objs.size=some _:=up (up (dF _ rfl));have r2:(Ss s.heap t u).get? (Ux s.heap t).objs.size=some _:=up (up (up (dF _ rfl)));have r1:(Ss s.heap t u).get? s.heap.objs.size=some _:=up (up (up (up (dF _ rfl))));show _/\_;rw[m2,m3,m4]at r5;rw[m1,m2]at r3;rw[m3]at r4;rw[m1]at r2;rw[m4];exact⟨⟨_,r5,rfl⟩,h _ r5 r3 r4 ⟨_,r1,rfl,rfl⟩ ⟨_,r2,rfl,rfl⟩ λc o q=>up (up (up (up (up q))))⟩
def Gx{z TI TO i1 i2:Addr}{f1 f2:List Addr}{n1 n2 k:Nat}{P1 P2:Nat->Vl->Prop}{S1 S2:Nat->Heap->Prop}{a b:Vl}{Q:Option Vl->Sd->Prop}(D1:Draws prog w A.in1 i1 f1 n1 P1 S1)(D2:Draws prog w A.in1 i2 f2 n2 P2 S2)(WG:zP z TI TO i1 i2 f1 f2) (hz:IsZip s.heap z TI TO .none) (hI:IsPair s.heap TI (.ref i1) (.ref i2)) (hO:IsPair s.heap TO a b) (WY:S1 k s.heap) (WC:S2 k s.heap) (l1:k<n1) (l2:k<n2) (hQ:∀x y g tk,P1 k x->P2 k y->IsZip g z TI TO (rawInt s.heap.objs.size)->IsPair g TO x y->S1 (k+1) g->S2 (k+1) g->IsPair g s.heap.objs.size x y->g.objs.size=s.heap.objs.size+1->
   (∀c o,c≠z->c≠TO->c≠i1->c≠i2->s.heap.get? c=some o->g.get? c=some o)->Q (some (.ref s.heap.objs.size)) {s with heap:=g,toks:=tk}):wpAny (model prog w) A (pyNext (.ref z)) Q E s:=by
 have hT:s.TypeIs (.ref z) "zip":=⟨_,hz,rfl⟩;unfold pyNext;refine cU (kl (fK (name:=Str.ofString "__next__") hT iJ (fZ iJ hT lK ?_ (lj _))));exact Kc D1 D2 WG hz hI hO WY WC l1 l2 λx y g tk q1 q2 q3 q4 q5 q6 q7 q8 q9=>de (hQ x y g tk q1 q2 q3 q4 q5 q6 q7 q8 q9)
def As{z TI TO i1 i2:Addr}{f1 f2:List Addr}{n1 n2 k:Nat}{P1 P2:Nat->Vl->Prop}{S1 S2:Nat->Heap->Prop}{a b:Vl}{Q:Option Vl->Sd->Prop}(D1:Draws prog w A.in1 i1 f1 n1 P1 S1)(D2:Draws prog w A.in1 i2 f2 n2 P2 S2)(WG:zP z TI TO i1 i2 f1 f2) (hz:IsZip s.heap z TI TO .none) (hI:IsPair s.heap TI (.ref i1) (.ref i2)) (hO:IsPair s.heap TO a b) (WY:S1 k s.heap) (WC:S2 k s.heap) (Zp:k=n1\/(k<n1/\k=n2)) (hQ:∀g tk,(∀c o,c≠z->c≠TO->c≠i1->c≠i2->s.heap.get? c=some o->g.get? c=some o)->Q none {s with heap:=g,toks:=tk}):wpAny (model prog w) A (pyNext (.ref z)) Q E s:=by
 have hT:s.TypeIs (.ref z) "zip":=⟨_,hz,rfl⟩;unfold pyNext;refine cU (kl (fK (name:=Str.ofString "__next__") hT iJ (fZ iJ hT lK (LO D1 D2 WG hz hI hO WY WC Zp λg e kp hx tk=>?_) (lj _))));obtain⟨o,e1,e2⟩:=hx;exact cU (wpAny_isInstance (T:="StopIteration") (b:=true) ⟨o,e1,e2⟩ isSubtype_stop (de (hQ g tk kp)))
def Ei{a b:Addr}{xs:List V}(I:Inv X Wk σ H s)(f:Ah X Wk H b)(q:uK X.K H a xs):a≠b:=by
 rintro rfl
 rcases q with q|⟨o,its,n,hk,_⟩
 .have z:=f.1;rcases q with q|⟨u,q⟩<;>(rw[q]at z;cases z)
 .have e:=I.mod.oh a o hk;rcases f.2.2.2.1 with z|z
  .exact I.ok.nF a o e z
  .exact absurd (dH (dv e) (dY I.ok.nO z)) (e9 _)
def Vk(K:pY)(a b:Addr):It:=
 ⟨λi H=>∃xs ys x y,uK K H a xs/\uK K H b ys/\xs[i]?=some x/\ys[i]?=some y,λi H v H'=>∃p x y,v=.ref p/\H p=none/\H'=upd H p (.tup [x,y])/\(∀xs,uK K H a xs->xs[i]?=some x)/\(∀ys,uK K H b ys->ys[i]?=some y),λi H=>∃xs ys,uK K H a xs/\uK K H b ys/\i=min xs.length ys.length⟩
def L9{P:Pg}{w:Wo}{K:pY}{WL:List Expr}{n:Nat}{tp:Pos}(a b z TI TO i1 i2:Addr)(a1:TI≠z)(a2:TO≠z)(a3:i1≠z)(a4:i2≠z)(a5:TI≠TO)(a6:TI≠i1)(a7:TI≠i2)(a8:TO≠i1)(a9:TO≠i2)(oP:i1≠i2):
  FE P w K (.Tuple WL n tp) (Vk K a b) [z,TI,TO,i1,i2] z (λi h=>IsZip h z TI TO .none/\IsPair h TI (.ref i1) (.ref i2)/\(∃u v,IsPair h TO u v)/\h.IsTupleIter i1 a i/\h.IsTupleIter i2 b i) where
 mem:=by simp
 obj:=λi h st c hc=>by
  obtain⟨h1,h2,⟨u,v,h3⟩,⟨o4,h4,_,d4⟩,⟨o5,h5,_,d5⟩⟩:=st;simp only[df,dB,eW]at hc;rcases hc with rfl|rfl|rfl|rfl|rfl
  .exact⟨_,h1,λv z=>by cases z⟩
  .exact⟨_,h2,λv z=>by cases z⟩
  .exact⟨_,h3,λv z=>by cases z⟩
  .exact⟨_,h4,λv z=>by rw[d4]at z;cases z⟩
  .exact⟨_,h5,λv z=>by rw[d5]at z;cases z⟩
 keep:=λi h h' st k=>by obtain⟨h1,h2,⟨u,v,h3⟩,⟨o4,h4,c4⟩,⟨o5,h5,c5⟩⟩:=st;exact⟨k z (by simp) _ h1,k TI (by simp) _ h2,⟨u,v,k TO (by simp) _ h3⟩,⟨o4,k i1 (by simp) _ h4,c4⟩,⟨o5,k i2 (by simp) _ h5,c5⟩⟩
 item:=by
  intro X hP hw hK hc i Wk s σ H E I hf st hg;subst hP hw hK;obtain⟨xs,ys,x,y,hx,hy,ex,ey⟩:=hg;obtain⟨its,rx,px,_⟩:=I.tuple hx;obtain⟨Yi,ry,py,_⟩:=I.tuple hy;obtain⟨u,eu,ru⟩:=rx.get ex;obtain⟨v,ev,rv⟩:=ry.get ey;obtain⟨h1,h2,⟨p,q,h3⟩,h4,h5⟩:=st;have hh:X.A.in1.handled=none:=I.ok.hd hc;have fa:∀c∈[z,TI,TO,i1,i2],a≠c:=λc hc=>Ei I (hf c hc) hx;have fb:∀c∈[z,TI,TO,i1,i2],b≠c:=λc hc=>Ei I (hf c hc) hy;have WG:zP z TI TO i1 i2 [i1,a] [i2,b]:=⟨a1,a2,a3,a4,a5,a6,a7,a8,a9,oP,by
   simp only[df,dB,eW,fJ];exact⟨dJ a3,dJ (fa z (by simp))⟩,by
   simp only[df,dB,eW,fJ];exact⟨a8,dJ (fa TO (by simp))⟩,by
   simp only[df,dB,eW,fJ];exact⟨dJ oP,dJ (fa i2 (by simp))⟩,by
   simp only[df,dB,eW,fJ];exact⟨dJ a4,dJ (fb z (by simp))⟩,by
   simp only[df,dB,eW,fJ];exact⟨a9,dJ (fb TO (by simp))⟩,by
   simp only[df,dB,eW,fJ];exact⟨oP,dJ (fb i1 (by simp))⟩⟩
  have l1:i<its.toArray.size:=by
   have:=(cV.mp eu).1
   simpa using this
  have l2:i<Yi.toArray.size:=by
   have:=(cV.mp ev).1
   simpa using this
  refine Gx (xS hh i1 a (fa i1 (by simp)) its.toArray) (xS hh i2 b (fb i2 (by simp)) Yi.toArray) WG h1 h2 h3 ⟨h4,px⟩ ⟨h5,py⟩ l1 l2 λx' y' g tk e1 e2 z1 o1 s1 s2 t1 sz kp=>?_;have e1':x'=u:=by
   have:its[i]?=some x':=by simpa using e1
   rw[eu]at this;exact(dh this).symm
  have Yx:y'=v:=by
   have:Yi[i]?=some y':=by simpa using e2
   rw[ev]at this;exact(dh this).symm
  subst e1' Yx;refine⟨_,rfl,wpAny_letOwnedTupleGo_zip z1 λg2 z2 sb=>?_⟩;have zlt:z<s.heap.objs.size:=dv h1;have kk:∀c o,c∉[z,TI,TO,i1,i2]->s.heap.get? c=some o->g2.get? c=some o:=λc o hc e=>by simp only[df,dB,eW,fJ]at hc;exact(sb.2 c hc.1).trans (kp c o hc.1 hc.2.2.1 hc.2.2.2.1 hc.2.2.2.2 e)
  have t2:g2.get? s.heap.objs.size=some {cls:=.type "tuple",data:=.seq #[x',y']}:=(sb.2 _ (gG zlt)).trans t1;have YE:H s.heap.objs.size=none:=I.mG.fresh (dg _);have I2:=I.drawn (ch:=[z,TI,TO,i1,i2]) (T:=s.heap.objs.size) (xs:=[x,y]) (its:=[x',y']) (h':=g2) (tk:=tk) hf kk (dg _) (by show 2<=sizeLine;decide) (.cons ru (.cons rv .nil)) ⟨_,t2,rfl,⟨_,rfl⟩,rfl⟩;refine⟨.ref s.heap.objs.size,_,I2,rfl,⟨_,x,y,rfl,YE,rfl,λxs' hx'=>by rw[I.mV hx' hx];exact ex,λys' hy'=>by rw[I.mV hy' hy];exact ey⟩,?_,λc hc=>?_⟩
  .obtain⟨o4,g4,c4⟩:=s1.1;obtain⟨o5,g5,c5⟩:=s2.1;exact⟨z2,(sb.2 _ a1).trans (kp _ _ a1 a5 a6 a7 h2),⟨_,_,(sb.2 _ a2).trans o1⟩,⟨o4,(sb.2 _ a3).trans g4,c4⟩,⟨o5,(sb.2 _ a4).trans g5,c5⟩⟩
  .have n0:=(hf c hc).1;obtain⟨o,eo⟩:∃o,s.heap.get? c=some o:=by
    obtain⟨o4,g4,_⟩:=h4;obtain⟨o5,g5,_⟩:=h5;simp only[df,dB,eW]at hc;rcases hc with rfl|rfl|rfl|rfl|rfl
    .exact⟨_,h1⟩
    .exact⟨_,h2⟩
    .exact⟨_,h3⟩
    .exact⟨_,g4⟩
    .exact⟨_,g5⟩
   rw[pL (dG (dv eo))];exact n0
 done:=by
  intro X hP hw hK hc i Wk s σ H E I hf st hg;subst hP hw hK;obtain⟨xs,ys,hx,hy,hi⟩:=hg;obtain⟨its,rx,px,_⟩:=I.tuple hx;obtain⟨Yi,ry,py,_⟩:=I.tuple hy;obtain⟨h1,h2,⟨p,q,h3⟩,h4,h5⟩:=st;have hh:X.A.in1.handled=none:=I.ok.hd hc;have fa:∀c∈[z,TI,TO,i1,i2],a≠c:=λc hc=>Ei I (hf c hc) hx;have fb:∀c∈[z,TI,TO,i1,i2],b≠c:=λc hc=>Ei I (hf c hc) hy;have WG:zP z TI TO i1 i2 [i1,a] [i2,b]:=⟨a1,a2,a3,a4,a5,a6,a7,a8,a9,oP,by
   simp only[df,dB,eW,fJ];exact⟨dJ a3,dJ (fa z (by simp))⟩,by
   simp only[df,dB,eW,fJ];exact⟨a8,dJ (fa TO (by simp))⟩,by
   simp only[df,dB,eW,fJ];exact⟨dJ oP,dJ (fa i2 (by simp))⟩,by
   simp only[df,dB,eW,fJ];exact⟨dJ a4,dJ (fb z (by simp))⟩,by
   simp only[df,dB,eW,fJ];exact⟨a9,dJ (fb TO (by simp))⟩,by
   simp only[df,dB,eW,fJ];exact⟨oP,dJ (fb i1 (by simp))⟩⟩
  have e1:=rx.length;have e2:=ry.length;refine As (xS hh i1 a (fa i1 (by simp)) its.toArray) (xS hh i2 b (fb i2 (by simp)) Yi.toArray) WG h1 h2 h3 ⟨h4,px⟩ ⟨h5,py⟩ (by simp only[dq];omega) λg tk kp=>⟨rfl,?_⟩;have kk:∀c o,c∉[z,TI,TO,i1,i2]->s.heap.get? c=some o->g.get? c=some o:=λc o hc e=>by simp only[df,dB,eW,fJ]at hc;exact kp c o hc.1 hc.2.2.1 hc.2.2.2.1 hc.2.2.2.2 e
  refine I.step (g':=s.gens) (d':=s.drawn) (t':=tk) (ch:=[z,TI,TO,i1,i2]) (λc hc=>⟨(hf c hc).2.2.2.1,(hf c hc).2.1,(hf c hc).2.2.2.2.1,(hf c hc).2.2.2.2.2⟩) ?_ ?_ (λc o _ e n=>n) ?_ (λ_ _ e=>e) (λ_ _ _ e=>e) (λc ps e=>⟨#[],by rw[e];simp⟩) ?_ ?_ I.bare
  .exact λc o _ _ hc e _=>kk c o hc e
  .exact λc o _ _ hc e _=>⟨o.slots,kk c o hc e⟩
  .exact λc o hc e=>⟨o,kk c o hc e⟩
  .intro m hm;obtain⟨o,es,ep,ho,r⟩:=hm;exact⟨o,es,ep,kk _ o (λy=>(hf _ y).2.1 rfl) ho,r⟩
  .intro c u e;refine(I.mG c u e).m7 (λd v hd q=>kk d v (λy=>?_) q) (λ_ q=>q) λ_ _ q=>q;have n:=(hf d y).1;rcases hd with x|x
   .rw[x,e]at n;cases n
   .rw[x]at n;cases n
 self:=λ_ _ _ _ _ st h=>lL st.1 h
def Q7{a b:Expr}{ta:TA}(hg:Gl X "zip")(hm:X.mg "zip"=none)(ha:PA X [a,b] ta)(hs:starEach [a,b] X.env=[(false,eval a X.env),(false,eval b X.env)]:=by rfl)(X0:starEach [b] X.env=[(false,eval b X.env)]:=by rfl):
  PI X (.Tuple WL n tp) (.Call (.Name "zip" p) [a,b] [] pos) (λσ H R=>ta σ H λvs H1=>∃l m,vs=[.ref l,.ref m]/\(∃xs,uK X.K H1 l xs)/\(∃xs,uK X.K H1 m xs)/\R (Vk X.K l m) H1):=by
 intro Wk s σ H R I h;refine Call_ (xc I hg hm Rp (fS (rV (ha pos Wk s σ H _ I h) λus s1 zz=>x5 zz λvs H1 I1 r1 q1=>?_) (by rw[hs,X0]) (by rw[X0];rfl)));obtain⟨l,m,e,⟨xs,hx⟩,⟨ys,hy⟩,q⟩:=q1;subst e;obtain⟨u,v,rfl,ru,rv⟩:=LN r1;cases ru;cases rv;obtain⟨its,_,px,_⟩:=I1.tuple hx;obtain⟨Yi,_,py,_⟩:=I1.tuple hy;refine Eb px py λg h1 h2 h3 h4 h5 hk=>lL h1 ?_;have I2:Inv X Wk σ H1 {s1 with heap:=g}:=I1.kept (t':=s1.toks) hk;refine⟨s1.heap.objs.size+4,[s1.heap.objs.size+4,s1.heap.objs.size+2,s1.heap.objs.size+3,s1.heap.objs.size,s1.heap.objs.size+1],_,_,H1,rfl,I2,L9 l m _ _ _ _ _ ?_ ?_ ?_ ?_ ?_ ?_ ?_ ?_ ?_ ?_,⟨h1,h2,⟨_,_,h3⟩,h4,h5⟩,λb hb=>?_,q⟩
 .exact λz=>by have z:s1.heap.objs.size+2=s1.heap.objs.size+4:=z;omega
 .exact λz=>by have z:s1.heap.objs.size+3=s1.heap.objs.size+4:=z;omega
 .exact λz=>by have z:s1.heap.objs.size=s1.heap.objs.size+4:=z;omega
 .exact λz=>by have z:s1.heap.objs.size+1=s1.heap.objs.size+4:=z;omega
 .exact λz=>by have z:s1.heap.objs.size+2=s1.heap.objs.size+3:=z;omega
 .exact λz=>by have z:s1.heap.objs.size+2=s1.heap.objs.size:=z;omega
 .exact λz=>by have z:s1.heap.objs.size+2=s1.heap.objs.size+1:=z;omega
 .exact λz=>by have z:s1.heap.objs.size+3=s1.heap.objs.size:=z;omega
 .exact λz=>by have z:s1.heap.objs.size+3=s1.heap.objs.size+1:=z;omega
 .exact λz=>by have z:s1.heap.objs.size=s1.heap.objs.size+1:=z;omega
 .have Xc:s1.heap.objs.size<=b:=by
   simp only[df,dB,eW]at hb;rcases hb with rfl|rfl|rfl|rfl|rfl
   .exact iA _ _
   .exact iA _ _
   .exact iA _ _
   .exact dg _
   .exact iA _ _
  exact I1.nK Xc (I1.mG.fresh Xc)
def AG:List D->List D->List D
 | x::a,y::b=>.tup [x,y]::AG a b
 | _,_=>[]
theorem Ic:∀{ds es:List D} {i:Nat},(AG ds es)[i]?=(ds[i]?).bind λd=>(es[i]?).map λe=>D.tup [d,e]
 | [],es,i=>by simp[AG]
 | d::ds,[],i=>by simp[AG]
 | d::ds,e::es,0=>by simp[AG]
 | d::ds,e::es,i+1=>by show(AG ds es)[i]?=_;rw[Ic];simp
theorem DV:∀{ds es:List D},(AG ds es).length=min ds.length es.length
 | [],es=>by simp[AG]
 | d::ds,[]=>by simp[AG]
 | d::ds,e::es=>by show(AG ds es).length+1=_;rw[DV];simp only[d6];omega
def OF{K:pY}{H1:Hp}{a b:Addr}{ds es:List D}{xs ys:List V}(h1:uK K H1 a xs)(h2:pV K H1 ds xs)(g1:uK K H1 b ys)(g2:pV K H1 es ys):Gd K H1 (Vk K a b) (AG ds es) (λ_=>True) where
 go:=λi H M hi hm ok e1=>by rw[DV]at hi;obtain⟨x,ex,_⟩:=h2.get (cW (show i<ds.length by omega));obtain⟨y,ey,_⟩:=g2.get (cW (show i<es.length by omega));exact⟨xs,ys,x,y,e1.t _ _ h1,e1.t _ _ g1,ex,ey⟩
 ow:=λi d H M v H' hd hm ok e1 y=>by
  obtain⟨p,x,z,rfl,hp,rfl,y1,y2⟩:=y;rw[Ic]at hd;cases e:ds[i]? with
  | none=>rw[e]at hd;cases hd
  | some d'=>
   cases e':es[i]? with
   | none=>rw[e,e']at hd;cases hd
   | some d''=>rw[e,e']at hd;cases hd;obtain⟨x',q1,hx⟩:=h2.get e;obtain⟨z',q2,hz⟩:=g2.get e';have w1:=y1 xs (e1.t _ _ h1);have w2:=y2 ys (e1.t _ _ g1);rw[q1]at w1;rw[q2]at w2;have v1:x'=x:=dh w1;have v2:z'=z:=dh w2;subst v1 v2;have ex:qF K H (upd H p (.tup [x',z'])):=.new hp;exact⟨.tup (.of pS) (.cons (hx.mono (e1.trans ex)) (.cons (hz.mono (e1.trans ex)) .nil)),hm.add hp,ex⟩
 stop:=λH M hm ok e1=>⟨xs,ys,e1.t _ _ h1,e1.t _ _ g1,by rw[DV,h2.length,g2.length]⟩
def TK(t:wW):Nm:=λδ M R=>t δ M λds M1=>match ds with
 | [.tup a,.tup b]=>R (AG a b) (λ_=>True) M1
 | _=>False
def RM{a b:Expr}{ta:wW}(hg:Gl X "zip")(hm:X.mg "zip"=none)(ha:A3 X [a,b] ta)(hs:starEach [a,b] X.env=[(false,eval a X.env),(false,eval b X.env)]:=by rfl)(X0:starEach [b] X.env=[(false,eval b X.env)]:=by rfl):
  I3 X (.Tuple WL n tp) (.Call (.Name "zip" p) [a,b] [] pos) (TK ta):=
 PI.mono (Q7 hg hm ha hs X0) λσ H R' zz=>x7 zz λδ M R hs hm ht k=>⟨δ,M,_,hs,hm,ht,λvs H1 ds M1 hd Wm e1 q1=>by
  split at q1
  .obtain⟨v,u,rfl,hv,hw⟩:=E2 hd;obtain⟨l,xs,rfl,h1,h2⟩:=hv.mE;obtain⟨m,ys,rfl,g1,g2⟩:=hw.mE;exact⟨l,m,rfl,⟨xs,h1⟩,⟨ys,g1⟩,k _ H1 _ _ M1 (OF h1 h2 g1 g2) Wm e1 trivial q1⟩
  .exact q1.elim⟩
def qh(M M':Mp):Prop:=∀a c,M a=some c->M' a=some c
def qh.refl{M:Mp}:qh M M:=λ_ _ h=>h
def qh.trans{M M1 M2:Mp}(a:qh M M1)(b:qh M1 M2):qh M M2:=λx c h=>b x c (a x c h)
def qh.new{M:Mp}{p:Addr}{c:uk}(h:M p=none):qh M (oZ M p c):=λx d q=>by rw[ua (Qe q h)];exact q
def qh.lst{M M':Mp}{a:Addr}{ds:List D}(s:qh M M')(h:oy M a=some ds):oy M' a=some ds:=by
 unfold oy at h ⊢;cases e:M a with
 | none=>rw[e]at h;cases h
 | some c=>rw[s a c e];rw[e]at h;exact h
def HM.sub{K:pY}{H:Hp}{M M':Mp}(h:HM K H M')(s:qh M M'):HM K H M:=λa c q=>h a c (s a c q)
def Th{x qual:Str}{st:Stmt}{f:Addr}{fd:FuncData}{N ps:List Str}{k:Nat}{sp:qT}(F:Pl K x qual st f fd)(S:sF N ps (pR st))(len:∀ds M Q,sp ds M Q->ds.length=ps.length) (WI:∀(Wu:Vl) (A:Ar) (outer:List Env) (s:Sd) (H:Hp) (E:XK),rD k (A.deeper (envOfC qual (pR st) s.heap.objs.size f Wu))->
   ∃t,Hv (vd Ni P w K mg base N qual (pR st) f Wu A outer s H E).og (rq st) t/\∀ds M Q,sp ds M Q->t {nx:=λ_ M'=>∃Wq,qh Wq M'/\Q .mC Wq,rt:=λd M'=>∃Wq,qh Wq M'/\Q d Wq} (wz N ds) M):Sv P w K mg base (k+1) f fd ps sp:=by
 refine F.ok S (λvs H Q E h=>?_) (λWu A outer s H vs Q' E hr h=>?_)
 .obtain⟨ds,M,Q,hd,_,hs,_⟩:=h;rw[<-hd.length];exact len ds M Q hs
 .obtain⟨ds,M,Q,hd,hm,hs,k⟩:=h;obtain⟨t,ht,hb⟩:=WI Wu A outer s H E hr;exact⟨_,ht,wz N ds,M,_,C1 hd,hm,hb ds M Q hs,λσ' H' δ' M' _ x2 x3 _ ⟨Wq,y1,y2⟩=>k .mC H' .mC Wq .mC (x2.sub y1) x3 y2,λv H' d M' x1 x2 x3 ⟨Wq,y1,y2⟩=>k v H' d Wq x1 (x2.sub y1) x3 y2,λ_ _ _ _ _ _ _ _ z=>z,λ_ _ _ _ _ _ _ _ z=>z⟩
theorem BB{g:Cp}{te:T3}{ok:Mp->Prop}{Q:DK}{f:D->D}{M:Mp}(J:uM->Prop)(mG:ok M):∀(ds acc:List D) (δ:uM),J δ->acc.length+ds.length<=sizeLine->
  (∀d∈ds,∀δ,J δ->∀k:uM->DK,(∀δ',J δ'->k δ' (f d) M)->g d δ M λδ2 M2=>te δ2 M2 (k δ2))->(∀p,M p=none->Q (.ref p) (oZ M p (.lst (acc++ds.map f))))->uC g B1 te ok Q ds acc δ M
 | [],acc,δ,_,hl,_,hq=>⟨by simpa using hl,by simpa using hq⟩
 | d::r,acc,δ,hj,hl,ht,hq=>by
  rw[d6]at hl;refine⟨by omega,?_⟩;refine ht d dN δ hj (λδ2 y M4=>ok M4/\uC g B1 te ok Q r (acc++[y]) δ2 M4) λδ' hj'=>⟨mG,BB (f:=f) J mG r (acc++[f d]) δ' hj' ?_ (λe he=>ht e (dC _ he)) ?_⟩
  .rw[cX,dQ];omega
  .simpa using hq
def qM{i:Nat}{te:T3}{ok:Mp->Prop}{Q:DK}{f:D->D}{M:Mp}(mG:ok M):∀(ds acc:List D) (δ:uM),acc.length+ds.length<=sizeLine->(∀d∈ds,∀k:DK,k (f d) M->te (δ.set i (some d)) M k)->
  (∀p,M p=none->Q (.ref p) (oZ M p (.lst (acc++ds.map f))))->uC (ud i) B1 te ok Q ds acc δ M:=λds acc δ hl ht hq=>
 BB (f:=f) (λδ'=>∀d,δ'.set i (some d)=δ.set i (some d)) mG ds acc δ (λ_=>rfl) hl (λd hd δ' hj k hk=>by
  show te (δ'.set i (some d)) M (k (δ'.set i (some d)));rw[hj d];exact ht d hd _ (hk _ λe=>by rw[iK])) hq
theorem xQ{α:Type}(f:α->Bool):∀l:List α,FJ (l.map λx=>D.bl (f x))=some (l.map f)
 | []=>rfl
 | x::r=>by show(FJ (r.map λx=>D.bl (f x))).map (f x::·)=_;rw[xQ f r];rfl
def o9{M:Mp}{p:Addr}{ds:List D}:oy (oZ M p (.lst ds)) p=some ds:=by unfold oy;rw[pG]
def i'{α:Type}{o:Option α}{P:α->Prop}{x:α}(e:o=some x)(h:P x):o.elim False P:=by rw[e];exact h
def oO{l:List D}(h:decide (l.length<=100)=true):l.length<=sizeLine:=by have z:=dM;have:=fP h;omega
theorem AN{g:Cp}{tb:wV}{ok:Mp->Prop}{E:Gw}(J:uM->Mp->Prop)(mG:∀δ M,J δ M->ok M):∀(ds:List D) (δ:uM) (M:Mp),J δ M->
  (∀d∈ds,∀δ M,J δ M->∀nx:uM->Mp->Prop,(∀δ' M',J δ' M'->nx δ' M')->g d δ M λδ2 M2=>tb {E with nx:=nx,ct:=nx,bk:=E.nx} δ2 M2)->(∀δ M,J δ M->E.nx δ M)->DY g tb ok E ds δ M
 | [],δ,M,j,_,hn=>hn δ M j
 | d::r,δ,M,j,ht,hn=>ht d dN δ M j (λδ' M'=>ok M'/\DY g tb ok E r δ' M') λδ' M' j'=>⟨mG δ' M' j',AN J mG r δ' M' j' (λe he=>ht e (dC _ he)) hn⟩
theorem wm{g:Cp}{tb:wV}{ok:Mp->Prop}{E:Gw}(all:List D)(J:List D->uM->Mp->Prop)(mG:∀p δ M,J p δ M->ok M):∀(ds pre:List D) (δ:uM) (M:Mp),pre++ds=all->J pre δ M->
  (∀pre d post,pre++d::post=all->∀δ M,J pre δ M->∀nx:uM->Mp->Prop,(∀δ' M',J (pre++[d]) δ' M'->nx δ' M')->g d δ M λδ2 M2=>tb {E with nx:=nx,ct:=nx,bk:=E.nx} δ2 M2)->(∀δ M,J all δ M->E.nx δ M)->DY g tb ok E ds δ M
 | [],pre,δ,M,e,j,_,hn=>hn δ M (by rw[<-e,eY];exact j)
 | d::r,pre,δ,M,e,j,ht,hn=>ht pre d r e δ M j (λδ' M'=>ok M'/\DY g tb ok E r δ' M') λδ' M' j'=>⟨mG _ δ' M' j',wm all J mG r (pre++[d]) δ' M' (by rw[<-e,fj];rfl) j' ht hn⟩
def M9{K:pY}{t:Vl}:W.kitOne K t t=some true:=by unfold W.kitOne;rw[c9 (by simp)]
def Rq{K:pY}{t c:Vl}{b:Bool}(h:W.kitCls K t c=some b)(ne:b=false->(t==c)=false):W.kitOne K t c=some b:=by
 unfold W.kitOne;by_cases e:(t==c)=true
 .rw[c9 e];cases b with
  | true=>rfl
  | false=>rw[ne rfl]at e;cases e
 .rw[cY e];exact h
def Qs{K:pY}{t:Vl}{T:String}{b:Bool}(m:W.kitMeta T=true)(s:W.subIn K t (.type T)=some b)(ne:b=false->(t==.type T)=false):W.kitOne K t (.type T)=some b:=by refine Rq ?_ ne;unfold W.kitCls;simp only;rw[c9 m];exact s
def QJ:W.kitMeta "str"=true:=by decide+kernel
def Nc{c:Bool}{A B:Prop}(h:c=false)(hb:B):if c=true then A else B:=by subst h;exact GN hb
def Av{c:Bool}{A B:Prop}(h:c=true)(ha:A):if c=true then A else B:=by subst h;exact OI ha
def SU{t u:wV}{E:Gw}{δ:uM}{M:Mp}(R:uM->Mp->Prop)(h2:∀nx:uM->Mp->Prop,(∀δ' M',R δ' M'->nx δ' M')->t {E with nx:=nx} δ M)(h1:∀δ' M',R δ' M'->u E δ' M'):ug t u E δ M:=h2 (u E) h1
def Ur{K:pY}{H:Hp}{a:Addr}{ns:List Int}(hO:MZ H)(hS:yJ K H a (ns.map V.int)):rh K H (.rl (ns.map D.int)) (.ref a):=by
 have r:Pi K H a (ns.map V.int):=by
  rcases hS with h|h
  .rcases h with h|⟨o,h⟩
   .rcases hO a with z|⟨o,xs,z⟩<;>(rw[h]at z;cases z)
   .exact .inl ⟨o,h⟩
  .exact .inr h
 unfold rh;exact⟨a,_,rfl,r,.ints⟩
def RN{K:pY}{sp:qT}{H:Hp}{a:Addr}{ns:List Int}(hO:MZ H)(hS:yJ K H a (ns.map V.int))(h:sp [.rl (ns.map D.int)] (λ_=>none) λd _=>d=.bl true):Ng K sp [.ref a] H (λv _=>v=.bl true) λ_ _ _=>False:=
 ⟨_,λ_=>none,_,.cons (Ur hO hS) .nil,λ_ _ z=>(by cases z),h,λv H' d M' x1 _ _ x4=>by subst x4;exact x1.mB⟩
def Nb{l:W.OpenLaw}{q:Pg}{W8:List Str}{XP:(Str->Option Vl)->Heap->Prop}{YP:Wo->Heap->Prop}{d:DefRec}{K:Params->pY}{k:Nat}{x:Str}{sp:qT}(hn:l.most=some 63)(YR:d.params.defaults=[])(hr:rD k callerA) (hY:∀(w:Wo) (h:Heap),YP w h->(K w.params).In h) (XM:∀ns:List Int,ns.length<=63->sp [.rl (ns.map D.int)] (λ_=>none) λd _=>d=.bl true) (F:∀(w:Wo) (mg:Str->Option Vl) (fa:Addr) (h:Heap),(K w.params).In h->h.Ns mainGlobals mg->mg d.name=some (.ref fa)->
   ∃fd:FuncData,(∀(s:Sd) (u:Vl),BindsTo s fd ⟨[u],[]⟩ [(x,u)])/\∀base:Heap,(K w.params).In base->base.Ns mainGlobals mg->Sv l.prog w (K w.params) mg base k fa fd [x] sp):
  W.WalkO q W8 XP YP l.row.toRowW d [] (λf vs=>PySem.call f vs):=
 L2.Pb (n:=63) (k:=k) (x:=x) (CX:=λ_=>Ni) (sp:=λw=>Ng (K w.params) sp) hn (by decide) YR hr hY F (λ_ _ a ns hl hO hS=>RN hO hS (XM ns hl)) λ_ _ _ _ _ z=>z
def KD(K:pY)(mg:Str->Option Vl)(x:Str)(d:D):Prop:=B8 λv u=>mg x=some u/\qy v u/\∀H,rh K H d v
def R9{K:pY}{mg:Str->Option Vl}{x y:Str}{t:Tok}(h:mg x=some (.str y t)):KD K mg x (.str y):=⟨.str y,_,h,⟨t,rfl⟩,λ_=>.str⟩
def vG{K:pY}{mg:Str->Option Vl}{x:Str}{y:Int}{t:Tok}(h:mg x=some (.int y t)):KD K mg x (.int y):=⟨.int y,_,h,⟨t,rfl⟩,λ_=>.int⟩
def tU{K:pY}{a:Addr}{ss:List Str}{us:List Vl}{n:Nat}{sl:Array (Option Vl)}(h:K.lookup a=some ⟨.type "tuple",none,.seq us.toArray n,sl⟩)(r:qo (ss.map V.str) us)(hz:us.length<=1000):uK K (λ_=>none) a (ss.map V.str):=
 .inr ⟨_,us.toArray,n,h,rfl,rfl,rfl,by rw[dq,dM];omega,by simpa using r⟩
theorem zK{K:pY}{H:Hp}:∀{ss:List Str},pV K H (ss.map D.str) (ss.map V.str)
 | []=>.nil
 | _::_=>.cons .str zK
def Pf{K:pY}{mg:Str->Option Vl}{x:Str}{a:Addr}{ss:List Str}(h:mg x=some (.ref a))(q:uK K (λ_=>none) a (ss.map V.str)):KD K mg x (.tup (ss.map D.str)):=
 ⟨.ref a,_,h,rfl,λ_=>.tup (IT q) zK⟩
variable {d:D}{i:Expr}{td tk:T3}{F:List (Str × List Str)}
def rZ(hg:Gl X x)(h:KD X.K X.mg x d)(hd:yk x:=by decide):E3 X (.Name x pos) (c3 d):=by obtain⟨v,u,hm,r,hh⟩:=h;exact PE.mono (DQ hg hm r hd) λσ H Q' zz=>x7 zz λδ M Q hs hm ht k=>k _ H _ M (hh H) hm .refl ht
def U'(F:List (Str×List Str))(ta:T3):T3:=λδ M Q=>ta δ M λx M1=>match x with|.str k=>Q (.bl (KTD.datumAt k F).isSome) M1|_=>False
def TV(F:List (Str×List Str))(ta:T3):T3:=λδ M Q=>ta δ M λx M1=>match x with|.str k=>(KTD.datumAt k F).elim False λss=>Q (.tup (ss.map D.str)) M1|_=>False
def LZ(T:L8 X.K X.mg x F)(hg:Gl X x)(he:E3 X e ta)(hd:yk x:=by decide)(hmk:behindInMarks .In (.Name x p)=false:=by rfl):E3 X (.Compare e [.In] [.Name x p] pos) (U' F ta):=by
 obtain⟨a,hm,T⟩:=Fi T;refine PE.mono (IY (r:=λy z H Q=>∃k,y=.str k/\z=.ref a/\Q (.bl (KTD.datumAt k F).isSome) H) (λWk s σ H y z v u Q I ry rz ⟨k,e1,e2,q⟩=>?_) he (DQ (v:=.ref a) hg hm rfl hd) hmk) λσ H Q' zz=>x7 zz λδ M Q hs hm ht k=>⟨δ,M,_,hs,hm,ht,λv H1 d M1 hd Wm e1 q1=>?_⟩
 .subst e1 e2;obtain⟨t,rfl⟩:=ry;obtain rfl:u=Value.ref a:=rz;exact RB (T s.heap I.mQ) ⟨.bl (KTD.datumAt k F).isSome,H,I.tok _,rfl,q⟩
 .cases d with
  | str k'=>exact⟨k',hd.str_inv,rfl,k _ _ _ _ .bl Wm e1 q1⟩
  | _=>exact q1.elim
def JA(T:L8 X.K X.mg x F)(hg:Gl X x)(he:E3 X e ta)(hd:yk x:=by decide)(hs:AZ e:=by exact λ_ _=>rfl):E3 X (.Subscript (.Name x p) e pos) (TV F ta):=by
 obtain⟨a,hm,T⟩:=Fi T;refine PE.mono (Mh (r:=λz y H Q=>∃k ss,y=.str k/\z=.ref a/\KTD.datumAt k F=some ss/\∀t,uK X.K H t (ss.map V.str)->Q (.ref t) H) (λvalue Wv Wk s σ H z y o i Q I rz ry ⟨k,ss,e1,e2,e3,q⟩ hs=>?_) (DQ (v:=.ref a) hg hm rfl hd) he hs) λσ H Q' zz=>x7 zz λδ M Q hs hm ht k=>⟨δ,M,_,hs,hm,ht,λv H1 d M1 hd Wm e1 q1=>?_⟩
 .subst e1 e2;obtain⟨t,rfl⟩:=ry;obtain rfl:o=Value.ref a:=rz;have hT:=yf (s:=s) (T s.heap I.mQ);have h2:wpAny (model X.prog X.w) X.A (getItem (.ref a) (.str k t)) (EP X Wk σ Q) X.xe s:=Lj (T s.heap I.mQ) e3 λv ⟨t',e4,q4⟩=>⟨.ref t',H,I.tok _,e4,q t' (IT q4)⟩;unfold subscriptTail;refine cU ?_;rw[jX hT.not_modules];refine cU (iH hT jq.lookup ?_);have Wp:wpAny (model X.prog X.w) X.A (subscripted Wv false (.ref a) (.str k t)) (λr s₃=>wpAny (model X.prog X.w) X.A (letTemporaryGo value (.ref a) r>>=λ_=>pure r) (EP X Wk σ Q) X.xe s₃) X.xe s:=by rw[hs];exact wpAny_operating (eA h2 (λr s₃ h₃=>cU (j9 (de h₃))) λ_ _ x=>x)
  first
   | exact de (cU Wp)
   | exact cU (de (cU Wp))
   | exact cU Wp
 .cases d with
  | str k'=>obtain⟨ss,e4,q2⟩:=qI q1;exact⟨k',ss,hd.str_inv,rfl,e4,λt qt=>k _ _ _ _ (.tup qt zK) Wm e1 q2⟩
  | _=>exact q1.elim
def zr(M:Mp)(a:Addr):Option (List (qR×D)):=match M a with
 | some (.dk kvs)=>some kvs
 | _=>none
def ve(kvs:List (qR×D))(k:qR):Option D:=(kvs.find? λp=>decide (p.1=k)).map (·.2)
def Bl{K:pY}{H:Hp}{M:Mp}{a:Addr}{kvs:List (qR×D)}(hm:HM K H M)(h:zr M a=some kvs):∃vs,H a=some (.dK vs)/\vs.map (·.1)=kvs.map (·.1)/\pV K H (kvs.map (·.2)) (vs.map (·.2)):=by
 unfold zr at h;cases e:M a with
 | none=>rw[e]at h;cases h
 | some c=>
  rw[e]at h;have ok:=hm a c e;cases c with
  | dk es=>cases h;exact ok
  | ins _ _=>cases h
  | lst _=>cases h
  | exc _=>cases h
theorem EA{K:pY}{H:Hp}{k:qR}:∀{kvs:List (qR×D)} {vs:List (qR×V)},vs.map (·.1)=kvs.map (·.1)->pV K H (kvs.map (·.2)) (vs.map (·.2))->(∀d,ve kvs k=some d->∃v,wq vs k=some v/\rh K H d v)/\(ve kvs k=none->wq vs k=none)
 | [],[],_,_=>⟨λd z=>(by cases z),λ_=>rfl⟩
 | [],_::_,e,_=>by cases e
 | _::_,[],e,_=>by cases e
 | (j,d)::kvs,(j',v)::vs,e,h=>by
  have e1:j'=j:=by simpa using(gM e).1
  subst e1;obtain⟨x,r,e2,h1,h2⟩:=h.inv;obtain⟨e3,e4⟩:=gM e2;subst e3 e4;have ih:=EA (k:=k) (kvs:=kvs) (vs:=vs) (gM e).2 h2;by_cases hk:j'=k
  .have g:ve ((j',d)::kvs) k=some d:=by simp[ve,hk]
   have g':wq ((j',v)::vs) k=some v:=by simp[wq,hk]
   rw[g,g'];exact⟨λd' z=>by cases z;exact⟨v,rfl,h1⟩,λz=>by cases z⟩
  .have g:ve ((j',d)::kvs) k=ve kvs k:=by simp[ve,hk]
   have g':wq ((j',v)::vs) k=wq vs k:=by simp[wq,hk]
   rw[g,g'];exact ih
def Mj(x y:D)(M:Mp)(Q:DK):Prop:=match x,y with
 | .ref a,.str k=>(zr M a).elim False λkvs=>(ve kvs (.inr k)).elim False λd=>Q d M
 | _,_=>False
def Td(td tk:T3):T3:=λδ M Q=>td δ M λx M1=>tk δ M1 λy M2=>Mj x y M2 Q
def zc(hu:X.A.units+9<cLine)(ho:E3 X o td)(hi:E3 X i tk)(hs:AZ i:=by exact λ_ _=>rfl):E3 X (.Subscript o i pos) (Td td tk):=by
 refine PE.mono (Mh (r:=R3 X.K Mj) (λvalue Wv Wk s σ H vx vy v u Q' I rx ry h hs=>?_) ho hi hs) Ho;obtain⟨x,y,M,Q,hx,hy,hm,q,k⟩:=h;unfold Mj at q;split at q
 .rename_i a0 k0;obtain⟨kvs,e1,q⟩:=qI q;obtain⟨d,e2,q⟩:=qI q;cases hx.mw;cases hy.str_inv;obtain⟨vs,h1,h2,h3⟩:=Bl hm e1;obtain⟨w,e3,hw⟩:=(EA h2 h3).1 d e2;refine NB (by omega) value Wv Wk s σ H _ _ v u Q' I rx ry ⟨_,w,rfl,?_,k _ _ _ _ hw hm .refl q⟩ hs;have g:=EZ.k (k:=Sum.inr k0) h1;rw[e3]at g;exact g
 .exact q.elim
def QT(XW:Bool)(x y:D)(M:Mp)(Q:DK):Prop:=match x,y with
 | .str k,.ref a=>(zr M a).elim False λkvs=>Q (.bl (if XW then !(ve kvs (.inr k)).isSome else(ve kvs (.inr k)).isSome)) M
 | _,_=>False
def Lu{K:pY}{H:Hp}{k:qR}{kvs:List (qR×D)}{vs:List (qR×V)}(h2:vs.map (·.1)=kvs.map (·.1))(h3:pV K H (kvs.map (·.2)) (vs.map (·.2))):(wq vs k).isSome=(ve kvs k).isSome:=by
 obtain⟨a,b⟩:=EA (k:=k) h2 h3;cases e:ve kvs k with
 | none=>rw[b e];rfl
 | some d=>obtain⟨v,e3,_⟩:=a d e;rw[e3];rfl
def Vi(XW:Bool)(tk td:T3):T3:=λδ M Q=>tk δ M λx M1=>td δ M1 λy M2=>QT XW x y M2 Q
def SG(hu:X.A.units+9<cLine):wY X (compareOp .In) (R3 X.K (QT false)):=λWk s σ H vx vy v u Q' I rx ry h=>by
 obtain⟨x,y,M,Q,hx,hy,hm,q,k⟩:=h;unfold QT at q;split at q
 .obtain⟨kvs,e1,q⟩:=qI q;cases hy.mw;cases hx.str_inv;obtain⟨vs,h1,h2,h3⟩:=Bl hm e1;refine Rv (by omega) Wk s σ H _ _ v u Q' I rx ry ⟨_,_,rfl,EZ.k (k:=Sum.inr _) h1,?_⟩;rw[Lu h2 h3];exact k _ _ _ _ .bl hm .refl q
 .exact q.elim
def LU(hu:X.A.units+9<cLine)(hi:E3 X i tk)(ho:E3 X o td)(hm:behindInMarks .In o=false:=by first|exact G5 _|with_unfolding_all rfl):B3 X (.Compare i [.In] [o] pos) (b3 (Vi false tk td)):=PT.mono (I0 (SG hu) hi ho hm) λσ H Q' zz=>x7 zz λδ M Q hs hm ht k=>
 Ho σ H _ ⟨δ,M,_,hs,hm,ht,λv H1 d M1 hd Wm e1 q1=>by
  cases d with
  | bl c=>exact⟨c,hd.mB,k c H1 M1 Wm e1 q1⟩
  | _=>exact q1.elim⟩
def wj:List D->Option (List (qR×D))
 | []=>some []
 | .tup [.str k,d]::r=>(wj r).map ((.inr k,d)::·)
 | _::_=>none
theorem Dc{K:pY}{H:Hp}:∀{es:List D} {kvs:List (qR×D)} {xs:List V},wj es=some kvs->pV K H es xs->∃(ts:List Addr) (vs:List (qR×V)),xs=ts.map V.ref/\ts.length=vs.length/\vs.map (·.1)=kvs.map (·.1)/\pV K H (kvs.map (·.2)) (vs.map (·.2))/\
  ∀(j:Nat) (t:Addr) (p:qR×V),ts[j]?=some t->vs[j]?=some p->uK K H t [kV p.1,p.2]
 | [],_,_,e,h=>by cases e;exact⟨[],[],h.nil_inv,rfl,rfl,.nil,λj t p z=>by simp at z⟩
 | d::es,kvs,xs,e,h=>by
  obtain⟨x,r,rfl,h1,h2⟩:=h.inv;unfold wj at e;split at e
  .rename_i z;cases z
  .rename_i k d' r' z;cases z;cases q:wj es with
   | none=>rw[q]at e;cases e
   | some kvs'=>
    rw[q]at e;cases e;obtain⟨ts,vs,e1,e2,e3,e4,e5⟩:=Dc q h2;obtain⟨a,ys,rfl,g1,g2⟩:=h1.mE;obtain⟨y,r1,rfl,g3,g4⟩:=g2.inv;obtain⟨w,r2,rfl,g5,g6⟩:=g4.inv;cases g6.nil_inv;cases g3.str_inv;refine⟨a::ts,(.inr k,w)::vs,by rw[e1];rfl,by simpa using e2,by rw[dS,dS,e3],.cons g5 e4,λj t p z1 z2=>?_⟩;cases j with
    | zero=>
     have z1':a=t:=by simpa using z1
     have z2':(Sum.inr k,w)=p:=by simpa using z2
     subst z1' z2';exact g1
    | succ j=>exact e5 j t p (by simpa using z1) (by simpa using z2)
  .cases e
def Qh(ds:List D)(M:Mp)(Q:DK):Prop:=match ds with
 | [.ref a]=>(oy M a).elim False λes=>(wj es).elim False λkvs=>(kvs.map (·.1)).Nodup/\∀p,M p=none->Q (.ref p) (oZ M p (.dk kvs))
 | _=>False
def Fc(hc:X.calm=true):C3 X (.type "dict") Qh:=by
 intro Wk s σ H vs us Q' I rv h;obtain⟨ds,M,Q,hd,hm,q,k⟩:=h;unfold Qh at q;split at q
 .obtain⟨es,e1,q⟩:=qI q;obtain⟨kvs,e2,hnd,q⟩:=qI q;obtain⟨v,rfl,hv⟩:=rM hd;cases hv.mw;obtain⟨xs,h1,h2,_⟩:=qa hm e1;obtain⟨ts,ws,rfl,f2,f3,f4,f5⟩:=Dc e2 h2;refine GE hc Wk s σ H _ us Q' I rv ⟨_,ts,ws,rfl,h1,f2,f5,by rw[f3];exact hnd,λd hd=>?_⟩;have e:qF X.K H (upd H d (.dK ws)):=.new hd;exact k _ _ _ _ .ref (hm.new (c:=.dk kvs) hd ⟨_,pS,f3,f4.mono e⟩) e (q d (hm.fresh hd))
 .exact q.elim
def QI:bootBuiltins "set"=some (.type "set"):=by decide+kernel
def A8:List D->Option (List Str)
 | []=>some []
 | .str x::r=>(A8 r).map (x::·)
 | _::_=>none
theorem BS:∀ss:List Str,A8 (ss.map D.str)=some ss
 | []=>rfl
 | x::r=>by show(A8 (r.map D.str)).map (x::·)=_;rw[BS r];rfl
theorem FK{K:pY}{H:Hp}:∀{ds:List D} {ss:List Str} {xs:List V},A8 ds=some ss->pV K H ds xs->xs=ss.map V.str
 | [],_,_,e,h=>by cases e;exact h.nil_inv
 | d::ds,_,_,e,h=>by
  obtain⟨x,r,rfl,h1,h2⟩:=h.inv;cases d with
  | str z=>
   unfold A8 at e;cases q:A8 ds with
   | none=>rw[q]at e;cases e
   | some ss=>rw[q]at e;cases e;rw[h1.str_inv,FK q h2];rfl
  | _=>cases e
def Uq(ta:T3):T3:=λδ M Q=>ta δ M λx M1=>(MT M1 x).elim False λes=>(A8 es).elim False λss=>ss.length<4000/\Q (.int (su ss).length) M1
def Ju{p2 X8:Pos}(hc:X.calm=true)(he:E3 X e ta)(hg1:Gl X "len")(Wm:X.mg "len"=none)(hg2:Gl X "set")(WB:X.mg "set"=none)(b1:bootBuiltins "len"=some (.builtin "len"))(b2:bootBuiltins "set"=some (.type "set")) (hs:starEach [e] X.env=[(false,eval e X.env)]:=by rfl):E3 X (.Call (.Name "len" p) [.Call (.Name "set" p2) [e] [] X8] [] pos) (Uq ta):=
 PE.mono (JD hc he hg1 Wm hg2 WB b1 b2 hs) λσ H Q' zz=>x7 zz λδ M Q hs hm ht k=>⟨δ,M,_,hs,hm,ht,λv H1 d M1 hd Wm e1 q1=>by
  obtain⟨es,e2,q1⟩:=qI q1;obtain⟨ss,e3,hz,q1⟩:=qI q1;obtain⟨a,xs,rfl,h1,h2⟩:=Fd Wm hd e2;rw[FK e3 h2]at h1;have z:scanBound=4096:=rfl;exact⟨a,ss,rfl,h1,by omega,k _ _ _ _ .int Wm e1 q1⟩⟩
def QV(x:D)(ds:List D)(M:Mp)(Q:DK):Prop:=match x,ds with
 | .ref a,[y]=>(oy M a).elim False λes=>es.length<sizeLine/\Q .mC (oZ M a (.lst (es++[y])))
 | _,_=>False
def pJ{M:Mp}{a:Addr}{es:List D}(h:oy M a=some es):M a=some (.lst es):=by
 unfold oy at h;split at h
 .rename_i e;rw[e];cases h;rfl
 .cases h
def DN{K:pY}{H:Hp}{M:Mp}{a:Addr}{es:List D}(hm:HM K H M)(h:oy M a=some es):∃xs,H a=some (.lst xs)/\pV K H es xs:=hm a _ (pJ h)
def JU:M3 X "list.append" QV:=by
 intro Wk s σ H vx vs v us Q' I rx rv h;obtain⟨x,ds,M,Q,hx,hd,hm,q,k⟩:=h;unfold QV at q;split at q
 .obtain⟨es,e1,hz,q⟩:=qI q;obtain⟨w,rfl,hw⟩:=rM hd;cases hx.mw;obtain⟨xs,h1,h2⟩:=DN hm e1;refine Jj Wk s σ H _ _ v us Q' I rx rv ⟨_,xs,w,rfl,rfl,h1,by rw[<-h2.length];exact hz,?_⟩;obtain⟨WB,ex⟩:=hm.put (c:=.lst (es++[_])) (pJ e1) λex=>⟨_,pS,(h2.mono ex).snoc (hw.mono ex)⟩;exact k _ _ _ _ .mC WB ex q
 .exact q.elim
def rA(ho:E3 X o ta)(ha:A3 X (e::es) t)(WJ:attributeBase o "append" X.env (eval o X.env)=eval o X.env:=by rfl)
  (Xw:((backTo pos (starEach (e::es) X.env)).all (λx=>!x.1)&&(backToKw pos (keywordEach [] X.env)).all (λx=>x.1.isSome)&&decide ((e::es).length+([]:List Keyword).length+(if ([]:List Keyword).isEmpty then 0 else 1)<30))=true:=by rfl)
  (WT:(Wn.endLine==pos.line)=true:=by rfl) (hs:AV X e es:=by rfl) (WD:Cd X pos es:=by rfl):
  E3 X (.Call (.Attribute o "append" Wn) (e::es) [] pos) (VF QV ta t):=Qj PySem.F.slot_list_append PySem.F.type_list_append JU ho ha WJ Xw WT hs WD
def qh.none{M M2:Mp}{q:Addr}(s:qh M M2)(h:M2 q=none):M q=none:=by
 cases e:M q with
 | none=>rfl
 | some c=>rw[s q c e]at h;cases h
def qh.upd{M M2:Mp}{q:Addr}{c:uk}(s:qh M M2):qh (oZ M q c) (oZ M2 q c):=λx d h=>by
 by_cases e:x=q
 .subst e;rw[pG]at h ⊢;exact h
 .rw[ua e]at h ⊢;exact s x d h
def qh.dk{M M':Mp}{a:Addr}{ds:List (qR×D)}(s:qh M M')(h:zr M a=some ds):zr M' a=some ds:=by
 unfold zr at h ⊢;cases e:M a with
 | none=>rw[e]at h;cases h
 | some c=>rw[s a c e];rw[e]at h;exact h
def rN(p:Addr)(M M':Mp):Prop:=∀b c,b≠p->M b=some c->M' b=some c
def qh.keep{M M':Mp}{p:Addr}(s:qh M M'):rN p M M':=λb c _ h=>s b c h
def rN.trans{M M1 M2:Mp}{p:Addr}(a:rN p M M1)(b:rN p M1 M2):rN p M M2:=λx c n h=>b x c n (a x c n h)
def rN.put{M:Mp}{p:Addr}{c:uk}:rN p M (oZ M p c):=λb d n h=>by rw[ua n];exact h
def rN.lst{M M':Mp}{p a:Addr}{ds:List D}(k:rN p M M')(n:a≠p)(h:oy M a=some ds):oy M' a=some ds:=by have:=k a _ n (pJ h);unfold oy;rw[this]
def rN.dk{M M':Mp}{p a:Addr}{ds:List (qR×D)}(k:rN p M M')(n:a≠p)(h:zr M a=some ds):zr M' a=some ds:=by
 unfold zr at h ⊢;cases e:M a with
 | none=>rw[e]at h;cases h
 | some c=>rw[k a c n e];rw[e]at h;exact h
def pI{M:Mp}{a p C:Addr}{ds:List D}{fs:List (Str×D)}(h:oy M a=some ds)(hp:M p=some (.ins C fs)):a≠p:=λz=>by subst z;rw[pJ h]at hp;cases hp
def Bc{M:Mp}{a p C:Addr}{ds:List (qR×D)}{fs:List (Str×D)}(h:zr M a=some ds)(hp:M p=some (.ins C fs)):a≠p:=λz=>by subst z;unfold zr at h;rw[hp]at h;cases h
def rk{M:Mp}{p:Addr}{ds:List D}(h:M p=some (.lst ds)):oy M p=some ds:=by unfold oy;rw[h]
def BK{M:Mp}{p:Addr}{ds:List (qR×D)}(h:M p=some (.dk ds)):zr M p=some ds:=by unfold zr;rw[h]
def sD{N:Mp}{p q C:Addr}{fs fs':List (Str×D)}{c:uk}(hp:N p=some (.ins C fs))(hq:N q=none):
  q≠p/\oZ N q c p=some (.ins C fs)/\rN p N (oZ (oZ N q c) p (.ins C fs'))/\oZ (oZ N q c) p (.ins C fs') q=some c/\oZ (oZ N q c) p (.ins C fs') p=some (.ins C fs'):=by
 have n:p≠q:=Qe hp hq;refine⟨dJ n,by rw[ua n];exact hp,(qh.new hq).keep.trans .put,by rw[ua (dJ n),pG],pG⟩
theorem EQ{g:Cp}{te:T3}{ok:Mp->Prop}{Q:DK}(all:List D)(J:List D->List D->uM->Mp->Prop)(mG:∀p acc δ M,J p acc δ M->ok M):∀(ds pre acc:List D) (δ:uM) (M:Mp),pre++ds=all->acc.length+ds.length<=sizeLine->J pre acc δ M->
  (∀pre d post,pre++d::post=all->∀acc δ M,J pre acc δ M->∀k:uM->DK,(∀δ2 y M4,J (pre++[d]) (acc++[y]) δ2 M4->k δ2 y M4)->g d δ M λδ2 M2=>te δ2 M2 (k δ2))->
  (∀acc δ M,J all acc δ M->∀p,M p=none->Q (.ref p) (oZ M p (.lst acc)))->uC g B1 te ok Q ds acc δ M
 | [],pre,acc,δ,M,e,hl,j,_,hq=>⟨by simpa using hl,hq acc δ M (by rw[<-e,eY];exact j)⟩
 | d::r,pre,acc,δ,M,e,hl,j,ht,hq=>by rw[d6]at hl;refine⟨by omega,?_⟩;refine ht pre d r e acc δ M j (λδ2 y M4=>ok M4/\uC g B1 te ok Q r (acc++[y]) δ2 M4) λδ2 y M4 j'=>⟨mG _ _ _ _ j',EQ all J mG r (pre++[d]) (acc++[y]) δ2 M4 (by rw[<-e,fj];rfl) ?_ j' ht hq⟩;rw[cX,dQ];omega
def uN:Nat->D->Bool
 | _,.mC=>true
 | _,.bl _=>true
 | _,.int _=>true
 | _,.str _=>true
 | n+1,.tup ds=>ds.all (uN n)
 | _,_=>false
theorem yh{f:D->D->Option Bool}:∀ds:List D,(∀d∈ds,f d d=some true)->rY f ds ds=some true
 | [],_=>rfl
 | d::r,h=>by show(f d d).bind (λp=>(rY f r r).map λq=>p&&q)=some true;rw[h d dN,yh r λe he=>h e (dC _ he)];rfl
theorem GB{M:Mp}:∀(n:Nat) (d:D),uN n d=true->yI M (n+1) d d=some true
 | _,.mC,_=>rfl
 | _,.bl _,_=>by simp[yI]
 | _,.int _,_=>by simp[yI]
 | _,.str _,_=>by simp[yI]
 | n+1,.tup ds,h=>by have h:ds.all (uN n)=true:=h;show(rY (yI M (n+1)) ds ds).map (λp=>p&&ds.length==ds.length)=some true;rw[yh ds λd hd=>GB n d (eL.mp h d hd)];simp
 | 0,.tup _,h=>by cases h
 | 0,.ref _,h=>by cases h
 | _+1,.ref _,h=>by cases h
 | 0,.ty _,h=>by cases h
 | _+1,.ty _,h=>by cases h
 | 0,.rl _,h=>by cases h
 | _+1,.rl _,h=>by cases h
def Jd{M:Mp}{n:Nat}{a b:Addr}{ds:List D}(ha:oy M a=some ds)(hb:oy M b=some ds)(h:∀d∈ds,yI M n d d=some true):yI M (n+1) (.ref a) (.ref b)=some true:=by show(oy M a).bind (λi=>(oy M b).bind λj=>if i.length=j.length then rY (yI M n) i j else some false)=some true;rw[ha,hb];show(if ds.length=ds.length then rY (yI M n) ds ds else some false)=some true;rw[c9 rfl];exact yh ds h
def QN(tc:Ac)(tb:wV):wV:=λE δ M=>∃W:Nat->uM->Mp->Prop,(∃m,W m δ M)/\∀m δ M,W m δ M->
 tc δ M λb M1=>if b=true then tb {E with nx:=λδ' M'=>∃m',m'<m/\W m' δ' M',ct:=λδ' M'=>∃m',m'<m/\W m' δ' M',bk:=E.nx} δ M1 else E.nx δ M1
def Ks{c:Expr}{body:List Stmt}{tc:Ac}{tb:wV}(hp:PassesOwn (model X.prog X.w) X.A X.env X.xe)(hc:B3 X c tc)(hb:Hv X body tb):S3 X (.While c body [] pos) (QN tc tb):=
 PS.mono (MS hp hc hb) λD' σ H ⟨δ,M,E,hs,hm,⟨W,⟨m0,w0⟩,turn⟩,k1,k2,k3,k4⟩=>by
 refine⟨λm σ' H'=>∃δ' M',ym X.K H' σ' δ'/\HM X.K H' M'/\qF X.K H H'/\σ'.length=σ.length/\W m δ' M',⟨m0,δ,M,hs,hm,.refl,rfl,w0⟩,?_⟩
 rintro m σ1 H1 ⟨δ1,M1,Zm,Wm,e1,l1,w1⟩
 refine⟨δ1,M1,_,Zm,Wm,turn m δ1 M1 w1,λb H2 M2 WB e2 q2=>?_⟩;cases b with
 | false=>rw[cY dw]at q2 ⊢;exact k1 σ1 H2 δ1 M2 (Zm.mono e2) WB (e1.trans e2) l1 q2
 | true=>
  rw[c9 rfl]at q2 ⊢;refine⟨λσ' H'=>∃δ' M',ym X.K H' σ' δ'/\HM X.K H' M'/\qF X.K H H'/\σ'.length=σ.length/\∃m',m'<m/\W m' δ' M',?_,δ1,M2,_,Zm.mono e2,WB,q2,?_,?_,?_,?_⟩
  .rintro σ' H' ⟨δ',M',a1,a2,a3,a4,m',lt,w⟩
   exact⟨m',lt,δ',M',a1,a2,a3,a4,w⟩
  .exact λσ' H' δ' M' y1 y2 y3 y4 y5=>⟨δ',M',y1,y2,e1.trans (e2.trans y3),by rw[y4,l1],y5⟩
  .exact λv H' d M' y1 y2 y3 y4=>k2 v H' d M' y1 y2 (e1.trans (e2.trans y3)) y4
  .exact λσ' H' δ' M' y1 y2 y3 y4 y5=>k1 σ' H' δ' M' y1 y2 (e1.trans (e2.trans y3)) (by rw[y4,l1]) y5
  .exact λσ' H' δ' M' y1 y2 y3 y4 y5=>⟨δ',M',y1,y2,e1.trans (e2.trans y3),by rw[y4,l1],y5⟩
def QH(op:Operator)(x y:D):Option D:=match op,x,y with
 | .Add,.int i,.int j=>some (.int (i+j))
 | .Sub,.int i,.int j=>some (.int (i - j))
 | _,_,_=>none
def R8(op:Operator):V->V->Hp->VK->Prop:=λvx vy H Q=>match op,vx,vy with
 | .Add,.int i,.int j=>Q (.int (i+j)) H
 | .Sub,.int i,.int j=>Q (.int (i - j)) H
 | _,_,_=>False
def Sg{op:Operator}:Of X op (R8 op):=by
 intro Wk s σ H x y u v Q I rx ry h;unfold R8 at h;split at h
 .exact Qv Wk s σ H _ _ u v Q I rx ry ⟨_,_,rfl,rfl,h⟩
 .exact Q9 Wk s σ H _ _ u v Q I rx ry ⟨_,_,rfl,rfl,h⟩
 .exact h.elim
def PU{K:pY}{H:Hp}{op:Operator}{x y z:D}{vx vy:V}{Q:VK}(hx:rh K H x vx)(hy:rh K H y vy)(e:QH op x y=some z)(k:∀vz,rh K H z vz->Q vz H):R8 op vx vy H Q:=by
 unfold QH at e;split at e
 .cases e;cases hx.int_inv;cases hy.int_inv;exact k _ .int
 .cases e;cases hx.int_inv;cases hy.int_inv;exact k _ .int
 .cases e
def Tt(K:pY)(f:Str)(op:Operator)(ta tv:T3):wV:=λE δ M=>ta δ M λx M1=>match x with
 | .ref a=>zS (M1 a) λC fs=>tL K C f/\(fs.lookup f).elim False λd=>tv δ M1 λy M2=>(QH op d y).elim False λz=>zS (M2 a) λC' fs'=>C'=C/\fs'.length<1000/\E.nx δ (oZ M2 a (.ins C (vI f z fs')))
 | _=>False
def C6{o value:Expr}{ta tv:T3}{f:Str}{op:Operator}{Yu:Pos}(ha:E3 X o ta)(hv:E3 X value tv):S3 X (.AugAssign (.Attribute o f Yu) op value pos) (Tt X.K f op ta tv):=
 PS.mono (Kb ha hv Sg) λD' σ H zz=>Jr zz λδ M E hs hm ht k1 k2 k3 k4=>
 ⟨δ,M,_,hs,hm,ht,λv H1 d M1 hd Wm e1 q1=>by
  cases d with
  | ref a=>
   cases hd.mw;obtain⟨C,fs,e,q1⟩:=wZ q1;obtain⟨na,q1⟩:=q1;obtain⟨d,ed,q1⟩:=qI q1;obtain⟨dx,vs,h1,cl,nn,fo⟩:=Wm a _ e;obtain⟨w,ew,hw⟩:=(wn fo).1 d ed;refine⟨a,C,dx,vs,w,rfl,h1,cl,na,ew,δ,M1,_,hs.mono e1,Wm,q1,λu H2 y M2 hy WB e2 q2=>?_⟩;obtain⟨z,ez,q2⟩:=qI q2;obtain⟨C',fs',e',q2⟩:=wZ q2;obtain⟨rfl,hl,q2⟩:=q2;refine PU (hw.mono e2) hy ez λvz hz=>?_;obtain⟨Y8,vs',W4,cl',nn',fo'⟩:=WB a _ e';have Wr:vs'.length=fs'.length:=by have:=eE List.length fo'.1;simpa using this
   refine⟨Y8,vs',W4,by omega,?_⟩;obtain⟨Xe,e3⟩:=WB.put (p:=a) (o:=.ins C' Y8 (vg f vz vs')) (c:=.ins C' (vI f z fs')) e' λx=>⟨Y8,_,pS,cl',λg hg=>by
    rcases Bh hg with q|q
    .rw[q];exact na
    .exact nn' g q,Ea (hz.mono x) (fo'.mono x)⟩
   exact k1 σ _ δ _ (hs.mono (e1.trans (e2.trans e3))) Xe (e1.trans (e2.trans e3)) rfl q2
  | _=>exact q1.elim⟩
theorem sv{i:Nat}{tt:Ac}{te:T3}{ok:Mp->Prop}{Q:DK}{f:D->D}{t:D->Bool}{M:Mp}(mG:ok M):∀(ds acc:List D) (δ:uM),acc.length+ds.length<=sizeLine->
  (∀d∈ds,∀k:Bool->Mp->Prop,k (t d) M->tt (δ.set i (some d)) M k)->(∀d∈ds,t d=true->∀k:DK,k (f d) M->te (δ.set i (some d)) M k)->
  (∀p,M p=none->Q (.ref p) (oZ M p (.lst (acc++(ds.filter t).map f))))->uC (ud i) tt te ok Q ds acc δ M
 | [],acc,δ,hl,_,_,hq=>⟨by simpa using hl,by simpa using hq⟩
 | d::r,acc,δ,hl,ht,he,hq=>by
  rw[d6]at hl;refine⟨by omega,?_⟩;show tt (δ.set i (some d)) M _;refine ht d dN _ ?_;have z:∀e:D,(δ.set i (some d)).set i (some e)=δ.set i (some e):=λe=>by rw[iK]
  cases q:t d with
  | true=>
   rw[c9 rfl];refine he d dN q _ ⟨mG,sv (f:=f) (t:=t) mG r (acc++[f d]) _ ?_ (λe m k h=>?_) (λe m h0 k h=>?_) ?_⟩
   .rw[cX,dQ];omega
   .rw[z];exact ht e (dC _ m) k h
   .rw[z];exact he e (dC _ m) h0 k h
   .intro p hp;have:=hq p hp;rw[ip q]at this
    simpa using this
  | false=>
   rw[cY dw];refine⟨mG,sv (f:=f) (t:=t) mG r acc _ (by omega) (λe m k h=>?_) (λe m h0 k h=>?_) ?_⟩
   .rw[z];exact ht e (dC _ m) k h
   .rw[z];exact he e (dC _ m) h0 k h
   .intro p hp;have:=hq p hp;rw[iq (by rw[q];exact dw)]at this;exact this
section
variable {a:Expr}
def Vt(ta:T3):T3:=λδ M Q=>ta δ M λx M1=>match x with|.int i=>Q (.int (-i)) M1|_=>False
def Fe(ha:E3 X a ta):E3 X (.UnaryOp .USub a pos) (Vt ta):=PE.mono (To QG ha) λσ H Q' zz=>x7 zz λδ M Q hs hm ht k=>
 ⟨δ,M,_,hs,hm,ht,λv H1 d M1 hd Wm e1 q1=>by
  cases d with
  | int i=>cases hd.int_inv;exact⟨i,rfl,k _ H1 _ M1 .int Wm e1 q1⟩
  | _=>exact q1.elim⟩
end
end L3
namespace L2
open PySem PySem.Spec PyProof.Rows PySem.W
variable {prog:Pg}{w:Wo}{A:Ar}{E:Vl→Sd→Prop}{s:Sd}
end L2
namespace L3
open PySem PySem.Spec PyProof.Rows L2
variable {X:Cx}{pos:Pos}{a b o i:Expr}{ta tb ti to:T3}
def TZ(to ti:T3):Cp:=λd δ M Q=>to δ M λx M1=>ti δ M1 λy M2=>match x,y with
 | .ref p,.int k=>(oy M2 p).elim False λes=>(FL es.length k).elim False λj=>Q δ (oZ M2 p (.lst (es.set j d)))
 | _,_=>False
theorem pV.set{K:pY}{H:Hp}{d:D}{v:V}(hv:rh K H d v):∀{ds:List D} {xs:List V} (j:Nat),pV K H ds xs->pV K H (ds.set j d) (xs.set j v)
 | [],_,j,h=>by rw[h.nil_inv];simp only[List.set_nil];exact .nil
 | e::ds,_,0,h=>by obtain⟨x,r,rfl,h1,h2⟩:=h.inv;exact .cons hv h2
 | e::ds,_,j+1,h=>by obtain⟨x,r,rfl,h1,h2⟩:=h.inv;exact .cons h1 (pV.set hv j h2)
def Sn(ho:E3 X o to)(hi:E3 X i ti) (ha:∀v,assign (.Subscript o i pos) X.env v=(do
   let ov<-holding [v] (eval o X.env);let iv<-holding [v,ov] (eval i X.env)
   standAt pos
   holding [v,ov,iv] (setItem ov iv v)
   release [v,ov,iv] []):=by intro _;rfl):G3 X (.Subscript o i pos) (TZ to ti):=
 PG.mono (RP ho hi Mg ha) λv σ H Q' ⟨d,δ,M,Q,hd,hs,hm,ht,k⟩=>
 ⟨δ,M,_,hs,hm,ht,λvx H1 x M1 hx Wm e1 q1=>⟨δ,M1,_,hs.mono e1,Wm,q1,λvy H2 y M2 hy WB e2 q2=>by
  cases x with
  | ref p=>
   cases y with
   | int j0=>obtain⟨es,f1,q2⟩:=qI q2;obtain⟨j,f2,q2⟩:=qI q2;cases(hx.mono e2).mw;cases hy.int_inv;obtain⟨xs,h1,h2⟩:=DN WB f1;refine⟨p,xs,j0,j,rfl,rfl,h1,by rw[<-h2.length];exact f2,?_⟩;have hd2:=hd.mono (e1.trans e2);obtain⟨Xe,e3⟩:=WB.put (o:=.lst (xs.set j v)) (c:=.lst (es.set j d)) (pJ f1) λex=>⟨_,pS,(h2.mono ex).set (hd2.mono ex) j⟩;exact k σ _ δ _ (hs.mono (e1.trans (e2.trans e3))) Xe (e1.trans (e2.trans e3)) rfl q2
   | _=>exact q2.elim
  | _=>exact q2.elim⟩⟩
end L3
namespace L2
open PySem PySem.Spec PyProof.Rows
variable {prog:Pg}{w:Wo}{A:Ar}{E:Vl→Sd→Prop}{s:Sd}{X:Cx}
end L2
namespace L3
open PySem PySem.Spec PyProof.Rows L2
variable {X:Cx}{pos Wn p:Pos}{a b o e i value:Expr}{es:List Expr}{ta tb ti to tv td tk:T3}{t:wW}
def Q5(x y:D)(M:Mp)(Q:DK):Prop:=match x,y with
 | .ref a,.int k=>(oy M a).elim False λes=>(0<=k/\k<=1000/\es.length<=1000)/\∀p,M p=none->Q (.ref p) (oZ M p (.lst (List.replicate k.toNat es).flatten))
 | _,_=>False
theorem IF{K:pY}{H:Hp}{ds:List D}{xs:List V}(h:pV K H ds xs):∀n:Nat,pV K H (List.replicate n ds).flatten (List.replicate n xs).flatten
 | 0=>.nil
 | n+1=>by rw[eF,eF,fO,fO];exact h.append (IF h n)
def Ry:wY X (binaryOp .Mult) (R3 X.K Q5):=λWk s σ H vx vy v u Q' I rx ry h=>by
 obtain⟨x,y,M,Q,hx,hy,hm,q,k⟩:=h;unfold Q5 at q;split at q
 .obtain⟨es,e1,⟨q1,q2,q3⟩,q⟩:=qI q;cases hx.mw;cases hy.int_inv;obtain⟨xs,h1,h2⟩:=DN hm e1;have hz:=dM;have hl:=h2.length;refine RS Wk s σ H _ _ v u Q' I rx ry ⟨_,_,xs,rfl,rfl,h1,by omega,by omega,?_,λpp hp=>?_⟩
  .exact dY (jY (show xs.length<=1000 by omega) (show Int.toNat _<=1000 by omega)) (by rw[hz];decide)
  .exact k _ _ _ _ .ref (hm.new (c:=.lst _) hp ⟨_,pS,(IF h2 _).mono (.new hp)⟩) (.new hp) (q pp (hm.fresh hp))
 .exact q.elim
def Us(ta tb:T3):T3:=λδ M Q=>ta δ M λx M1=>tb δ M1 λy M2=>Q5 x y M2 Q
def Bf(ha:E3 X a ta)(hb:E3 X b tb):E3 X (.BinOp a .Mult b pos) (Us ta tb):=PE.mono (P0 Ry ha hb) Ho
def BR(kvs:List (qR×D))(k:qR)(v:D):List (qR×D):=if (kvs.any λkv=>decide (kv.1=k))=true then kvs.map (λkv=>if kv.1=k then(kv.1,v)else kv)else kvs++[(k,v)]
theorem Gg{κ α β:Type}{k:κ}[DecidableEq κ]:∀{xs:List (κ×α)} {ys:List (κ×β)},xs.map (·.1)=ys.map (·.1)->(xs.any λkv=>decide (kv.1=k))=ys.any λkv=>decide (kv.1=k)
 | [],[],_=>rfl
 | [],_::_,e=>by cases e
 | _::_,[],e=>by cases e
 | x::xs,y::ys,e=>by obtain⟨e1,e2⟩:=gM e;rw[fX,fX,Gg e2];have e1:x.1=y.1:=e1;rw[e1]
def Jc{K:pY}{H:Hp}{k:qR}{d:D}{v:V}(hv:rh K H d v){kvs:List (qR×D)}{vs:List (qR×V)}(h1:vs.map (·.1)=kvs.map (·.1))(h2:pV K H (kvs.map (·.2)) (vs.map (·.2))):
  (yl vs k v).map (·.1)=(BR kvs k d).map (·.1)/\pV K H ((BR kvs k d).map (·.2)) ((yl vs k v).map (·.2)):=by
 have go:∀{kvs:List (qR×D)} {vs:List (qR×V)},vs.map (·.1)=kvs.map (·.1)->pV K H (kvs.map (·.2)) (vs.map (·.2))->
   (vs.map (λkv=>if kv.1=k then(kv.1,v)else kv)).map (·.1)=(kvs.map (λkv=>if kv.1=k then(kv.1,d)else kv)).map (·.1)/\pV K H ((kvs.map (λkv=>if kv.1=k then(kv.1,d)else kv)).map (·.2)) ((vs.map (λkv=>if kv.1=k then(kv.1,v)else kv)).map (·.2)):=λ{kvs}=>by
  induction kvs with
  | nil=>intro vs e h;cases vs with
   | nil=>exact⟨rfl,.nil⟩
   | cons _ _=>cases e
  | cons c r ih=>intro vs e h;cases vs with
   | nil=>cases e
   | cons w ws=>
    obtain⟨e1,e2⟩:=gM e;obtain⟨x,xr,e3,g1,g2⟩:=h.inv;obtain⟨e4,e5⟩:=gM e3;subst e4 e5;obtain⟨i1,i2⟩:=ih e2 g2;have e1:w.1=c.1:=e1;by_cases hk:c.1=k
    .have w1:(if w.1=k then(w.1,v)else w)=(w.1,v):=c9 (e1.trans hk);have w2:(if c.1=k then(c.1,d)else c)=(c.1,d):=c9 hk;simp only[dS,w1,w2];exact⟨by rw[i1,e1],.cons hv i2⟩
    .have w1:(if w.1=k then(w.1,v)else w)=w:=cY λz=>hk (e1.symm.trans z);have w2:(if c.1=k then(c.1,d)else c)=c:=cY hk;simp only[dS,w1,w2];exact⟨by rw[i1,e1],.cons g1 i2⟩
 unfold yl BR;rw[Gg (k:=k) h1];by_cases hk:(kvs.any λkv=>decide (kv.1=k))=true
 .rw[c9 hk,c9 hk];exact go h1 h2
 .rw[cY hk,cY hk];exact⟨by rw[dP,dP,h1];rfl,by rw[dP,dP];exact h2.append (.cons hv .nil)⟩
def TU(td tk tv:T3):wV:=λD δ M=>tv δ M λv M1=>td δ M1 λx M2=>tk δ M2 λy M3=>match x,y with
 | .ref a,.str k=>(zr M3 a).elim False λkvs=>kvs.length<sizeLine/\D.nx δ (oZ M3 a (.dk (BR kvs (.inr k) v)))
 | _,_=>False
def xO{M:Mp}{a:Addr}{kvs:List (qR×D)}(h:zr M a=some kvs):M a=some (.dk kvs):=by
 unfold zr at h;split at h
 .rename_i e;rw[e];cases h;rfl
 .cases h
def PH{Wt:Pos}(hu:X.A.units+9<cLine)(ho:E3 X o td)(hi:E3 X i tk)(hv:E3 X value tv)(hs:swapsWith value (some (.Subscript o i Wt)) pos.line X.env=pure false:=by rfl):S3 X (.Assign [.Subscript o i Wt] value pos) (TU td tk tv):=
 PS.mono (Py (by omega) ho hi hv hs) λD' σ H zz=>Jr zz λδ M D hs hm ht k1 k2 k3 k4=>
 ⟨δ,M,_,hs,hm,ht,λv H1 d M1 hd Wm e1 q1=>⟨δ,M1,_,hs.mono e1,Wm,q1,λvx H2 x M2 hx WB e2 q2=>⟨δ,M2,_,hs.mono (e1.trans e2),WB,q2,λvy H3 y M3 hy Xe e3 q3=>by
  split at q3
  .rename_i a0 k0;obtain⟨kvs,f1,f2,q3⟩:=qI q3;cases(hx.mono e3).mw;cases hy.str_inv;obtain⟨vs,h1,h2,h3⟩:=Bl Xe f1;have hl:vs.length=kvs.length:=by have:=eE List.length h2;simpa using this
   refine⟨_,_,rfl,MF.k (k:=Sum.inr k0) h1 (by omega),?_⟩;have hd3:=hd.mono (e2.trans e3);obtain⟨hm4,e4⟩:=Xe.put (o:=.dK (yl vs (Sum.inr k0) v)) (c:=.dk (BR kvs (.inr k0) d)) (xO f1) λex=>by obtain⟨g1,g2⟩:=Jc (k:=Sum.inr k0) (hd3.mono ex) h2 (h3.mono ex);exact⟨_,pS,g1,g2⟩
   exact k1 σ _ δ _ (hs.mono (e1.trans (e2.trans (e3.trans e4)))) hm4 (e1.trans (e2.trans (e3.trans e4))) rfl q3
  .exact q3.elim⟩⟩⟩
variable {Wk:List (Addr × Obj)}{σ:St}{H:Hp}{s:Sd}{tp:Pos}{WL:List Expr}{n:Nat}
end L3
namespace L2
open PySem PySem.Spec PyProof.Rows Builtin Builtin.Str
variable {prog:Pg}{w:Wo}{A:Ar}{E:Vl→Sd→Prop}{s:Sd}{X:Cx}
end L2
namespace L3
open PySem PySem.Spec PyProof.Rows L2 Builtin Builtin.Str
variable {X:Cx}{pos Wn:Pos}{o e:Expr}{es:List Expr}{ta:T3}{t:wW}
@[irreducible] def SsI (X:Cx) (st:List Stmt) (t:wV):Prop:=Hv X st t
@[irreducible] def SI (X:Cx) (st:Stmt) (t:wV):Prop:=S3 X st t
@[irreducible] def EI (X:Cx) (e:Expr) (t:T3):Prop:=E3 X e t
@[irreducible] def AI (X:Cx) (es:List Expr) (t:wW):Prop:=A3 X es t
variable {prog:Pg}{w:Wo}{A:Ar}{E:Vl→Sd→Prop}{s:Sd}{Wk:List (Addr × Obj)}{σ:St}{H:Hp}{p tp:Pos}{WL:List Expr}{n:Nat}
theorem xN{g:Cp}{tt:Ac}{te:T3}{ok:Mp->Prop}{Q:DK}(all:List D)(J:List D->List D->uM->Mp->Prop)(mG:∀p acc δ M,J p acc δ M->ok M):∀(ds pre acc:List D) (δ:uM) (M:Mp),pre++ds=all->acc.length+ds.length<=sizeLine->J pre acc δ M->
  (∀pre d post,pre++d::post=all->∀acc δ M,J pre acc δ M->∀(k:uM->DK) (k2:uM->Mp->Prop),(∀δ2 y M4,J (pre++[d]) (acc++[y]) δ2 M4->k δ2 y M4)->(∀δ2 M3,J (pre++[d]) acc δ2 M3->k2 δ2 M3)->g d δ M λδ2 M2=>tt δ2 M2 λb M3=>if b=true then te δ2 M3 (k δ2)else k2 δ2 M3)->
  (∀acc δ M,J all acc δ M->∀p,M p=none->Q (.ref p) (oZ M p (.lst acc)))->uC g tt te ok Q ds acc δ M
 | [],pre,acc,δ,M,e,hl,j,_,hq=>⟨by simpa using hl,hq acc δ M (by rw[<-e,eY];exact j)⟩
 | d::r,pre,acc,δ,M,e,hl,j,ht,hq=>by rw[d6]at hl;refine⟨by omega,?_⟩;refine ht pre d r e acc δ M j (λδ2 y M4=>ok M4/\uC g tt te ok Q r (acc++[y]) δ2 M4) (λδ2 M3=>ok M3/\uC g tt te ok Q r acc δ2 M3) (λδ2 y M4 j'=>⟨mG _ _ _ _ j',xN all J mG r (pre++[d]) (acc++[y]) δ2 M4 (by rw[<-e,fj];rfl) ?_ j' ht hq⟩) λδ2 M3 j'=>⟨mG _ _ _ _ j',xN all J mG r (pre++[d]) acc δ2 M3 (by rw[<-e,fj];rfl) (by omega) j' ht hq⟩;rw[cX,dQ];omega
end L3
namespace L2
open PySem PySem.Spec PyProof.Rows
def Cx.nL(X:Cx)(E:Vl->Sd->Prop):Cx:={X with xe:=E}
def Inv.nL{X:Cx}{E:Vl->Sd->Prop}{Wk:List (Addr×Obj)}{σ:St}{H:Hp}{s:Sd}(I:Inv X Wk σ H s):Inv (X.nL E) Wk σ H s:=
 ⟨⟨I.ok.mod,I.ok.kind,I.ok.glob,I.ok.blt,I.ok.above,I.ok.inj,I.ok.has,I.ok.om,I.ok.hd,I.ok.frames,I.ok.oq,I.ok.oK,I.ok.bs,I.ok.nO,I.ok.nF,I.ok.nJ,I.ok.m8,I.ok.nU⟩,I.os,I.bare,I.base,I.loc,I.cell,I.free,I.mM,I.pin,I.mG,I.len⟩
def Inv.xeOf{X:Cx}{E:Vl->Sd->Prop}{Wk:List (Addr×Obj)}{σ:St}{H:Hp}{s:Sd}(I:Inv (X.nL E) Wk σ H s):Inv X Wk σ H s:=
 ⟨⟨I.ok.mod,I.ok.kind,I.ok.glob,I.ok.blt,I.ok.above,I.ok.inj,I.ok.has,I.ok.om,I.ok.hd,I.ok.frames,I.ok.oq,I.ok.oK,I.ok.bs,I.ok.nO,I.ok.nF,I.ok.nJ,I.ok.m8,I.ok.nU⟩,I.os,I.bare,I.base,I.loc,I.cell,I.free,I.mM,I.pin,I.mG,I.len⟩
end L2
namespace L3
open PySem PySem.Spec PyProof.Rows L2
end L3
namespace L2
open PySem PySem.Spec PyProof.Rows
end L2
namespace L3
open PySem PySem.Spec PyProof.Rows L2
variable {X:Cx}{pos p tp kpos:Pos}{WL:List Expr}{n:Nat}
end L3
namespace L2
open PySem PySem.Spec PyProof.Rows
variable {prog:Pg}{w:Wo}{A:Ar}{E:Vl→Sd→Prop}{s:Sd}{a:Addr}{δ:Type}{k:Str}{tk:Tok}
section
variable {R:δ→Vl→Prop}{D:List (Str × δ)}
end
end L2
namespace L3
open PySem PySem.Spec PyProof.Rows L2
variable {X:Cx}{pos p:Pos}{x:Str}{d:D}{e o i:Expr}{ta tb td tk:T3}{F:List (Str × List Str)}
end L3
namespace L2
open PySem PySem.Spec PyProof.Rows
def Mc(h:Heap)(e:Addr)(cls:Vl)(dx tb:Option Addr)(F:Vl):Prop:=
 ∃oe vs,h.get? e=some oe/\oe.cls=cls/\oe.dict=dx/\oe.data=.fields vs/\1<vs.size/\vs[1]?=some (tb.elim Value.none Value.ref)/\∀T,tb=some T->T≠e/\∃oT ts,h.get? T=some oT/\oT.data=.fields ts/\3<ts.size/\ts[3]?=some F
def NT(h:Heap)(e:Addr)(cls:Vl)(dx tb:Option Addr):Prop:=Mc h e cls dx tb Value.none
theorem Bt{h base:Heap}:∀{l:List Env} {b:Addr},h.FunFrames base l->b∈vJ l->∃o,h.get? b=some o/\∀vs,o.data≠.fields vs
 | [],b,_,hb=>by cases hb
 | env::r,b,hF,hb=>by
  obtain⟨_,⟨L,o,hL,_,ho,hd⟩,hr⟩:=hF;have e:vJ (env::r)=L::vJ r:=by unfold vJ;rw[fU,hL]
  rw[e]at hb;rcases df.mp hb with z|z
  .rw[z];exact⟨o,ho,hd⟩
  .exact Bt hr z
def Dk{h base:Heap}{l:List Env}{b:Addr}{o:Obj}{vs:Array Vl}(hF:h.FunFrames base l)(ho:h.get? b=some o)(hd:o.data=.fields vs):b∉vJ l:=λhb=>by obtain⟨o',WZ,hn⟩:=Bt hF hb;rw[ho]at WZ;cases WZ;exact hn vs hd
variable {M:Model}{A:Ar}{s:Sd}{base:Heap}{env:Env}{outer:List Env}{L e:Addr}{cls:Vl}{dx:Option Addr}{Q:Unit→Sd→Prop}
section
variable {E:Vl→Sd→Prop}
def NG{Xz:Vl}{YG:Bool}{oe:Obj}{vs:Array Vl}{W2:Env}(hcf:W2.frame=some L)(Yn:A.frames=some (env::outer))(hF:s.heap.FunFrames base (env::outer))(hL:env.frame=some L)(ho:s.heap.get? e=some oe)(hd:oe.data=.fields vs)(h1:1<vs.size) (k:∀(h':Heap) (T:Addr),s.heap.get? T=none->(∀b o,s.heap.get? b=some o->b∉vJ (env::outer)->b≠e->h'.get? b=some o)->(∀b o,s.heap.get? b=some o->b∈vJ (env::outer)->∃sl,h'.get? b=some {o with slots:=sl})->
   (∃oe',h'.get? e=some oe'/\oe'.cls=oe.cls/\oe'.dict=oe.dict/\oe'.data=.fields (vs.setIfInBounds 1 (.ref T)))->(∃oT ts,h'.get? T=some oT/\oT.data=.fields ts/\3<ts.size/\ts[3]?=some (rawInt ↑L))->Q () {s with heap:=h'}):
  wpAny M A (do
   let a<-PySem.frameOf W2;let pl<-entryPlaceOf L YG;let b<-EntryCells.newEntry Xz a Value.none (rawInt ↑L) Value.none pl
   setField (Value.ref e) 1 b) Q E s:=by
 have ne:=Dk hF ho hd;unfold PySem.frameOf;refine cU (cU (wpAny_frameEnvs Yn (cU ?_)));have ed:List.dropWhile (λx=>x.frame != W2.frame) (env::outer)=env::outer:=by rw[List.dropWhile_cons,cY (by rw[hL,hcf];simp)]
 rw[ed];unfold frameObject;refine cU (wpAny_readyFrames_fun hF λW4 hs=>?_);obtain⟨z1,z2,z3⟩:=hs;rw[hL];refine de (de ?_);refine cU (wpAny_entryPlaceOf λpl hp=>?_);refine cU ?_;unfold EntryCells.newEntry newFields;have Wr:([Xz,Value.ref L,Value.none,rawInt ↑L,Value.none]++if pl.isEmpty=true then List.replicate 6 Value.none else pl).length=11:=by rw[cX];rcases hp with rfl|⟨_,_,_,_,_,_,_,rfl⟩<;>rfl
 have hfl:([Xz,Value.ref L,Value.none,rawInt ↑L,Value.none]++if pl.isEmpty=true then List.replicate 6 Value.none else pl)[3]?=some (rawInt ↑L):=rfl;generalize ([Xz,Value.ref L,Value.none,rawInt ↑L,Value.none]++if pl.isEmpty=true then List.replicate 6 Value.none else pl)=fs at Wr hfl ⊢;refine fR ?_ (by
  show fs.toArray.size<=_;rw[dq,Wr];decide)
 have e1:W4.get? e=some oe:=by rw[z2 e ne];exact ho
 have e2:(W4.push {cls:=.type "traceback",data:=.fields fs.toArray}).get? e=some oe:=cZ _ e1;refine g9 e2 hd h1 ?_;have tn:s.heap.get? W4.objs.size=none:=gC (by rw[z1];exact dg _);have te:W4.objs.size≠e:=λz=>by rw[z,ho]at tn;cases tn
 obtain⟨oc,od,Zr,Xd⟩:=oe;obtain rfl:Zr=.fields vs:=hd;have up:∀b,e≠b->((W4.push {cls:=.type "traceback",data:=.fields fs.toArray}).update e (Obj.mapFields λx=>x.setIfInBounds 1 (.ref W4.objs.size))).get? b=(W4.push {cls:=.type "traceback",data:=.fields fs.toArray}).get? b:=λb z=>fW _ _ z;refine k _ W4.objs.size tn (λb o hb nf ne'=>?_) (λb o hb hf=>?_) ⟨_,fF _ e2 rfl,rfl,rfl,rfl⟩ ⟨_,fs.toArray,(up _ (dJ te)).trans (dF _ rfl),rfl,by rw[dq,Wr];decide,by rw[iC];exact hfl⟩
 .rw[up b (dJ ne')];exact cZ _ (by rw[z2 b nf];exact hb)
 .obtain⟨sl,q⟩:=z3 b o hb;refine⟨sl,?_⟩;rw[up b (λz=>ne (z ▸ hf))];exact cZ _ q
def QM{E₁:Vl->Sd->Prop}{tb:Option Addr}{F:Vl}{W2:Env}(hcf:W2.frame=some L)(Yn:A.frames=some (env::outer))(hF:s.heap.FunFrames base (env::outer))(hL:env.frame=some L)(hx:Mc s.heap e cls dx tb F)(hFL:(F==rawInt ↑L)=false) (k:∀(h':Heap) (T:Addr),s.heap.get? T=none->(∀b o,s.heap.get? b=some o->b∉vJ (env::outer)->b≠e->tb≠some b->h'.get? b=some o)->(∀b o,s.heap.get? b=some o->b∈vJ (env::outer)->∃sl,h'.get? b=some {o with slots:=sl})->
   (∀b,h'.get? b=none->s.heap.get? b=none)->Mc h' e cls dx (some T) (rawInt ↑L)->Q () {s with heap:=h'}):wpAny M A (noteFrame (.ref e) W2) Q E₁ s:=by
 obtain⟨oe,vs,ho,hc,Yb,hd,h1,hv,hT⟩:=hx;have ne:=Dk hF ho hd;unfold noteFrame;rw[hcf];refine cU (fh ho hd hv ?_);have Wp:∀(s1:Sd) (oe1:Obj),s1.gens=s.gens->s1.drawn=s.drawn->s1.toks=s.toks->s1.os=s.os->s1.heap.FunFrames base (env::outer)->s1.heap.get? e=some oe1->oe1.cls=cls->oe1.dict=dx->oe1.data=.fields vs->(∀b o,s.heap.get? b=some o->b∉vJ (env::outer)->b≠e->tb≠some b->s1.heap.get? b=some o)->
   (∀b o,s.heap.get? b=some o->b∈vJ (env::outer)->s1.heap.get? b=some o)->(∀b,s1.heap.get? b=none↔s.heap.get? b=none)->∀(Xz:Vl) (YG:Bool),wpAny M A (do
   let a<-PySem.frameOf W2;let pl<-entryPlaceOf L YG;let b<-EntryCells.newEntry Xz a Value.none (rawInt ↑L) Value.none pl
   setField (Value.ref e) 1 b) Q E₁ s1:=by
  intro s1 oe1 g1 g2 g3 g4 hF1 ho1 hc1 hdx1 hd1 kb kf kn Xz YG;refine NG hcf Yn hF1 hL ho1 hd1 h1 λh' T tn k1 k2 ⟨oe',he',Zq,hdxe,hde⟩ ⟨oT,ts,Xs,XY,h3,h3v⟩=>?_;have te:T≠e:=λz=>by rw[z,ho1]at tn;cases tn
  have:=k h' T ((kn T).mp tn) (λb o hb nf nb nt=>k1 b o (kb b o hb nf nb nt) nf nb) (λb o hb hf=>k2 b o (kf b o hb hf) hf) (λb hb=>?_) ⟨oe',vs.setIfInBounds 1 (.ref T),he',Zq.trans hc1,hdxe.trans hdx1,hde,by rw[jC];exact h1,by rw[ia h1];rfl,λT' eT=>?_⟩
  .show Q () {heap:=_,gens:=s1.gens,drawn:=s1.drawn,toks:=s1.toks,os:=s1.os};rw[g1,g2,g3,g4];exact this
  .refine(kn b).mp ?_;cases q:s1.heap.get? b with
   | none=>rfl
   | some o=>
    by_cases z:b=e
    .rw[z,he']at hb;cases hb
    .by_cases zf:b∈vJ (env::outer)
     .obtain⟨sl,q2⟩:=k2 b o q zf;rw[q2]at hb;cases hb
     .rw[k1 b o q zf z]at hb;cases hb
  .cases eT;exact⟨te,oT,ts,Xs,XY,h3,h3v⟩
 cases tb with
 | none=>rw[cY (show ¬((none:Option Addr).elim Value.none Value.ref != Value.none)=true by decide+kernel)];exact Wp s oe rfl rfl rfl rfl hF ho hc Yb hd (λb o hb _ _ _=>hb) (λb o hb _=>hb) (λb=>.rfl) _ _
 | some T=>
  obtain⟨nTe,oT,ts,Xs,XY,h3,hn⟩:=hT T rfl;rw[c9 (show((some T:Option Addr).elim Value.none Value.ref != Value.none)=true by rfl)];refine cU (fh Xs XY hn ?_);rw[cY (by rw[hFL];exact dw)];refine cU (g9 Xs XY h3 ?_);have up:∀b,T≠b->(s.heap.update T (Obj.mapFields λx=>x.setIfInBounds 3 .none)).get? b=s.heap.get? b:=λb z=>fW _ _ z;have nf:∀b o,s.heap.get? b=some o->(∀vs,o.data≠.fields vs)->T≠b:=λb o hb hn z=>by rw[<-z,Xs]at hb;cases hb;exact hn ts XY
  have sz:∀b,(s.heap.update T (Obj.mapFields λx=>x.setIfInBounds 3 .none)).get? b=none↔s.heap.get? b=none:=λb=>by
   by_cases z:T=b
   .rw[<-z];obtain⟨oc,od,Zr,Xd⟩:=oT;obtain rfl:Zr=.fields ts:=XY;rw[fF _ Xs rfl,Xs];exact⟨(λq=>by cases q),(λq=>by cases q)⟩
   .rw[up b z]
  exact Wp {s with heap:=s.heap.update T (Obj.mapFields λx=>x.setIfInBounds 3 .none)} oe rfl rfl rfl rfl (mi (λb o hb hn=>⟨o,(up b (nf b o hb hn)).trans hb,rfl⟩) hF) ((up e nTe).trans ho) hc Yb hd
   (λb o hb _ _ nt=>(up b λz=>nt (by rw[z])).trans hb) (λb o hb hf=>by
    obtain⟨o',WZ,hn⟩:=Bt hF hf;rw[hb]at WZ;cases WZ;exact(up b (nf b o hb hn)).trans hb) sz _ _
def KI{T:Addr}{F:Vl}(x:Option Addr)(hx:Mc s.heap e cls dx (some T) F)(k:∀h':Heap,(∀b,T≠b->h'.get? b=s.heap.get? b)->(∀b,h'.get? b=none↔s.heap.get? b=none)->Mc h' e cls dx (some T) (x.elim .none λf=>rawInt f)->Q () {s with heap:=h'}):wpAny M A (setFlight (.ref e) x) Q E s:=by
 obtain⟨oe,vs,ho,hc,Yb,hd,h1,hv,hT⟩:=hx;obtain⟨nTe,oT,ts,Xs,XY,h3,hn⟩:=hT T rfl;unfold setFlight;refine cU (fh ho hd hv ?_);rw[c9 (by rfl)];refine g9 Xs XY h3 ?_;obtain⟨oc,od,Zr,Xd⟩:=oT;obtain rfl:Zr=.fields ts:=XY;have up:∀b,T≠b->(s.heap.update T (Obj.mapFields λy=>y.setIfInBounds 3 (x.elim .none λf=>rawInt f))).get? b=s.heap.get? b:=λb z=>fW _ _ z;refine k _ up (λb=>?_) ⟨oe,vs,(up e nTe).trans ho,hc,Yb,hd,h1,hv,λT' eT=>?_⟩
 .by_cases z:T=b
  .rw[<-z,fF _ Xs rfl,Xs];exact⟨(λq=>by cases q),(λq=>by cases q)⟩
  .rw[up b z]
 .cases eT;exact⟨nTe,_,ts.setIfInBounds 3 (x.elim .none λf=>rawInt f),fF _ Xs rfl,rfl,by rw[jC];exact h3,by rw[ia h3]⟩
def HU{E₁ E₂:Vl->Sd->Prop}{tb:Option Addr}(Yn:A.frames=some (env::outer))(hF:s.heap.FunFrames base (env::outer))(hL:env.frame=some L)(hx:NT s.heap e cls dx tb) (k:∀(h':Heap) (T:Addr),s.heap.get? T=none->(∀b o,s.heap.get? b=some o->b∉vJ (env::outer)->b≠e->tb≠some b->h'.get? b=some o)->(∀b o,s.heap.get? b=some o->b∈vJ (env::outer)->∃sl,h'.get? b=some {o with slots:=sl})->
   NT h' e cls dx (some T)->Q () {s with heap:=h'}):wpAny M A (noteFrame (.ref e) env) (λ_ s₂=>wpAny M A (setFlight (.ref e) none) Q E₂ s₂) E₁ s:=by
 refine QM hL Yn hF hL hx (dE.mpr λz=>by have:=fk.mp z;cases this) λh' T tn k1 k2 _ x'=>?_;refine KI none x' λh2 up _ x2=>k h2 T tn (λb o hb nf nb nt=>?_) (λb o hb hf=>?_) x2
 .have tb:T≠b:=λz=>by rw[z,hb]at tn;cases tn
  exact(up b tb).trans (k1 b o hb nf nb nt)
 .have tb:T≠b:=λz=>by rw[z,hb]at tn;cases tn
  obtain⟨sl,q⟩:=k2 b o hb hf;exact⟨sl,(up b tb).trans q⟩
def Os{tb:Option Addr}(Yn:A.frames=some (env::outer))(hF:s.heap.FunFrames base (env::outer))(hL:env.frame=some L)(hx:NT s.heap e cls dx tb) (k:∀(h':Heap) (T:Addr),s.heap.get? T=none->(∀b o,s.heap.get? b=some o->b∉vJ (env::outer)->b≠e->tb≠some b->h'.get? b=some o)->(∀b o,s.heap.get? b=some o->b∈vJ (env::outer)->∃sl,h'.get? b=some {o with slots:=sl})->
   NT h' e cls dx (some T)->Q () {s with heap:=h'}):wpAny M A (leaving env (.ref e)) Q E s:=cU (HU Yn hF hL hx k)
end
def Ba(P:Pg)(w:Wo):Ke:=λouter H s E ev s'=>GC λe C dx H' tb=>ev=.ref e/\E (.ref C) dx H'/\s'.os=s.os/\AllBare s'.gens/\Un (vJ outer) [] H H' s.heap s'.heap/\x9 P w H' s'.heap/\
 NT s'.heap e (.ref C) dx (some tb)/\s.heap.get? e=none/\s.heap.get? tb=none/\H' e=none/\H' tb=none
def xH{P:Pg}{w:Wo}{H:Hp}{h:Heap}{a:Addr}{o:HO}(x:rP P w H h a o):∃ob,h.get? a=some ob:=by
 cases o with
 | lst xs=>obtain⟨_,_,_,_,e⟩:=x;exact⟨_,e⟩
 | tup xs=>obtain⟨_,_,_,o,e,_⟩:=x;exact⟨_,e⟩
 | dK kvs=>obtain⟨_,_,_,_,o,_,_,e,_⟩:=x;exact⟨_,e⟩
 | dT kvs=>obtain⟨_,_,_,_,o,_,_,e,_⟩:=x;exact⟨_,e⟩
 | set S n=>obtain⟨o,_,_,_,e,_⟩:=x;exact⟨_,e⟩
 | ins C dx fs=>obtain⟨_,_,_,e,_⟩:=x;exact⟨_,e⟩
 | own y=>exact x
 | xd fs=>obtain⟨_,⟨_,_,_,e,_⟩,_⟩:=x;exact⟨_,e⟩
 | rng lo hi=>obtain⟨_,_,_,e⟩:=x;exact⟨_,e⟩
 | frz ob u=>obtain⟨e,_⟩:=x;exact⟨_,e⟩
 | tbl ps=>exact⟨_,x⟩
 | met f y=>exact⟨_,x⟩
 | ext φ=>obtain⟨_,e,_⟩:=x;exact e
def yK{P:Pg}{w:Wo}{H:Hp}{h:Heap}{T:Addr}(mG:x9 P w H h)(tn:h.get? T=none):H T=none:=by
 cases z:H T with
 | none=>rfl
 | some o=>obtain⟨ob,hob⟩:=xH (mG T o z);rw[hob]at tn;cases tn
variable {P:Pg}{w:Wo}{K:pY}{mg:Str→Option Vl}{N:List Str}{qual:Str}{scope:Scope}{f:Addr}{cd:Vl}{s0:Sd}{H0:Hp}
section
variable {E:XK}
def FC{fs ex:List Addr}{H H':Hp}{h h':Heap}(u:Un fs ex H H' h h')(hex:ex=[]){b:Addr}(hb:h'.get? b=none):h.get? b=none:=by
 cases q:h.get? b with
 | none=>rfl
 | some o=>obtain⟨o',e⟩:=u.there b o q (by rw[hex];simp);rw[e]at hb;cases hb
def K5{Wk:List (Addr×Obj)}{σ:St}{H:Hp}{s:Sd}{e C T:Addr}{tb dx:Option Addr}{h':Heap}(I:Inv (vd (Ba P w) P w K mg base N qual scope f cd A outer s0 H0 E) Wk σ H s)(he:s0.heap.get? e=none)(old:∀T,tb=some T->s0.heap.get? T=none/\H T=none)(hn:H e=none)(q:E (.ref C) dx H)(hT:s0.heap.get? T=none/\H T=none) (k1:∀b o,s.heap.get? b=some o->b∉vJ (envOfC qual scope s0.heap.objs.size f cd::outer)->b≠e->tb≠some b->h'.get? b=some o) (k2:∀b o,s.heap.get? b=some o->b∈vJ (envOfC qual scope s0.heap.objs.size f cd::outer)->∃sl,h'.get? b=some {o with slots:=sl}) (x':NT h' e (.ref C) dx (some T)):
  Ba P w outer H0 s0 E (.ref e) {s with heap:=h'}:=by
 have W6:=I.nu;have Wz:∀b o,H b=some o->∀u,s.heap.get? b=some u->h'.get? b=some u:=λb o hb u hu=>k1 b u hu (λz=>by rw[W6 b z]at hb;cases hb) (λz=>by rw[z,hn]at hb;cases hb) (λz=>by rw[(old b z).2]at hb;cases hb);have oldf:∀b o,s0.heap.get? b=some o->b∉vJ [envOfC qual scope s0.heap.objs.size f cd]:=λb o hb z=>by
  have:b=s0.heap.objs.size:=by have hz:b∈[s0.heap.objs.size]:=z;exact dD.mp hz
  rw[this]at hb;exact absurd (dv hb) (e9 _)
 have fr:∀b,b∈vJ (envOfC qual scope s0.heap.objs.size f cd::outer)->b∈vJ [envOfC qual scope s0.heap.objs.size f cd]\/b∈vJ outer:=λb hb=>by
  have hb:b∈s0.heap.objs.size::vJ outer:=hb;rcases df.mp hb with z|z
  .exact .inl (by rw[z];exact dN)
  .exact .inr z
 have WN:Un (vJ outer) [] H0 H s0.heap s.heap:=I.base;refine⟨e,C,dx,H,T,rfl,q,I.os,I.bare,⟨λb o hb h0 nf ne=>?_,λb o hb h0 hf ne=>?_,WN.free,λb o hb ne=>?_,WN.mZ,WN.mY,WN.nq⟩,λb o hb=>?_,x',he,hT.1,hn,hT.2⟩
 .have hs:=WN.keep b o hb h0 nf ne;refine k1 b o hs (λz=>?_) (λz=>by rw[z,he]at hb;cases hb) λz=>by rw[(old b z).1]at hb;cases hb
  rcases fr b z with z|z
  .exact oldf b o hb z
  .exact nf z
 .obtain⟨sl,hs⟩:=WN.slot b o hb h0 hf ne;have:b∈vJ (envOfC qual scope s0.heap.objs.size f cd::outer):=dC _ hf;obtain⟨XJ,h2⟩:=k2 b _ hs this;exact⟨XJ,h2⟩
 .obtain⟨o',hs⟩:=WN.there b o hb ne;by_cases z:b∈vJ (envOfC qual scope s0.heap.objs.size f cd::outer)
  .obtain⟨sl,h2⟩:=k2 b o' hs z;exact⟨_,h2⟩
  .exact⟨o',k1 b o' hs z (λz=>by rw[z,he]at hb;cases hb) λz=>by rw[(old b z).1]at hb;cases hb⟩
 .refine(I.mG b o hb).m7 (λb' u Xc hu=>?_) (λ_ q=>q) λ_ _ q=>q;rcases Xc with z|z
  .subst z;exact Wz b' o hb u hu
  .exact Wz b' _ z u hu
def SD{Wk:List (Addr×Obj)}{σ:St}{H:Hp}{s:Sd}{e C:Addr}{tb dx:Option Addr}(I:Inv (vd (Ba P w) P w K mg base N qual scope f cd A outer s0 H0 E) Wk σ H s)(hx:NT s.heap e (.ref C) dx tb)(he:s0.heap.get? e=none)(hT:∀T,tb=some T->s0.heap.get? T=none/\H T=none)(hn:H e=none)(q:E (.ref C) dx H):
  (vd (Ba P w) P w K mg base N qual scope f cd A outer s0 H0 E).xe (.ref e) s:=
 Os (base:=base) (outer:=outer) I.ok.frames I.stack rfl hx λh' T tn k1 k2 x'=>K5 I he hT hn q ⟨FC (show Un (vJ outer) [] H0 H s0.heap s.heap from I.base) rfl tn,yK I.mG tn⟩ k1 k2 x'
end
section
variable {E:XK}
end
def Nl(d:Addr)(f:Str)(v:V)(h:Heap):Prop:=∃u,h.Ns1 d (λy=>if y=f then some u else none)/\qy v u
end L2
namespace L3
open PySem PySem.Spec PyProof.Rows L2
abbrev XR:=Addr->Option (Str×D)->Mp->Prop
abbrev F4:=List D->Mp->DK->XR->Prop
def TQ(K:pY)(H:Hp)(dx:Option Addr)(y:Option (Str×D)):Prop:=(dx=none/\y=none)\/AU λd f z v=>dx=some d/\y=some (f,z)/\H d=some (.ext (Nl d f v))/\rh K H z v
def Tv(K:pY)(R:XR)(E:XK):Prop:=∀C dx H M y,HM K H M->TQ K H dx y->R C y M->E (.ref C) dx H
def VD(K:pY)(sp:F4):Sp:=λvs H Q' E=>AU λds M Q R=>pV K H ds vs/\HM K H M/\sp ds M Q R/\Up K H Q' Q/\Tv K R E
abbrev Sf(P:Pg)(w:Wo)(K:pY)(mg:Str->Option Vl)(base:Heap)(k:Nat)(f:Addr)(fd:FuncData)(ps:List Str)(sp:F4):Prop:=wR P w K mg base (Ba P w) k f fd ps (VD K sp)
variable {X:Cx}{x:Str}{p pos np Ws:Pos}{e:Expr}{es:List Expr}{t:wW}{k:Nat}{f C:Addr}{fd:FuncData}{ps:List Str}{sp:F4}{R:XR}{E:XK}{P:Pg}{w:Wo}{K:pY}{mg:Str→Option Vl}{base:Heap}{N:List Str}{qual:Str}{scope:Scope}{cd:Vl}{A:Ar}{outer:List Env}{s0:Sd}{H0:Hp}{ta:wW}
def Ut{x qual:Str}{st:Stmt}{f:Addr}{fd:FuncData}{N ps:List Str}{k:Nat}{sp:F4}(F:Pl K x qual st f fd)(S:sF N ps (pR st))(len:∀ds M Q R,sp ds M Q R->ds.length=ps.length) (WI:∀(Wu:Vl) (A:Ar) (outer:List Env) (s:Sd) (H:Hp) (E:XK) (R:XR),rD k (A.deeper (envOfC qual (pR st) s.heap.objs.size f Wu))->Tv K R E->
   ∃t,Hv (vd (Ba P w) P w K mg base N qual (pR st) f Wu A outer s H E) (rq st) t/\∀ds M Q,sp ds M Q R->t {nx:=λ_ M'=>∃Wq,qh Wq M'/\Q .mC Wq,rt:=λd M'=>∃Wq,qh Wq M'/\Q d Wq} (wz N ds) M):Sf P w K mg base (k+1) f fd ps sp:=by
 obtain⟨oc,od,kV,WX,pm,an,Wu,ct,Xd,rfl,lk,Xi⟩:=F.ex;refine LJ lk Xi S (λvs H Q E h=>?_) λA outer s H vs Q' E hr h=>?_
 .obtain⟨ds,M,Q,R,hd,_,hs,_⟩:=h;rw[<-hd.length];exact len ds M Q R hs
 .obtain⟨ds,M,Q,R,hd,hm,hs,k,hR⟩:=h;obtain⟨t,ht,hb⟩:=WI Wu A outer s H E R hr hR;exact⟨_,ht,wz N ds,M,_,C1 hd,hm,hb ds M Q hs,λσ' H' δ' M' _ x2 x3 _ ⟨Wq,y1,y2⟩=>k .mC H' .mC Wq .mC (x2.sub y1) x3 y2,λv H' d M' x1 x2 x3 ⟨Wq,y1,y2⟩=>k v H' d Wq x1 (x2.sub y1) x3 y2,λ_ _ _ _ _ _ _ _ z=>z,λ_ _ _ _ _ _ _ _ z=>z⟩
end L3
namespace L2
open PySem PySem.Spec PyProof.Rows
def TKept(H H':Hp):Prop:=(∀b xs,H b=some (.tup xs)->H' b=some (.tup xs))/\∀b o u,H b=some (.frz o u)->H' b=some (.frz o u)
def U8(X:Cx)(Wk:List (Addr×Obj))(σ:St)(J:Hp->Prop)(E:XK)(ev:Vl)(s':Sd):Prop:=B8 λH s=>J H/\Inv X Wk σ H s/\Ba X.prog X.w X.stack H s E ev s'
def Tx(X:Cx)(Wk:List (Addr×Obj))(σ:St)(J:Hp->Prop)(E:XK)(ev:Vl)(s':Sd):Prop:=Su λa C dx H' tb H1 s1=>ev=.ref a/\E (.ref C) dx H'/\Inv X Wk σ H' s'/\NT s'.heap a (.ref C) dx (some tb)/\H' a=none/\H' tb=none/\J H1/\TKept H1 H'/\Inv X Wk σ H1 s1/\s1.heap.get? a=none
def Rj{X:Cx}{M:Model}{E₁ E₂:Vl->Sd->Prop}{Wk:List (Addr×Obj)}{σ:St}{J:Hp->Prop}{E:XK}{ev:Vl}{s':Sd}{outer:List Env}{L:Addr}(h:U8 X Wk σ J E ev s')(WH:X.stack=X.env::outer)(hL:X.env.frame=some L):
  wpAny M X.A (noteFrame ev X.env) (λ_ s₂=>wpAny M X.A (setFlight ev none) (λ_ s₃=>Tx X Wk σ J E ev s₃) E₂ s₂) E₁ s':=by
 obtain⟨H,s,jH,I,e,C,dx,H',tb,rfl,q,os,bare,un,mG,x,he,ht,ne,nt⟩:=h;obtain⟨hh,g,d,t,Y9⟩:=s';obtain rfl:Y9=s.os:=os;have I':=I.call (h':=hh) (g':=g) (d':=d) (t':=t) (ch:=[]) un mG bare (λb z=>absurd z (by simp));have hF:=I'.stack;have W6:=I'.nu;have Yn:=I.ok.frames;rw[WH]at hF Yn;refine HU (base:=X.base) (outer:=outer) Yn hF hL x λh' T tn k1 k2 x'=>?_;have Wz:∀b o,H' b=some o->∀u,hh.get? b=some u->h'.get? b=some u:=λb o hb u hu=>k1 b u hu (λz=>by rw[W6 b (by rw[WH];exact z)]at hb;cases hb) (λz=>by rw[z,ne]at hb;cases hb) (λz=>by cases z;rw[nt]at hb;cases hb);have un':Un (vJ X.stack) [] H H' s.heap h':=by
  refine⟨λb o hb h0 nf nx=>?_,λb o hb h0 hf nx=>?_,un.free,λb o hb nx=>?_,un.mZ,un.mY,un.nq⟩
  .exact k1 b o (un.keep b o hb h0 nf nx) (λz=>nf (by rw[WH];exact z)) (λz=>by rw[z,he]at hb;cases hb) λz=>by cases z;rw[ht]at hb;cases hb
  .obtain⟨sl,hs⟩:=un.slot b o hb h0 hf nx;obtain⟨XJ,h2⟩:=k2 b _ hs (by rw[<-WH];exact hf);exact⟨XJ,h2⟩
  .obtain⟨o',hs⟩:=un.there b o hb nx;by_cases z:b∈vJ (X.env::outer)
   .obtain⟨sl,h2⟩:=k2 b o' hs z;exact⟨_,h2⟩
   .exact⟨o',k1 b o' hs z (λz=>by rw[z,he]at hb;cases hb) λz=>by cases z;rw[ht]at hb;cases hb⟩
 have Ze:x9 X.prog X.w H' h':=λb o hb=>(mG b o hb).m7 (λb' u Xc hu=>by
  rcases Xc with z|z
  .subst z;exact Wz b' o hb u hu
  .exact Wz b' _ z u hu) (λ_ q=>q) λ_ _ q=>q
 have I3:Inv X Wk σ H' {heap:=h',gens:=g,drawn:=d,toks:=t,os:=s.os}:=Inv.call (s:=s) (ch:=[]) I un' Ze bare (λb z=>absurd z (by simp));refine⟨e,C,dx,H',T,H,s,rfl,q,I3,x',ne,?_,jH,⟨un.mZ,un.mY⟩,I,he⟩;cases z:H' T with
 | none=>rfl
 | some o=>obtain⟨ob,hob⟩:=xH (mG T o z);have tn:hh.get? T=none:=tn;rw[hob]at tn;cases tn
variable {X:Cx}{Wk:List (Addr × Obj)}{σ σ':St}{H H1:Hp}{s s1:Sd}{ev:Vl}{E':Vl→Sd→Prop}{a:Addr}
def Inv.adopt{o:HO}(I:Inv X Wk σ H s)(I1:Inv X Wk σ' H1 s1)(n1:s1.heap.get? a=none)(hn:H a=none)(ok:rP X.prog X.w (upd H a o) s.heap a o):Inv X Wk σ (upd H a o) s:=by
 have ne:∀b ob,s1.heap.get? b=some ob->b≠a:=λb ob e z=>by rw[z,n1]at e;cases e
 have nh:∀b ob,H b=some ob->b≠a:=λb ob e z=>by rw[z,hn]at e;cases e
 refine⟨I.ok,I.os,I.bare,⟨I.base.keep,I.base.slot,λb o' e h0 hb=>?_,I.base.there,λb xs e=>?_,λb o' u e=>?_,λb ps e=>?_⟩,I.loc,I.cell,?_,λx c e=>?_,λp hp=>?_,λb ob e=>?_,I.len⟩
 .obtain⟨o2,e2⟩:=I1.base.there b o' e hb;rw[pL (ne b o2 e2)];exact I.base.free b o' e h0 hb
 .have:=I.base.mZ b xs e;rw[pL (nh b _ this)];exact this
 .have:=I.base.mY b o' u e;rw[pL (nh b _ this)];exact this
 .obtain⟨more,this⟩:=I.base.nq b ps e;exact⟨more,by rw[pL (nh b _ this)];exact this⟩
 .obtain⟨m,⟨o2,_,_,e2,_⟩,_⟩:=I1.loc;rw[pL (ne _ o2 e2)];exact I.free
 .obtain⟨v,o2,e2,_⟩:=I1.cell x c e;rw[pL (ne _ o2 e2)];exact I.mM x c e
 .obtain⟨e1,e2,e3,e4,e5⟩:=I.pin p hp;exact⟨e1,by rw[pL (ne _ _ (I1.pin p hp).1)];exact e2,e3,e4,e5⟩
 .by_cases z:b=a
  .subst z;rw[pS]at e;cases e;exact ok
  .rw[pL z]at e;exact(I.mG b ob e).m7 (λ_ _ _ q=>q) (λb' q=>by rw[pL (nh b' _ q)];exact q) λb' xs q=>by rw[pL (nh b' _ q)];exact q
def Inv.locs{h':Heap}{m':Str->Option Vl}(I:Inv X Wk σ H s)(hn:h'.Ns X.env.locals m')(hs:Heap.SameBut X.env.locals s.heap h')(hl:σ'.length=X.N.length) (hm:∀m,s.heap.Ns X.env.locals m->(∀(i:Nat) (x:Str) (v:V),X.N[i]?=some x->σ[i]?=some (some v)->Ru X.env.scope x->∃u,qy v u/\TB X.env s.heap m x u)->∀(i:Nat) (x:Str) (v:V),X.N[i]?=some x->σ'[i]?=some (some v)->Ru X.env.scope x->∃u,qy v u/\((X.env.kindOf x=some .local/\m' x=some u)\/((X.env.kindOf x=some .cell\/X.env.kindOf x=some .free)/\∃c,X.env.cells.lookup x=some c/\s.heap.IsCell c (some u)))):Inv X Wk σ' H {s with heap:=h'}:=by
 obtain⟨m,hn0,hl0⟩:=id I.loc;obtain⟨oL,_,_,hoL,_⟩:=id hn0;have oM:=I.oM;refine⟨I.ok,I.os,I.bare,⟨λb o e n hb hx=>?_,λb o e n hb hx=>?_,I.base.free,λb o e hx=>?_,I.base.mZ,I.base.mY,I.base.nq⟩,⟨_,hn,λj y v' e1 e2 e3=>?_⟩,λy c e=>?_,I.free,I.mM,λp hp=>?_,λb ob e=>?_,hl⟩
 .exact(hs.2 b (dG (dH (dv e) I.ok.above))).trans (I.base.keep b o e n hb hx)
 .obtain⟨sl,e1⟩:=I.base.slot b o e n hb hx;exact⟨sl,(hs.2 b (dG (dH (dv e) I.ok.above))).trans e1⟩
 .obtain⟨o',e1⟩:=I.base.there b o e hx;exact⟨o',(hs.2 b (dG (dH (dv e) I.ok.above))).trans e1⟩
 .obtain⟨u,r,q⟩:=hm m hn0 hl0 j y v' e1 e2 e3;refine⟨u,r,?_⟩;rcases q with q|⟨k,c,e,z⟩
  .exact .inl q
  .exact .inr ⟨k,c,e,z.sameBut hs (oM y c e)⟩
 .obtain⟨w',z⟩:=I.cell y c e;exact⟨w',z.sameBut hs (oM y c e)⟩
 .obtain⟨e,n,ne,nf,d⟩:=I.pin p hp;exact⟨(hs.2 p.1 ne).trans e,n,ne,nf,d⟩
 .refine(I.mG b ob e).m7 (λc w' hc q=>(hs.2 c ?_).trans q) (λ_ q=>q) λ_ _ q=>q
  rintro rfl
  rcases hc with hc|hc
  .rw[<-hc,I.free]at e;cases e
  .rw[I.free]at hc;cases hc
def xW{M:Model}{A:Ar}{E:Vl->Sd->Prop}{i:Nat}{n:Str}{pos:Pos}{Q:Unit->Sd->Prop}(I:Inv X Wk σ H s)(hN:X.N.Nodup)(hi:X.N[i]?=some n)(hk:X.env.scope.names.lookup n=some .local) (h:∀s',Inv X Wk (σ.set i none) H s'->Q () s'):wpAny M A (do
   bindName X.env n Value.none
   unbindBehindTheSuite X.env n pos) Q E s:=by
 have hiσ:i<σ.length:=by rw[I.len];exact(cV.mp hi).1
 refine cU (wpAny_bindName (xp (v:=.mC) I hN hi (.inl hk) rfl (λs1 I1=>?_) (.inr hk)));have Y5:(X.env.scope.kind==.class||(X.env.scope.kind==.module&&X.env.locals != X.env.globals))=false:=by rw[I.ok.kind];rfl
 obtain⟨m,hn,hl⟩:=id I1.loc;obtain⟨u,ru,lk⟩:=hl i n .mC hi (by rw[eJ hiσ]) (.inl hk);have em:m n=some u:=by
  rcases lk with⟨_,e⟩|⟨k,_⟩
  .exact e
  .have Zf:X.env.kindOf n=some .local:=hk;rw[Zf]at k;rcases k with k|k<;>cases k
 unfold unbindBehindTheSuite;refine iz (wpAny_unbindName_local hk hn em Y5 λh' u' XU hs=>h _ ?_);refine I1.locs XU hs (by simpa using I.len) λm2 WB hl2 j y v' e1 e2 e3=>?_;have hj:j≠i:=λz=>by subst z;rw[eJ hiσ]at e2;cases e2
 rw[eP (dJ hj)]at e2;obtain⟨u2,r2,q2⟩:=hl j y v' e1 (by rw[eP (dJ hj)];exact e2) e3;refine⟨u2,r2,?_⟩;rcases q2 with⟨k,e⟩|q2
 .refine .inl ⟨k,?_⟩;have:y≠n:=λe=>hj (A6 hN e1 (e ▸ hi));simp[this,e]
 .exact .inr q2
def Cx.marked(X:Cx)(ev:Vl)(E:Vl->Sd->Prop):Cx:={X with A:=X.A.mark (some ev),calm:=false,xe:=E}
def Inv.mark(I:Inv X Wk σ H s):Inv (X.marked ev E') Wk σ H s:=
 ⟨⟨I.ok.mod,I.ok.kind,I.ok.glob,I.ok.blt,I.ok.above,I.ok.inj,I.ok.has,I.ok.om,(λz=>by cases z),I.ok.frames,I.ok.oq,I.ok.oK,I.ok.bs,I.ok.nO,I.ok.nF,I.ok.nJ,I.ok.m8,I.ok.nU⟩,I.os,I.bare,I.base,I.loc,I.cell,I.free,I.mM,I.pin,I.mG,I.len⟩
def Inv.unmark(ok:X.Ok)(I:Inv (X.marked ev E') Wk σ H s):Inv X Wk σ H s:=⟨ok,I.os,I.bare,I.base,I.loc,I.cell,I.free,I.mM,I.pin,I.mG,I.len⟩
def SP.unmark(ok:X.Ok){D:Ek}{f:Flow}(h:SP (X.marked ev E') Wk D f s):SP X Wk D f s:=by
 cases f with
 | next=>obtain⟨a,b,I,q⟩:=h;exact⟨a,b,I.unmark ok,q⟩
 | brk=>obtain⟨a,b,I,q⟩:=h;exact⟨a,b,I.unmark ok,q⟩
 | cont=>obtain⟨a,b,I,q⟩:=h;exact⟨a,b,I.unmark ok,q⟩
 | ret v=>obtain⟨a,b,c,I,q⟩:=h;exact⟨a,b,c,I.unmark ok,q⟩
def BA{M:Model}{h:Heap}{a:Addr}{o:Obj}(ho:h.get? a=some o):W.Looks M h (typeOf (.ref a)) o.cls:=by intro A Q E s k q;unfold typeOf;exact cU (wpAny_load (k a o ho) (de q))
def Gy{M:Model}{A:Ar}{E:Vl->Sd->Prop}{a C T:Addr}{Q:Unit->Sd->Prop}{dx:Option Addr}(x:NT s.heap a (.ref C) dx (some T))(h:∀h':Heap,(∀b,h'.get? b=s.heap.get? b)->Q () {s with heap:=h'}):wpAny M A (setFlight (.ref a) none) Q E s:=by
 obtain⟨oe,vs,ho,hc,_,hd,h1,hv,hT⟩:=x;obtain⟨nTe,oT,ts,Xs,XY,h3,hn⟩:=hT T rfl;unfold setFlight;refine cU (fh ho hd hv ?_);rw[c9 (by rfl)];refine g9 Xs XY h3 (h _ λb=>?_);by_cases z:T=b
 .subst z;obtain⟨oc,od,Zr,Xd⟩:=oT;obtain rfl:Zr=.fields ts:=XY;rw[fF _ Xs rfl,Xs];show some (Obj.mk oc od (.fields (ts.setIfInBounds 3 .none)) Xd)=_;have:ts.setIfInBounds 3 .none=ts:=by
   apply Array.ext
   .simp
   .intro i h1 h2;rw[Array.getElem_setIfInBounds];split
    .rename_i e;subst e;rw[Array.getElem?_eq_getElem h3]at hn;exact(dh hn).symm
    .rfl
  rw[this]
 .exact fW _ _ z
def QS(X:Cx)(e:Expr)(t:St->Hp->VK->(Hp->Prop)->XK->Prop):Prop:=∀(Wk:List (Addr×Obj)) (s:Sd) (σ:St) (H:Hp) (Q:VK) (J:Hp->Prop) (E:XK),Inv X Wk σ H s->t σ H Q J E->wpAny (model X.prog X.w) X.A (eval e X.env) (EP X Wk σ Q) (U8 X Wk σ J E) s
def VU(X:Cx)(st:Stmt)(t:Ek->St->Hp->(Hp->Prop)->XK->Prop):Prop:=∀(Wk:List (Addr×Obj)) (s:Sd) (σ:St) (H:Hp) (D:Ek) (J:Hp->Prop) (E:XK),Inv X Wk σ H s->t D σ H J E->wpAny (model X.prog X.w) X.A (exec st X.env) (SP X Wk D) (U8 X Wk σ J E) s
def PQ{X:Cx}{i:Nat}{x:Str}{e:Expr}{te:St->Hp->VK->(Hp->Prop)->XK->Prop}{pos Wt:Pos}(hN:X.N.Nodup)(hi:X.N[i]?=some x)(hx:Kd X.env.scope x)(he:QS X e te)(hs:swapsWith e (some (.Name x Wt)) pos.line X.env=pure false:=by rfl)(hf:Kf X x:=by first|exact .inl rfl|exact .inr rfl|assumption):
  VU X (.Assign [.Name x Wt] e pos) (λD σ H J E=>te σ H (λv H'=>D.nx (σ.set i (some v)) H') J E):=by
 intro Wk s σ H D J E I h;refine kU (rV (he Wk s σ H _ J E I h) λv s1 zz=>x5 zz λy H1 I1 r1 q1=>?_) hs;exact xp I1 hN hi hx r1 (λs2 I2=>⟨_,H1,I2,q1⟩) hf
variable {k:Nat}{f C:Addr}{fd:FuncData}{ps:List Str}{sp:Sp}{W7:List V}{ds:List Vl}{m:Str}{p pos Wn:Pos}{e o:Expr}{es:List Expr}{t:TA}
section
variable {x:Str}
def K9(F:wR X.prog X.w X.K X.mg X.base (Ba X.prog X.w) k f fd ps sp)(hr:rD k X.A)(hg:Gl X x)(hm:X.mg x=some (.ref f))(hk:W.keepIn X.K (.ref f)=true)(hb:uy X.K fd ps ds)(hd:qo W7 ds) (ha:PA (X.nL λ_ _=>False) (e::es) t) (WE:yk x:=by decide) (he:AV X e es:=by rfl) (WA:Cd X pos es:=by rfl):
  QS X (.Call (.Name x p) (e::es) [] pos) (λσ H Q J E=>t σ H λvs H1=>J H1/\sp (vs++W7) H1 Q E):=by
 intro Wk s σ H Q J E I h;refine gb (wB I hg hm ?_ WE);refine iE (h₀:=X.base) I.ok.mod.oh hk (eA (ha pos Wk s σ H _ I.nL h) (λus s1 ⟨vs,H1,I1,r,jH,q⟩=>⟨I1.mQ,?_⟩) λ_ _ z=>z.elim) he WA;have I1:=I1.xeOf;have r2:qo (vs++W7) (us++ds):=r.append hd;have hl:(us++ds).length=ps.length:=by rw[<-r2.length];exact F.len _ _ _ _ q
 refine hJ (gf (F.run X.A X.stack s1 H1 ⟨us,[]⟩ (us++ds) (vs++W7) Q E hr I1.nQ (hb s1 us I1.mQ hl) r2 q) λr s' hq=>?_);cases r with
 | error e=>exact⟨H1,s1,jH,I1,hq⟩
 | ok fl=>
  cases fl with
  | ret u=>exact I1.after hq
  | next=>exact False.elim hq
  | brk=>exact False.elim hq
  | cont=>exact False.elim hq
end
structure Mi(K:pY)(C:Addr):Prop where
 hd:(W.clsIn K C).isSome=true
 ga:W.findIn K (.ref C) "__getattribute__"=some (some (.builtin "BaseException.__getattribute__"))
 gt:W.findIn K (.ref C) "__getattr__"=some none
 ha:W.findIn K (.ref C) "__class__"=some (some (.builtin "object.__class__"))
 hn:W.specialIn K (.builtin "object.__class__") "__get__"=some (some (.builtin "getset_descriptor.__get__"))
 htk:W.takesIn K (.builtin "object.__class__")=some true
 hm:W.mroIn K C (.type "object")=some true
 hb:W.mroIn K C (.type "BaseException")=some true
def OB:builtinKind "BaseException.__getattribute__"=some Manifest.AttrKind.slot:=by decide+kernel
def Mo:splitId "BaseException.__getattribute__"=some ("BaseException","__getattribute__"):=by decide+kernel
variable {prog:Pg}{w:Wo}{A:Ar}{E:Vl→Sd→Prop}{K:pY}{ox:Obj}
section
variable {x:Addr}
def LP{YW:Vl}{Q:Unit->Sd->Prop}{M:Model}(c:Mi K C)(X:K.In s.heap)(hx:s.heap.get? x=some ox)(hc:ox.cls=.ref C)(hq:Q () s):wpAny M A (checkBuiltinCall "BaseException.__getattribute__" {pos:=[Value.ref x,YW]}) Q E s:=by
 unfold checkBuiltinCall;simp only[OB,Mo];unfold isInstance;refine cU (cU ?_);refine(BA hx).at ?_;rw[hc];refine(W.looks_mroIn X c.hb).at ?_;rw[cY (by decide)];have ha:=F.args_bexc_ga (Value.ref x) YW;unfold argsOk at ha;have:∀t:Sem Unit,t=pure ()->wpAny M A t Q E s:=λt z=>by rw[z];exact de hq
 exact this _ ha
end
end L2
namespace L3
open PySem PySem.Spec PyProof.Rows L2
theorem _root_.L2.TKept.ext{K:pY}{H H':Hp}(h:TKept H H'):qF K H H':=⟨λa xs q=>by
 rcases q with(q|⟨u,q⟩)|q
 .exact .inl (.inl (h.1 a xs q))
 .exact .inl (.inr ⟨u,h.2 a u _ q⟩)
 .exact .inr q,λa o xs q=>h.2 a o _ q⟩
abbrev SA:=uM->Mp->DK->XR->Prop
def We(K:pY)(t:SA):St->Hp->VK->(Hp->Prop)->XK->Prop:=λσ H Q' J E=>AU λδ M Q R=>ym K H σ δ/\HM K H M/\t δ M Q R/\(∀v H' d M',rh K H' d v->HM K H' M'->qF K H H'->Q d M'->Q' v H')/\(∀H1,qF K H H1->J H1)/\Tv K R E
def VL(X:Cx)(e:Expr)(t:SA):Prop:=QS X e (We X.K t)
def QS.mono{X:Cx}{e:Expr}{t t':St->Hp->VK->(Hp->Prop)->XK->Prop}(h:QS X e t)(m:∀σ H Q J E,t' σ H Q J E->t σ H Q J E):QS X e t':=λWk s σ H Q J E I q=>h Wk s σ H Q J E I (m σ H Q J E q)
variable {X:Cx}{x:Str}{p pos np Ws:Pos}{e:Expr}{es:List Expr}{t:wW}{k:Nat}{f C:Addr}{fd:FuncData}{ps:List Str}{sp:F4}
def KG(F:Sf X.prog X.w X.K X.mg X.base k f fd ps sp)(hr:rD k X.A)(hg:Gl X x)(hm:X.mg x=some (.ref f))(hk:W.keepIn X.K (.ref f)=true)(hb:uy X.K fd ps [])(ha:A3 (X.nL λ_ _=>False) (e::es) t) (WE:yk x:=by decide) (he:AV X e es:=by rfl) (WA:Cd X pos es:=by rfl):
  VL X (.Call (.Name x p) (e::es) [] pos) (λδ M Q R=>t δ M λds M1=>sp ds M1 Q R):=QS.mono (K9 F hr hg hm hk hb .nil ha WE he WA) λσ H Q' J E ⟨δ,M,Q,R,hs,hm,ht,k,kJ,kR⟩=>
 ⟨δ,M,_,hs,hm,ht,λvs H1 ds M1 hd Wm e1 q1=>⟨kJ H1 e1,ds,M1,Q,R,by rw[eY];exact hd,Wm,q1,vq e1 k,kR⟩⟩
variable {b₀:Stmt}{XG:List Stmt}{cn n:Str}{cnp XQ Wn Zs:Pos}{Cc L:Addr}{outer:List Env}{i ix:Nat}{te:SA}{th:wV}
def ym.unset{K:pY}{H:Hp}{σ:St}{δ:uM}{i:Nat}(h:ym K H σ δ):ym K H (σ.set i none) (δ.set i none):=λj e q=>by
 by_cases hj:j=i
 .subst hj;by_cases hl:j<δ.length
  .rw[eJ hl]at q;cases q
  .rw[gw (by simpa using hl)]at q;cases q
 .rw[eP (dJ hj)]at q ⊢;exact h j e q
end L3
namespace L2
open PySem PySem.Spec PyProof.Rows
def Cb(es:Array DictEntry):Bool:=es.toList.all λe=>match e.key with|.str _ _=>true|_=>false
def Bz{es:Array DictEntry}(h:Cb es=true):StrKeys es:=λe he=>by
 have:=eL.mp h e (j5.mpr he);cases z:e.key with
 | str n t=>exact⟨n,t,rfl⟩
 | _=>rw[z]at this;cases this
abbrev LM:List Vl:=[.type "ValueError",.type "Exception",.type "BaseException",.type "object"]
def Pc{K:pY}{t:Vl}{C:Addr}{cd:ClassData}{b:Bool}(q0:W.subIn K (.ref C) (.type "BaseException")=some true)(q1:W.clsIn K C=some cd)(q2:W.typeIn K (.ref C)=some (.type "type"))(s:W.subIn K t (.ref C)=some b):W.exmOne K t (.ref C)=some b:=by unfold W.exmOne;rw[q0,c9 (by rfl)];unfold W.kitCls;simp only;rw[q1,q2,c9 (by rfl)];exact s
end L2
namespace L3
open PySem PySem.Spec PyProof.Rows L2
end L3
namespace L2
open PySem PySem.Spec PyProof.Rows
theorem BQ(self:Vl):∀own:List Addr,refuseLoop self "__setattr__" (own.map Value.ref++LM)=pure ()
 | []=>jD.passes self
 | c::r=>by show refuseLoop self "__setattr__" (.ref c::(r.map Value.ref++LM))=pure ();rw[refuseLoop_ref];exact BQ self r
variable {prog:Pg}{w:Wo}{A:Ar}{s:Sd}{K:pY}{x C:Addr}{ox:Obj}{own:List Addr}{name:Str}{v:Vl}
section
variable {E:Vl→Sd→Prop}{cd:ClassData}
def PC{Q:Unit->Sd->Prop}(X:K.In s.heap)(I:W.InstAt s.heap x ox C none)(hs:W.findIn K (.ref C) "__setattr__"=some (some (.builtin "object.__setattr__")))(hc:W.clsIn K C=some cd)(hm:cd.mro=own.map Value.ref++LM)(ht:W.takerIn K C name=some none)(hd:cd.hasDict=true) (h:∀h' d t,(∀b o,b≠x->s.heap.get? b=some o->h'.get? b=some o)->h'.get? x=some {ox with dict:=some d}->s.heap.get? d=none->d≠x->h'.Ns1 d (λy=>if y=name then some v else none)->Q () {s with heap:=h',toks:=t}):wpAny (model prog w) A (setAttr (.ref x) name v) Q E s:=by
 refine W.set_plain X I hs ?_;have SF:=jD;have ne:cd.mro.isEmpty=false:=by rw[hm];cases own<;>rfl
 have has:cd.mro.contains (.type "object")=true:=by
  rw[hm,List.contains_eq_any_beq,lT];have:LM.any (Value.type "object"==·)=true:=by decide+kernel
  rw[this,kO]
 have sub:W.Looks (model prog w) s.heap (isInstance (.ref x) (.type "object")) true:=I.type.andThen (W.looks_mroIn X (by unfold W.mroIn;rw[hc,lM,cY (by rw[ne];decide),has]));refine hW SF.slot.plain SF.entry (@PySem.W.check_slot (model prog w) _ _ {s with toks:=s.toks+1} "object.__setattr__" "object" "__setattr__" (.ref x) [.str name s.toks,v] [] _ SF.kind SF.split sub (SF.args (.ref x) (.str name s.toks) v) ?_);obtain⟨attr,ha,hr⟩:=Option.bind_eq_some_iff.mp ht;have Zi:W.Looks (model prog w) s.heap (mroOf (.ref C)) cd.mro:=(kg X hc).andThen .now;have L3':W.Looks (model prog w) s.heap (Builtin.ObjectAttr.storeTaker? attr) none:=by
  cases attr with
  | none=>exact .now
  | some a=>
   obtain⟨b,hb,hr⟩:=iu.mp hr;refine(W.looks_takesIn X hb).andThen ?_;cases b
   .exact .now
   .cases hr
 rw[W.osa_eq,refuse_eq];refine cU (cU (I.type.here (s:={s with toks:=s.toks+1}) (cU (Zi.here (s:={s with toks:=s.toks+1}) ?_))));rw[hm,BQ];refine de (cU (I.type.here (s:={s with toks:=s.toks+1}) (cU ((iU X ha).here (s:={s with toks:=s.toks+1}) (cU (L3'.here (s:={s with toks:=s.toks+1}) ?_))))));obtain⟨hx,YV,hn,Yb⟩:=I;obtain⟨oc,odi,oda,Xd⟩:=ox;dsimp only at YV Yb;subst YV;cases odi with
 | some _=>exact Yb.elim
 | none=>
  refine cU (de (cU (cU (wpAny_loadPart hx (cU (lY (s:={s with toks:=s.toks+1}) (kg X hc) ?_))))));rw[hd];rw[cY (by decide)];obtain⟨hh,g,dr,tk,os⟩:=s;dsimp only at hx h ⊢;rw[cY (by simp[typeHasDict])];split
  .cases hn
  .have y1:(hh.push W.emptyDict).get? x=some ⟨.ref C,none,oda,Xd⟩:=cZ _ hx;have nx:x≠hh.objs.size:=λz=>e9 _ (z ▸ dv hx);refine cU (wpAny_alloc' (cU (wpAny_update' y1 (de ?_))));have e0:((hh.push W.emptyDict).update x λo=>{o with dict:=some hh.objs.size}).Ns hh.objs.size (λ_=>none):=⟨W.emptyDict,#[],_,(ku _ _ _ _ nx.symm).trans (dF hh rfl),rfl,λe he=>absurd he (by simp),λ_=>rfl⟩;refine cU (de (cU (wpAny_nsSet1 (kX e0) λh' n1 sb=>?_)));obtain⟨oD,esD,epD,g1,g2,g3⟩:=n1.count (Within.cons name v Within.nil);refine cU (lA g1 (g2 ▸ lB (dY g3 (by rw[dM,dQ];decide))) (de (h h' hh.objs.size _ (λb o hb z=>?_) ?_ (gC (dg _)) nx.symm n1)))
   .exact(sb.2 b λy=>e9 _ (y ▸ dv z)).trans ((ku _ _ _ _ hb).trans (cZ _ z))
   .refine(sb.2 x nx).trans (fF _ y1 ?_);have fr:=(Heap.get?_some_iff.mp hx).2;cases oda with
    | _=>first|rfl|exact fr
end
variable {nm q:Str}{bs bm XH:List Vl}{hdct:Bool}{sn:List Str}{sub:List Vl}{ab:Bool}{col:Option Bool}{dd:Option Addr}{k0 k1 k2 k3 k5:Option Vl}{B Bn newId nid WP zd:String}{bmN:List Vl}{h:Heap}{g:Array GenState}{d:Drawn}{t:Nat}{os:OsState}
section
variable {E:Vl→Sd→Prop}{N:Addr}
abbrev Nq(C t:Addr):Obj:={cls:=.ref C,data:=.fields #[.ref t,.none,.none,.none,.bool false,.none]}
def Ay(Fn:ExcBaseFacts Bn newId zd bmN)(hBn:XH.contains (.type Bn)=true)(F:ExcBaseFacts B nid WP XH)(T:OwnTail h XH bm){mN:Str->Option Vl}{us:List Vl}{fI:Addr}{oI:Obj}{Q:PySem.Fin->Sd->Prop} (hC:h.get? C=some (excClassObj nm q C N bs bm hdct sn sub ab col dd k0 k1 k2 k3 k5 newId)) (hn:h.Ns N mN) (hi:mN "__init__"=some (.ref fI)) (hf:h.get? fI=some oI) (hfc:oI.cls=.type "function") (Wr:us.length<=sizeLine) (hq:∀h' e,Heap.MadeExcOf h h' e (.ref C) us->wpAny (model prog w) A (call (.ref fI) (.ref e::us)) (λr s'=>r=.none/\Q (.done (.ret (.ref e))) s') E ⟨h',g,d,t,os⟩):
  wpAny (model prog w) A (Builtin.«type.__call__» ⟨.ref C::us,[]⟩) Q E ⟨h,g,d,t,os⟩:=by
 repeat (first|with_reducible refine gX hC ?_|with_reducible refine wpAny_madeBy_exc hC ?_|wp_step)
 refine codeAny_call_builtin_code (ij _ Fn.quiet) (wpAny_check_new_subU Fn hBn T hC (codeAny_exc_new_subU Fn hBn F T hC ?_ Wr));have kp:∀b o,h.get? b=some o->((h.push {cls:=.type "tuple",data:=.seq us.toArray}).push (Nq C h.objs.size)).get? b=some o:=λb o z=>cZ _ (cZ _ z);have gE:((h.push {cls:=.type "tuple",data:=.seq us.toArray}).push (Nq C h.objs.size)).get? (h.objs.size+1)=some (Nq C h.objs.size):=by heap_get
 have hC2:=kp _ _ hC;have Y7:((h.push {cls:=.type "tuple",data:=.seq us.toArray}).push (Nq C h.objs.size)).Ns N mN:=let⟨o,es,ep,e,r⟩:=hn;⟨o,es,ep,kp _ _ e,r⟩;have cC:(Value.ref C::bm).contains (.ref C)=true:=by rw[il,eM,gZ]
 have T2:=T.keeps kp;show wpAny _ _ _ _ _ _;unfold isInstance
 repeat (first|with_reducible refine gX gE ?_|(with_reducible refine kx hC2 ?_;rw[cC])|wp_step)
 show wpAny _ _ (typeLookup (.ref C) _) _ _ _;refine wpAny_typeLookup_tail hC2 Y7 T2 F.mroIs F.init.lookup ?_;rw[hi];refine eC (cU ?_);unfold bindSpecial;refine cU (jy (T:="function") ⟨_,kp _ _ hf,hfc⟩ ?_);rw[c9 (by decide)];refine de (cU (eA (hq _ (h.objs.size+1) ⟨kp,gC (gS _),h.objs.size,gE,gC (dg _),cZ _ (Heap.get?_push_at rfl rfl)⟩) (λr s' hr=>?_) λ_ _ z=>z));obtain⟨rfl,hQ⟩:=hr
 wp_walk
 exact hQ
def Hr(Fn:ExcBaseFacts Bn newId zd bmN)(hBn:XH.contains (.type Bn)=true)(F:ExcBaseFacts B nid WP XH)(T:OwnTail h XH bm){mN:Str->Option Vl}{us:List Vl}{fI:Addr}{oI:Obj}{Q:Vl->Sd->Prop} (hC:h.get? C=some (excClassObj nm q C N bs bm hdct sn sub ab col dd k0 k1 k2 k3 k5 newId)) (hn:h.Ns N mN) (hi:mN "__init__"=some (.ref fI)) (hf:h.get? fI=some oI) (hfc:oI.cls=.type "function") (Wr:us.length<=sizeLine) (hq:∀h' e,Heap.MadeExcOf h h' e (.ref C) us->wpAny (model prog w) (A.under (.builtin "type.__call__" ⟨.ref C::us,[]⟩)) (call (.ref fI) (.ref e::us)) (λr s'=>r=.none/\Q (.ref e) s') E ⟨h',g,d,t,os⟩):
  wpAny (model prog w) A (call (.ref C) us) Q E ⟨h,g,d,t,os⟩:=by
 have f1:=tc_lookup;have f2:=tc_bind (.ref C);have hT:(⟨h,g,d,t,os⟩:Sd).TypeIs (.ref C) "type":=⟨_,hC,rfl⟩;refine hJ (jM ?_);show wpAny _ _ (callAny (.ref C) _) _ _ _
 repeat (any_goals(first|assumption|with_reducible refine gX hC ?_|wp_step))
 exact⟨rfl,codeAny_call_builtin_at (ij _ (by decide+kernel)) entry_typeCall (wpAny_check_type_call_sub hC (Ay Fn hBn F T hC hn hi hf hfc Wr hq))⟩
end
variable {M:Model}{env:Env}
section
variable {E:Vl→Sd→Prop}{N:Addr}
def HK(h:Heap)(e C:Addr)(dx:Option Addr):Prop:=B8 λt sl=>h.get? e=some ⟨.ref C,dx,.fields #[.ref t,.none,.none,.none,.bool false,.none],sl⟩
def FF{x:Sem Vl}{Q:Flow->Sd->Prop}(WJ:bm.contains (.type "BaseException")=true)(hh:A.handled=none) (h:wpAny M A x (λv s₁=>∃e dx,v=.ref e/\s₁.heap.get? C=some (excClassObj nm q C N bs bm hdct sn sub ab col dd k0 k1 k2 k3 k5 newId)/\HK s₁.heap e C dx/\E (.ref e) s₁) E s):
  wpAny M A (raiseStmt env (some x) none) Q E s:=by
 have cB:(Value.ref C::bm).contains (.type "BaseException")=true:=by rw[il,WJ,kO]
 unfold raiseStmt;refine cU (eA h (λv s₁ ⟨e,dx,ev,hC,⟨t,sl,he⟩,hE⟩=>?_) λ_ _ z=>z);subst ev;obtain⟨hp,g,d,tk,os⟩:=s₁
 repeat (first|with_reducible refine gX he ?_|with_reducible refine gX hC ?_|(with_reducible refine kx hC ?_;rw[cB])|wp_step)
 exact wpAny_raiseNew_none hh hE
def Gq(Fn:ExcBaseFacts Bn newId zd bmN)(hBn:XH.contains (.type Bn)=true)(F:ExcBaseFacts B nid WP XH){mN:Str->Option Vl}{fI:Addr}{x:Str}{np Ws pos:Pos}{args:List Expr}{Q:Flow->Sd->Prop} (WJ:bm.contains (.type "BaseException")=true) (hh:A.handled=none) (WD:(backTo Ws (starEach args env)).any (·.1)=false) (hi:mN "__init__"=some (.ref fI)) (h:wpAny (model prog w) A (eval (.Name x np) env) (λf s₁=>f=.ref C/\wpAny (model prog w) A (evalArgs (.ref C) true (backTo Ws (starEach args env)) []) (λa s₂=>a.kw=[]/\a.pos.length<=sizeLine/\s₂.heap.get? C=some (excClassObj nm q C N bs bm hdct sn sub ab col dd k0 k1 k2 k3 k5 newId)/\s₂.heap.Ns N mN/\OwnTail s₂.heap XH bm/\(∃oI,s₂.heap.get? fI=some oI/\oI.cls=.type "function")/\
    ∀h' e,Heap.MadeExcOf s₂.heap h' e (.ref C) a.pos->wpAny (model prog w) (A.under (.builtin "type.__call__" ⟨.ref C::a.pos,[]⟩)) (call (.ref fI) (.ref e::a.pos))
     (λr s'=>r=.none/\∃dx,s'.heap.get? C=some (excClassObj nm q C N bs bm hdct sn sub ab col dd k0 k1 k2 k3 k5 newId)/\HK s'.heap e C dx/\E (.ref e) s') E {s₂ with heap:=h'}) E s₁) E s):
  wpAny (model prog w) A (exec (.Raise (some (.Call (.Name x np) args [] Ws)) none pos) env) Q E s:=by
 rw[arm_exec_Raise];refine cU (gL (FF (C:=C) (nm:=nm) (q:=q) (N:=N) (bs:=bs) (bm:=bm) (hdct:=hdct) (sn:=sn) (sub:=sub) (ab:=ab) (col:=col) (dd:=dd) (k0:=k0) (k1:=k1) (k2:=k2) (k3:=k3) (k5:=k5) (newId:=newId) WJ hh ?_));refine cU (eA (wpAny_Call_ofName (eA h (λf s₁ ⟨ef,h₁⟩=>?_) λ_ _ z=>z)) (λv s₃ h₃=>cU (gL (de h₃))) λ_ _ z=>z);subst ef;unfold callWith;refine cU (eC (eA h₁ (λa s₂ h₂=>cU (gL ?_)) λ_ _ z=>z));obtain⟨Wn,akw⟩:=a;obtain⟨hkw,Wr,hC,hn,T,⟨oI,hf,hfc⟩,h₂⟩:=h₂;obtain rfl:akw=[]:=hkw;obtain⟨hp,g,d,tk,os⟩:=s₂;simp only[WD];refine cU (wpAny_keeperOf_exc hC (cU (Hr Fn hBn F T hC hn hi hf hfc Wr λh' e hm=>eA (h₂ h' e hm) (λr s' ⟨z,dx,c1,c2,c3⟩=>⟨z,cU (eC (wpAny_point (de ⟨e,dx,rfl,c1,c2,c3⟩)))⟩) λ_ _ z=>z)))
end
def x0(a C:Addr)(h:Heap):Prop:=HK h a C none
def x1(a C d:Addr)(h:Heap):Prop:=HK h a C (some d)
structure yi(K:pY)(C:Addr)(f:Str):Prop where
 sa:W.findIn K (.ref C) "__setattr__"=some (some (.builtin "object.__setattr__"))
 cd:∃cd own,W.clsIn K C=some cd/\cd.mro=List.map Value.ref own++LM/\cd.hasDict=true
 tk:W.takerIn K C f=some none
variable {X:Cx}{Wk:List (Addr × Obj)}{σ σ':St}{H H1:Hp}{s1:Sd}{a:Addr}
section
variable {f:Str}
def FG{A:Ar}{E:Vl->Sd->Prop}{y:V}{u:Vl}{Q:Unit->Sd->Prop}(I:Inv X Wk σ H s)(e:H a=some (.ext (x0 a C)))(ry:qy y u)(st:yi X.K C f)(h:∀d s',H d=none->d≠a->Inv X Wk σ (upd (upd H a (.ext (x1 a C d))) d (.ext (Nl d f y))) s'->Q () s'):wpAny (model X.prog X.w) A (setAttr (.ref a) f u) Q E s:=by obtain⟨⟨t,sl,ho⟩,_,_⟩:=I.mG a _ e;obtain⟨cd,own,c1,c2,c3⟩:=st.cd;refine PC I.mQ ⟨ho,rfl,rfl,trivial⟩ st.sa c1 c2 st.tk c3 λh' d tk k1 k2 dn da n1=>h d _ (yK I.mG dn) da ?_;have I2:=I.write (t':=tk) (x:=a) (e:=a) (o:=.ext (x1 a C d)) (by rw[e];exact True.intro) (.inl rfl) k1 ⟨_,k2⟩ ⟨⟨t,sl,k2⟩,⟨_,k2⟩,λh1 h2 ⟨t',XJ,z⟩ kk=>⟨t',XJ,kk _ z⟩⟩;refine I2.adopt I dn (by rw[pL da];exact yK I.mG dn) ⟨⟨u,n1,ry⟩,?_,λh1 h2 ⟨u,n,r⟩ kk=>⟨u,n.at kk,r⟩⟩;obtain⟨o,_,_,z,_⟩:=n1;exact⟨o,z⟩
def Inv.drop{φ:Heap->Prop}(I:Inv X Wk σ H s)(ea:H a=some (.ext φ)):Inv X Wk σ (λb=>if b=a then none else H b) s:=by
 have less:∀b,H b=none->(if b=a then none else H b)=none:=λb e=>by split<;>first|rfl|exact e
 have keep:∀b o,H b=some o->(∀φ,o≠.ext φ)->(if b=a then none else H b)=some o:=λb o e n=>by
  rw[cY]
  .exact e
  .intro z;rw[z,ea]at e;exact n φ (dh e).symm
 refine⟨I.ok,I.os,I.bare,⟨I.base.keep,I.base.slot,λb o e h0 hb=>less b (I.base.free b o e h0 hb),I.base.there,λb xs e=>keep b _ (I.base.mZ b xs e) (λ_ z=>nomatch z),λb o u e=>keep b _ (I.base.mY b o u e) (λ_ z=>nomatch z),λb ps e=>?_⟩,I.loc,I.cell,less _ I.free,λx c e=>less _ (I.mM x c e),λp hp=>⟨(I.pin p hp).1,less _ (I.pin p hp).2.1,(I.pin p hp).2.2⟩,λb ob e=>?_,I.len⟩
 .obtain⟨more,z⟩:=I.base.nq b ps e;exact⟨more,keep b _ z (λ_ z=>nomatch z)⟩
 .have e':H b=some ob:=by
   by_cases z:b=a
   .rw[c9 z]at e;cases e
   .rw[cY z]at e;exact e
  exact(I.mG b ob e').m7 (λ_ _ _ q=>q) (λb' q=>keep b' _ q (λ_ z=>nomatch z)) λb' xs q=>keep b' _ q (λ_ z=>nomatch z)
end
def Kx(K:pY)(ta tv:TE)(f:Str):TS:=λD σ H=>tv σ H λy H1=>ta σ H1 λx H2=>∃a C,x=.ref a/\H2 a=some (.ext (x0 a C))/\yi K C f/\∀d,H2 d=none->d≠a->D.nx σ (upd (upd H2 a (.ext (x1 a C d))) d (.ext (Nl d f y)))
def NR{X:Cx}{o value:Expr}{f:Str}{pos Wt:Pos}{ta tv:TE}(ha:PE X o ta)(hv:PE X value tv)(hs:swapsWith value (some (.Attribute o f Wt)) pos.line X.env=pure false:=by rfl):PS X (.Assign [.Attribute o f Wt] value pos) (Kx X.K ta tv f):=by intro Wk s σ H D I h;refine iD (rV (hv Wk s σ H _ I h) λu s1 zz=>x5 zz λy H1 I1 ry q=>rV (ha Wk s1 σ H1 _ I1 q) λov s2 zz=>?_) hs;obtain⟨x,H2,I2,rx,a,C,ex,ea,st,q2⟩:=zz;subst ex;obtain rfl:ov=Value.ref a:=rx;exact FG I2 ea ry st λd s3 dn da I3=>⟨σ,_,I3,q2 d dn da⟩
def vN(K:pY)(f:Str):Sp:=λvs H Q _=>CN λe C y=>vs=[.ref e,y]/\H e=some (.ext (x0 e C))/\yi K C f/\∀d,H d=none->d≠e->Q .mC (upd (upd H e (.ext (x1 e C d))) d (.ext (Nl d f y)))
variable {qual:Str}{scope:Scope}{outer:List Env}{s0:Sd}{H0:Hp}{P:Pg}{mg:Str→Option Vl}{base:Heap}
section
def My{x qual y1 y2 fl:Str}{st:Stmt}{f:Addr}{fd:FuncData}(F:Pl K x qual st f fd)(S:sF [y1,y2] [y1,y2] (pR st)) (hb:∀(Wu:Vl) (A:Ar) (outer:List Env) (s:Sd) (H:Hp) (E:XK),Be (vd (Ba P w) P w K mg base [y1,y2] qual (pR st) f Wu A outer s H E) (rq st) (Kx K (E1 0) (E1 1) fl)):wR P w K mg base (Ba P w) 1 f fd [y1,y2] (vN K fl):=by
 obtain⟨oc,od,kV,WX,pm,an,Wu,ct,Xd,rfl,lk,Xi⟩:=F.ex;refine LJ lk Xi S (λvs H Q E h=>?_) λA outer s H vs Q' E hr h=>⟨_,hb Wu A outer s H E,?_⟩
 .obtain⟨e,C,y,rfl,_⟩:=h;rfl
 .obtain⟨e,C,y,rfl,h1,h2,q⟩:=h;exact⟨y,rfl,.ref e,rfl,e,C,rfl,h1,h2,q⟩
def IL(K:pY)(C fI:Addr):Prop:=
 ∃nm q N bs bm XH hdct sn sub ab col dd k0 k1 k2 k3 k5,∃B Bn newId nid WP zd:String,∃bmN,∃mN:Str->Option Vl,ExcBaseFacts Bn newId zd bmN/\XH.contains (Value.type Bn)=true/\ExcBaseFacts B nid WP XH/\bm.contains (Value.type "BaseException")=true/\mN "__init__"=some (.ref fI)/\
  ∀h:Heap,K.In h->h.get? C=some (excClassObj nm q C N bs bm hdct sn sub ab col dd k0 k1 k2 k3 k5 newId)/\h.Ns N mN/\OwnTail h XH bm/\∃oI,h.get? fI=some oI/\oI.cls=.type "function"
variable {N:List Str}{f:Addr}{cd:Vl}{E:XK}
def Jh{X:Cx}(hX:X=vd (Ba P w) P w K mg base N qual scope f cd A outer s0 H0 E){C fI:Addr}{fdI:FuncData}{ps:List Str}{fl:Str}{k:Nat}{x:Str}{np Ws pos:Pos}{e:Expr}{ta:TA}(hC:IL X.K C fI)(F:wR X.prog X.w X.K X.mg X.base (Ba X.prog X.w) k fI fdI ps (vN X.K fl))(hr:rD (k+1) X.A)(hb:uy X.K fdI ps [])(st:yi X.K C fl) (hg:Gl X x) (hm:X.mg x=some (.ref C)) (ha:PA X [e] ta) (hs:starEach [e] X.env=[(false,eval e X.env)]:=by rfl) (WE:yk x:=by decide):
  PS X (.Raise (some (.Call (.Name x np) [e] [] Ws)) none pos) (λ_ σ H=>ta σ H λvs H1=>∃y,vs=[y]/\∀d,H1 d=none->E (.ref C) (some d) (upd H1 d (.ext (Nl d fl y)))):=by
 intro Wk s σ H D I h;obtain⟨nm,q,N',bs,bm,XH,hdct,sn,sub,ab,col,dd,k0,k1,k2,k3,k5,B,Bn,newId,nid,WP,zd,bmN,mN,f1,f2,f3,f4,f5,Yh⟩:=hC;have hcalm:X.A.handled=none:=I.ok.hd (by rw[hX];rfl);refine Gq (nm:=nm) (q:=q) (N:=N') (bs:=bs) (hdct:=hdct) (sn:=sn) (sub:=sub) (ab:=ab) (col:=col) (dd:=dd) (k0:=k0) (k1:=k1) (k2:=k2) (k3:=k3) (k5:=k5) f1 f2 f3 f4 hcalm (by rw[hs];rfl) f5 (wB I hg hm ⟨rfl,?_⟩ WE);rw[hs];refine evalArgs_kwB rfl ?_;have XX:=ha Ws Wk s σ H _ I h;rw[hs]at XX;refine rV XX λus s1 zz=>?_;obtain⟨vs,H1,I1,r1,y,ey,q1⟩:=zz;subst ey;obtain⟨u,rfl,ru⟩:=yb r1;refine wpAny_evalAll_nil ?_;obtain⟨c1,c2,c3,c4⟩:=Yh s1.heap I1.mQ;refine⟨rfl,by show 1<=sizeLine;rw[dM];decide,c1,c2,c3,c4,λh' e' md=>?_⟩;obtain⟨mk,mn,t,mt,_⟩:=md;have hn:H1 e'=none:=yK I1.mG mn;have I2:Inv X Wk σ H1 {s1 with heap:=h'}:=I1.kept (t':=s1.toks) mk;have I3:Inv X Wk σ (upd H1 e' (.ext (x0 e' C))) {s1 with heap:=h'}:=I2.adopt I1 mn hn ⟨⟨t,_,mt⟩,⟨_,mt⟩,λh1 h2 ⟨t',XJ,z⟩ kk=>⟨t',XJ,kk _ z⟩⟩;have r2:qo [V.ref e',y] [Value.ref e',u]:=.cons rfl (.cons ru .nil);have XM:vN X.K fl [V.ref e',y] (upd H1 e' (.ext (x0 e' C))) (λv H2=>v=.mC/\∃d,d≠e'/\H1 d=none/\H2=upd (upd H1 e' (.ext (x1 e' C d))) d (.ext (Nl d fl y))) (λ_ _ _=>False):=⟨e',C,y,rfl,pS,st,λd dn da=>⟨rfl,d,da,by rw[pL da]at dn;exact dn,by rw[NM]⟩⟩;have hl:([Value.ref e',u]:List Vl).length=ps.length:=by rw[<-r2.length];exact F.len _ _ _ _ XM
 refine hJ (gf (F.run _ X.stack _ _ ⟨[Value.ref e',u],[]⟩ [Value.ref e',u] _ _ _ (hr.make C [u] []) (I3.nQ.make C [u] []) (hb _ [Value.ref e',u] I3.mQ hl) r2 XM) λr s' X1=>?_);cases r with
 | error ev=>obtain⟨_,_,_,_,_,_,z,_⟩:=X1;exact z.elim
 | ok fw=>
  cases fw with
  | ret uv=>
   obtain⟨v,H',I4,rv,ev,d,da,dn,eH⟩:=I3.after X1;subst ev eH;obtain⟨⟨t',XJ,md⟩,_,_⟩:=I4.mG e' _ (by rw[pL (dJ da)];exact pS);have I5:Inv X Wk σ (upd H1 d (.ext (Nl d fl y))) _:=(funext λb=>by
    by_cases z:b=e'
    .subst z;rw[c9 rfl,pL (dJ da),hn]
    .rw[cY z];by_cases z2:b=d
     .subst z2;rw[pS,pS]
     .rw[pL z2,pL z2,pL z]:(λb=>if b=e' then none else upd (upd H1 e' (.ext (x1 e' C d))) d (.ext (Nl d fl y)) b)=upd H1 d (.ext (Nl d fl y))) ▸ I4.drop (a:=e') (φ:=x1 e' C d) (by rw[pL (dJ da)];exact pS)
   refine⟨rv,some d,(Yh s'.heap I4.mQ).1,⟨t',XJ,md⟩,?_⟩;subst hX;have WN:Un (vJ outer) [] H0 H1 s0.heap s1.heap:=I1.base;exact SD I5 (tb:=none) ⟨_,_,md,rfl,rfl,rfl,(by show 1<6;decide),rfl,λT z=>by cases z⟩ (FC WN rfl mn) (λT z=>by cases z) (by rw[pL (dJ da)];exact hn) (q1 d dn)
  | next=>exact False.elim X1
  | brk=>exact False.elim X1
  | cont=>exact False.elim X1
end
end L2
namespace L3
open PySem PySem.Spec PyProof.Rows L2
variable {P:Pg}{w:Wo}{K:pY}{mg:Str→Option Vl}{base:Heap}{N:List Str}{qual:Str}{scope:Scope}{f:Addr}{cd:Vl}{A:Ar}{outer:List Env}{s0:Sd}{H0:Hp}{E:XK}{x:Str}{np Ws pos:Pos}{e:Expr}{C fI:Addr}{fdI:FuncData}{ps:List Str}{fl:Str}{k:Nat}{R:XR}{ta:wW}
def O6(C:Addr)(R:XR)(f:Str)(ta:wW):wV:=λ_ δ M=>ta δ M λds M1=>∃z,ds=[z]/\R C (some (f,z)) M1
def J3(hC:IL K C fI)(F:wR P w K mg base (Ba P w) k fI fdI ps (vN K fl))(hr:rD (k+1) (vd (Ba P w) P w K mg base N qual scope f cd A outer s0 H0 E).A)(hb:uy K fdI ps [])(st:yi K C fl)(_:W.findIn K (.ref C) "__init__"=some (some (.ref fI)))(hg:Gl (vd (Ba P w) P w K mg base N qual scope f cd A outer s0 H0 E) x)(hm:mg x=some (.ref C))(hR:Tv K R E)(ha:A3 (vd (Ba P w) P w K mg base N qual scope f cd A outer s0 H0 E) [e] ta) (hs:starEach [e] (vd (Ba P w) P w K mg base N qual scope f cd A outer s0 H0 E).env=[(false,eval e (vd (Ba P w) P w K mg base N qual scope f cd A outer s0 H0 E).env)]:=by rfl) (WE:yk x:=by decide):
  S3 (vd (Ba P w) P w K mg base N qual scope f cd A outer s0 H0 E) (.Raise (some (.Call (.Name x np) [e] [] Ws)) none pos) (O6 C R fl ta):=
 PS.mono (Jh rfl hC F hr hb st hg hm ha hs WE) λD' σ H ⟨δ,M,D,hs,hm,ht,_⟩=>⟨δ,M,_,hs,hm,ht,λvs H1 ds M1 hd Wm e1 q1=>by
  obtain⟨z,rfl,r⟩:=q1;obtain⟨v,rfl,hv⟩:=rM hd;exact⟨v,rfl,λd dn=>hR C (some d) _ M1 _ (Wm.add dn) (.inr ⟨d,fl,z,v,rfl,rfl,pS,hv.mono (.new dn)⟩) r⟩⟩
variable {X:Cx}{b₀:Stmt}{XG:List Stmt}{cn:Str}{cnp XQ epos:Pos}{Cc L:Addr}{te:SA}{th:wV}
end L3
namespace L2
open PySem PySem.Spec PyProof.Rows
def Nf{K:pY}{C C2 N fI:Addr}{nm q:Str}{bs sub:List Vl}{hdct ab:Bool}{sn:List Str}{col:Option Bool}{dd od1 od2 dd2:Option Addr}{k0 k1 k2 k3 k5:Option Vl}{oc1 oc2 c0:Vl}{es1 es2:Array DictEntry}{ep1 ep2:Nat}{sl1 sl2 UN:Array (Option Vl)}{cd2:ClassData}{oI:Obj} (l1:K.lookup C=some (excClassObj nm q C N bs (.ref C2::LM) hdct sn sub ab col dd k0 k1 k2 k3 k5 "ValueError.__new__")) (n1:K.lookup N=some ⟨oc1,od1,.dict es1 ep1,sl1⟩) (s1:Cb es1=true) (i1:nsFind es1 "__init__"=some (.ref fI)) (l2:K.lookup C2=some ⟨c0,dd2,.cls cd2,UN⟩) (n2:K.lookup cd2.ns=some ⟨oc2,od2,.dict es2 ep2,sl2⟩) (s2:Cb es2=true) (i2:nsFind es2 "__init__"=none) (l3:K.lookup fI=some oI) (hf:W.isFn K (.ref fI)=true):IL K C fI:=by
 have hc:oI.cls=.type "function":=by have hf:=fk.mp hf;unfold W.typeIn at hf;simp only at hf;rw[l3]at hf;exact dh hf
 refine⟨nm,q,N,bs,.ref C2::LM,LM,hdct,sn,sub,ab,col,dd,k0,k1,k2,k3,k5,"ValueError","ValueError","ValueError.__new__","ValueError.__new__","ValueError.__init__","ValueError.__init__",LM,λn=>nsFind es1 n,kc,by decide+kernel,kc,?_,i1,λh X=>⟨X C _ l1,⟨_,es1,ep1,X N _ n1,rfl,Bz s1,λ_=>rfl⟩,.own (X C2 _ l2) ⟨_,es2,ep2,X _ _ n2,rfl,Bz s2,λ_=>rfl⟩ i2 .base,oI,X fI _ l3,hc⟩⟩;rw[il];have:LM.contains (.type "BaseException")=true:=by decide+kernel
 rw[this,kO]
def JR{K:pY}{C C2 N:Addr}{nm q f:Str}{bs sub:List Vl}{ab:Bool}{sn:List Str}{col:Option Bool}{dd:Option Addr}{k0 k1 k2 k3 k5:Option Vl}(l1:K.lookup C=some (excClassObj nm q C N bs (.ref C2::LM) true sn sub ab col dd k0 k1 k2 k3 k5 "ValueError.__new__"))(sa:W.findIn K (.ref C) "__setattr__"=some (some (.builtin "object.__setattr__")))(tk:W.findIn K (.ref C) f=some none):yi K C f:=by refine⟨sa,⟨_,[C,C2],by unfold W.clsIn;rw[l1],rfl,rfl⟩,?_⟩;unfold W.takerIn;rw[tk];rfl
end L2
namespace L3
open PySem PySem.Spec PyProof.Rows L2
variable {X:Cx}{pos Wn:Pos}{o e:Expr}{es:List Expr}{ta:T3}{t:wW}
structure FA where
 f:Addr
 d:FuncData
 p:List Str
structure DG(K:pY)(st:Stmt)(py qual:Str)(ps:List Str)(x:FA):Prop where
 pe:x.p=ps
 fn:Pl K py qual st x.f x.d
 b:uy K x.d x.p []
 ty:W.isFn K (.ref x.f)=true
structure TG(K:pY)(mg:Str->Option Vl)(st:Stmt)(py:Str)(ps:List Str)(x:FA):Prop extends DG K st py py ps x where
 mg:mg py=some (.ref x.f)
structure MG(K:pY)(C:Addr)(st:Stmt)(py qual:Str)(ps:List Str)(x:FA):Prop extends DG K st py qual ps x where
 at_:W.findIn K (.ref C) py=some (some (.ref x.f))
structure CG(K:pY)(mg:Str->Option Vl)(nm:Str)(C:Addr):Prop extends Cls K C where
 mg:mg nm=some (.ref C)
def DG.kp{K:pY}{st:Stmt}{py qual:Str}{ps:List Str}{x:FA}(h:DG K st py qual ps x):W.keepIn K (.ref x.f)=true:=h.fn.kp
def MG.mW{K:pY}{C:Addr}{st:Stmt}{py qual:Str}{ps:List Str}{x:FA}(h:MG K C st py qual ps x):vf K C py x.f:=⟨h.at_,h.ty,h.toDG.kp⟩
def yV(K:pY)(C:Addr)(fs:List Str):Prop:=∀f,fs.contains f=true->tL K C f
def sH{K:pY}{C:Addr}:yV K C []:=λf h=>by simp at h
def pF{K:pY}{C:Addr}{g:Str}{fs:List Str}(h:W.findIn K (.ref C) g=some none)(r:yV K C fs):yV K C (g::fs):=λf q=>by
 rw[il,gP]at q;rcases q with q|q
 .rw[eq_of_beq q];exact h
 .exact r f q
abbrev Fq(P:Pg)(w:Wo)(K:pY)(mg:Str->Option Vl)(base:Heap)(k:Nat)(x:FA)(sp:qT):Prop:=Sv P w K mg base k x.f x.d x.p sp
abbrev UZ(P:Pg)(w:Wo)(K:pY)(mg:Str->Option Vl)(base:Heap)(k:Nat)(x:FA)(sp:F4):Prop:=Sf P w K mg base k x.f x.d x.p sp
def Q6(N P:List Str)(sc:Scope):Bool:=sc.kind==.function&&(!sc.isCoroutine&&(!sc.isGenerator&&(decide N.Nodup&&(decide (N.take P.length=P)&&((P.all λx=>sc.names.lookup x==some .local||sc.names.lookup x==some .cell)&&sc.names.all λy=>!(y.2==.free))))))
def Wc{N P:List Str}{sc:Scope}(h:Q6 N P sc=true):sF N P sc:=by
 unfold Q6 at h;simp only[dU,gB,fk,eB]at h;obtain⟨h1,h2,h3,h4,h5,h6,h7⟩:=h;refine⟨h1,h2,h3,h4,h5,λx hx=>?_,λy hy e=>?_⟩
 .have:=eL.mp h6 x hx
  simpa using this
 .have:=eL.mp h7 y hy;rw[e]at this;simp at this
variable {P:Pg}{w:Wo}{K:pY}{mg:Str→Option Vl}{base:Heap}
def UW{x qual:Str}{st:Stmt}{fa:FA}{N ps:List Str}{k:Nat}{sp:qT}(F:DG K st x qual ps fa)(S:sF N ps (pR st))(len:∀ds M Q,sp ds M Q->ds.length=ps.length) (WI:∀(Wu:Vl) (A:Ar) (outer:List Env) (s:Sd) (H:Hp) (E:XK),rD k (A.deeper (envOfC qual (pR st) s.heap.objs.size fa.f Wu))->
   ∃t,Hv (vd Ni P w K mg base N qual (pR st) fa.f Wu A outer s H E).og (rq st) t/\∀ds M Q,sp ds M Q->t {nx:=λ_ M'=>∃Wq,qh Wq M'/\Q .mC Wq,rt:=λd M'=>∃Wq,qh Wq M'/\Q d Wq} (wz N ds) M):Fq P w K mg base (k+1) fa sp:=by
 unfold Fq;rw[F.pe];exact Th F.fn S len WI
def S6{x qual:Str}{st:Stmt}{fa:FA}{N ps:List Str}{k:Nat}{sp:F4}(F:DG K st x qual ps fa)(S:sF N ps (pR st))(len:∀ds M Q R,sp ds M Q R->ds.length=ps.length) (WI:∀(Wu:Vl) (A:Ar) (outer:List Env) (s:Sd) (H:Hp) (E:XK) (R:XR),rD k (A.deeper (envOfC qual (pR st) s.heap.objs.size fa.f Wu))->Tv K R E->
   ∃t,Hv (vd (Ba P w) P w K mg base N qual (pR st) fa.f Wu A outer s H E) (rq st) t/\∀ds M Q,sp ds M Q R->t {nx:=λ_ M'=>∃Wq,qh Wq M'/\Q .mC Wq,rt:=λd M'=>∃Wq,qh Wq M'/\Q d Wq} (wz N ds) M):UZ P w K mg base (k+1) fa sp:=by
 unfold UZ;rw[F.pe];exact Ut F.fn S len WI
variable {k n:Nat}{f C:Addr}{fa:FA}{st:Stmt}{qual:Str}{ps:List Str}{sp:qT}{x m:Str}{p:Pos}
def pq(F:Fq X.prog X.w X.K X.mg X.base k fa sp)(hr:rD n X.A)(T:TG X.K X.mg st x ps fa)(ha:A3 X (e::es) t)(hn:k<=n:=by first|decide|omega)(hg:Gl X x:=by rfl)
  (WE:yk x:=by decide) (he:AV X e es:=by rfl) (WA:Cd X pos es:=by rfl):
  E3 X (.Call (.Name x p) (e::es) [] pos) (Dt sp t):=PB F (hr.mono hn) hg T.mg T.toDG.kp T.b ha WE he WA
def uV(F:Fq X.prog X.w X.K X.mg X.base k fa sp)(hr:rD n X.A)(c:CG X.K X.mg x C)(i:Mk X.K C fa.f)(T:DG X.K st m qual ps fa)(ha:A3 X (e::es) t)(hn:k+1<=n:=by first|decide|omega)(hg:Gl X x:=by rfl)
  (WE:yk x:=by decide) (he:AV X e es:=by rfl) (WA:Cd X pos es:=by rfl):
  E3 X (.Call (.Name x p) (e::es) [] pos) (Ql C sp t):=O9 c.toCls i F (hr.mono hn) hg c.mg T.b ha WE he WA
def pK{pl:Sem Bool}(he:E3 X o ta)(c:Cls X.K C)(T:MG X.K C st m qual ps fa)(F:Fq X.prog X.w X.K X.mg X.base k fa sp)(hr:rD n X.A)(ha:A3 X (e::es) t)(hn:k<=n:=by first|decide|omega)
  (WH:AV X e es:=by rfl) (WA:Cd X pos es:=by rfl)
  (ht:eval (.Call (.Attribute o m Wn) (e::es) [] pos) X.env=(do
   let ov<-eval o X.env
   standAt Wn.atName
   let(f,first)<-holding [ov] (getMethod ov m pl)
   callWith pos f first (backTo pos (starEach (e::es) X.env)) (backToKw pos (keywordEach [] X.env))):=by rfl):
  E3 X (.Call (.Attribute o m Wn) (e::es) [] pos) (Ab m (λD s=>D=C/\s=sp) ta t):=
 El (R:=λD s=>D=C/\s=sp) he (λD s ⟨e1,e2⟩=>by subst e1 e2;exact⟨c,_,_,_,T.mW,F,T.b⟩) (hr.mono hn) ha WH WA ht
def xX{pl:Sem Bool}(he:E3 X o ta)(c:Cls X.K C)(T:MG X.K C st m qual ps fa)(F:Fq X.prog X.w X.K X.mg X.base k fa sp)(hr:rD n X.A)(hn:k<=n:=by first|decide|omega)
  (ht:eval (.Call (.Attribute o m Wn) [] [] pos) X.env=(do
   let ov<-eval o X.env
   standAt Wn.atName
   let(f,first)<-holding [ov] (getMethod ov m pl)
   callWith pos f first (backTo pos (starEach [] X.env)) (backToKw pos (keywordEach [] X.env))):=by rfl):
  E3 X (.Call (.Attribute o m Wn) [] [] pos) (Ab m (λD s=>D=C/\s=sp) ta xF):=
 BE (R:=λD s=>D=C/\s=sp) he (λD s ⟨e1,e2⟩=>by subst e1 e2;exact⟨c,_,_,_,T.mW,F,T.b⟩) (hr.mono hn) ht
def yo{pl:Sem Bool}(cm:KY X.K C m fa.f)(F:Fq X.prog X.w X.K X.mg X.base k fa sp)(hr:rD n X.A)(c:CG X.K X.mg x C)(T:DG X.K st m qual ps fa)(ha:A3 X (e::es) t)(hn:k<=n:=by first|decide|omega)(hg:Gl X x:=by rfl)
  (WE:yk x:=by decide) (WH:AV X e es:=by rfl) (WA:Cd X pos es:=by rfl)
  (ht:eval (.Call (.Attribute (.Name x p) m Wn) (e::es) [] pos) X.env=(do
   let ov<-eval (.Name x p) X.env
   standAt Wn.atName
   let(f,first)<-holding [ov] (getMethod ov m pl)
   callWith pos f first (backTo pos (starEach (e::es) X.env)) (backToKw pos (keywordEach [] X.env))):=by rfl):
  E3 X (.Call (.Attribute (.Name x p) m Wn) (e::es) [] pos) (Dt sp t):=NF cm F (hr.mono hn) hg c.mg T.kp T.b ha WE WH WA ht
variable {h:Heap}{py:Str}{od an:Option Addr}{sl:Array (Option Vl)}{kv dc pm cd ct:Vl}
def IQ{fd:FuncData}{oc:Vl}(l:K.lookup f=some ⟨oc,od,.func fd,sl⟩):W.keepIn K (.ref f)=true:=by unfold W.keepIn;simp only;rw[l]
def OY{fd:FuncData}(l:K.lookup f=some ⟨.type "function",od,.func fd,sl⟩):W.isFn K (.ref f)=true:=by unfold W.isFn W.typeIn;simp only;rw[l];rfl
abbrev mS(py qual:Str)(st:Stmt)(ps:List Str):Prop:=∀(kV WX pm:Vl) (an:Option Addr) (Wu ct:Vl) (us:List Vl),us.length=ps.length->bindArgs (W.fnOf py qual (tY st) (rq st) (pR st) .none kV WX pm an Wu ct) ⟨us,[]⟩=pure (ps.zip us)
def P6(l:K.lookup f=some ⟨.type "function",od,.func (W.fnOf py qual (tY st) (rq st) (pR st) .none kv dc pm an cd ct),sl⟩)(k:W.codeIn K cd qual=true)(hb:mS py qual st ps):
  DG K st py qual ps ⟨f,W.fnOf py qual (tY st) (rq st) (pR st) .none kv dc pm an cd ct,ps⟩:=⟨rfl,LV l k (IQ l),(LV l k (IQ l)).binds hb,OY l⟩
def pZ(X:K.In h)(G:h.Ns mainGlobals mg)(a:W.nsIn K mainGlobals py=some (some (.ref f)))(l:K.lookup f=some ⟨.type "function",od,.func (W.fnOf py py (tY st) (rq st) (pR st) .none kv dc pm an cd ct),sl⟩)(k:W.codeIn K cd py=true)(hb:mS py py st ps):
  TG K mg st py ps ⟨f,W.fnOf py py (tY st) (rq st) (pR st) .none kv dc pm an cd ct,ps⟩:=⟨P6 l k hb,W.mg_of X G a⟩
def pP(a:W.findIn K (.ref C) py=some (some (.ref f)))(l:K.lookup f=some ⟨.type "function",od,.func (W.fnOf py qual (tY st) (rq st) (pR st) .none kv dc pm an cd ct),sl⟩)(k:W.codeIn K cd qual=true)(hb:mS py qual st ps):
  MG K C st py qual ps ⟨f,W.fnOf py qual (tY st) (rq st) (pR st) .none kv dc pm an cd ct,ps⟩:=⟨P6 l k hb,a⟩
def vL(X:K.In h)(G:h.Ns mainGlobals mg)(a:W.nsIn K mainGlobals py=some (some (.ref C)))(h1:W.plainGet K C Str.empty=true)(h2:W.hasDictIn K C=true)(h3:W.plainOver K C=true)(h4:W.findIn K (.ref C) "__setattr__"=some (some (.builtin "object.__setattr__"))):CG K mg py C:=⟨⟨h1,h2,h3,h4⟩,W.mg_of X G a⟩
def Tb(h1:(W.clsIn K C).isSome=true)(h2:W.findIn K (.ref C) "__getattribute__"=some (some (.builtin "BaseException.__getattribute__")))(h3:W.findIn K (.ref C) "__getattr__"=some none)(h4:W.findIn K (.ref C) "__class__"=some (some (.builtin "object.__class__"))) (h5:W.specialIn K (.builtin "object.__class__") "__get__"=some (some (.builtin "getset_descriptor.__get__"))) (h6:W.takesIn K (.builtin "object.__class__")=some true) (h7:W.mroIn K C (.type "object")=some true) (h8:W.mroIn K C (.type "BaseException")=some true):Mi K C:=⟨h1,h2,h3,h4,h5,h6,h7,h8⟩
def OZ{x:Str}{a:Addr}{es:List DictEntry}{ep:Nat}{T:List (Str×List Str)}(h:mg x=some (.ref a))(s:(a==sysModules)=false)(l:K.lookup a=some ⟨.type "dict",none,.dict es.toArray ep,#[]⟩) (r:KTD.Rows (λ(ss:List Str) v=>∃t,v=Value.ref t/\uK K (λ_=>none) t (ss.map V.str)) es T):L8 K mg x T:=⟨a,_,_,_,h,s,l,⟨rfl,rfl,rfl⟩,rfl,by simpa using r⟩
def MD{P:Pg}{w:Wo}{base:Heap}{x qual y1 y2 fl:Str}{st:Stmt}{fa:FA}(F:DG K st x qual [y1,y2] fa)(S:sF [y1,y2] [y1,y2] (pR st)) (hb:∀(Wu:Vl) (A:Ar) (outer:List Env) (s:Sd) (H:Hp) (E:XK),Be (vd (Ba P w) P w K mg base [y1,y2] qual (pR st) fa.f Wu A outer s H E) (rq st) (Kx K (E1 0) (E1 1) fl)):wR P w K mg base (Ba P w) 1 fa.f fa.d fa.p (vN K fl):=by
 rw[F.pe];exact My F.fn S hb
def T8(ds:List D)(M:Mp)(Q:DK):Prop:=match ds with
 | [.ref a]=>(oy M a).elim False λes=>(FJ es).elim False λbs=>Q (.bl (bs.any id)) M
 | _=>False
def Rk(hc:X.calm=true):C3 X (.builtin "any") T8:=by
 intro Wk s σ H vs us Q' I rv h;obtain⟨ds,M,Q,hd,hm,q,k⟩:=h;unfold T8 at q;split at q
 .rename_i a;obtain⟨v,rfl,hv⟩:=rM hd;obtain⟨es,e0,q⟩:=qI q;obtain⟨bs,e1,q⟩:=qI q;cases hv.mw;obtain⟨u,rfl,ru⟩:=yb rv;cases ru;obtain⟨xs,h1,h2,_⟩:=qa hm e0;obtain⟨its,r,pl,hz⟩:=I.list h1;have Zo:=D7 e1 h2 r;subst Zo;have WK:a≠s.heap.objs.size:=by obtain⟨o,_,e,_⟩:=pl;exact dG (dv e)
  refine call_any_walk (gA pl.isList ?_);refine⟨s.heap.objs.size,_,_,_,_,_,λi=>(bs[i]?).getD false,rfl,j8 (A:=X.A.in1) (I.ok.hd hc) _ a WK (bs.map Value.bool).toArray,⟨⟨_,dF _ rfl,rfl,rfl⟩,?_⟩,λi v s' Q E hP hQ=>?_,λh' tk hk=>?_⟩
  .obtain⟨o,n,e,c,d,q⟩:=pl;exact⟨o,cZ _ e,c,n,q⟩
  .simp only[iC,dA]at hP;cases e2:bs[i]? with
   | none=>rw[e2]at hP;cases hP
   | some b=>rw[e2]at hP;cases hP;have hQ:Q ((bs[i]?).getD false) s':=hQ;rw[e2]at hQ;exact fi hQ
  .have ea:(List.range (bs.map Value.bool).toArray.size).any (λi=>(bs[i]?).getD false)=bs.any id:=by
    rw[dq,cT];rw[gg,gp,gp];constructor
    .rintro ⟨i,hi,z⟩
     have Yk:=gk.mp hi;rw[cW Yk]at z;exact⟨_,hZ Yk,z⟩
    .rintro ⟨b,hb,z⟩
     obtain⟨i,hi,e⟩:=gJ hb;refine⟨i,gk.mpr hi,?_⟩;rw[cW hi,e];exact z
   rw[ea];refine⟨.bl (bs.any id),H,?_,rfl,k _ _ _ _ .bl hm .refl q⟩;exact I.kept (h':=h') (t':=tk) λb o e=>hk b o (by simpa using dG (dv e)) (cZ _ e)
 .exact q.elim
def Rx:bootBuiltins "any"=some (.builtin "any"):=by decide+kernel
end L3
namespace L2
open PySem PySem.Spec PyProof.Rows
def JY(a C d:Addr)(h:Heap):Prop:=B8 λoe vs=>h.get? a=some oe/\oe.cls=.ref C/\oe.data=.fields vs/\oe.dict=some d
structure Od(K:pY)(C:Addr)(f:Str):Prop where
 ci:Mi K C
 hh:W.hasDictIn K C=true
 tk:W.findIn K (.ref C) f=some none
def MX{h:Heap}{d:Addr}{m:Str->Option Vl}{f:Str}{u:Vl}(x:h.Ns1 d m)(e:m f=some u):∃od,h.get? d=some od/\W.lookIn f od=some (some u):=by obtain⟨o,es,ep,e1,e2,_,_,e3⟩:=x;refine⟨o,e1,?_⟩;have e3:=e3 f;rw[e]at e3;unfold nsFind findBy at e3;rw[<-kF]at e3;obtain⟨en,h1,h2⟩:=iu.mp e3;unfold W.lookIn;rw[e2];dsimp only;rw[h1];exact eE (λz=>some (some z)) h2
variable {prog:Pg}{w:Wo}{A:Ar}{E:Vl→Sd→Prop}{s:Sd}{K:pY}{x C:Addr}{ox od:Obj}{f:Str}{v:Vl}
def L1{tk:Tok}{Q:PySem.Fin->Sd->Prop}(X:K.In s.heap)(I:W.InstAt s.heap x ox C (some od))(hf:W.findObj K C (some od) f=some (.value v))(h:Q (.done (.ret v)) s):wpAny (model prog w) A (Builtin.«object.__getattribute__» {pos:=[.ref x,.str f tk]}) Q E s:=by have L0:=I.type (M:=model prog w);unfold Builtin.«object.__getattribute__» slotArgs;refine cU ?_;rw[cY (by simp)];dsimp only;rw[cY (by simp)];refine de ?_;dsimp only;refine cU ?_;unfold Builtin.ObjectAttr.attrName;refine de (cU (L0.at (cU ((W.looks_find X I hf).at ?_))));exact de h
def PJ{Y6:Bool}{Q:Vl->Sd->Prop}(c:Od K C f)(X:K.In s.heap)(I:W.InstAt s.heap x ox C (some od))(hl:W.lookIn f od=some (some v))(hv:W.handedIn v=true)(h:Q v {s with toks:=s.toks+1}):wpAny (model prog w) A (getAttr (.ref x) f Y6) Q E s:=by have L0:=I.type (M:=model prog w);unfold getAttr getAttrBy;refine cU (wpAny_mkText (eC (cU (L0.at (cU ((iU X c.ci.ga).at ?_))))));dsimp only;rw[cY (by simp)];unfold getAttrByItsOwn;refine cU ?_;unfold hookBefore;rw[c9 (by rfl)];refine(iU X c.ci.gt).at (cU (kl (eC ?_)));unfold callGetattribute;rw[cY (by simp;intro _;rfl)];unfold boundAndCalled;refine cU ?_;rw[jZ.ga.bind (.ref x)];refine de ?_;refine hJ (hW jZ.ga.plain F.entry_bexc_ga (LP c.ci X I.at_ I.cls ?_));exact L1 X I (W.findObj_own c.hh c.tk rfl hl) (W.handed_on hv h)
variable {X:Cx}{e:Expr}{pos:Pos}{ta:TE}
def Mu:V->Bool
 | .str _=>true
 | .int _=>true
 | .bl _=>true
 | .mC=>true
 | _=>false
def DL{v:V}{u:Vl}(r:qy v u)(p:Mu v=true):W.handedIn u=true:=by
 cases v<;>first
  | (cases r;rfl)
  | (obtain⟨t,rfl⟩:=r;rfl)
  | cases p
def Ls(K:pY)(ta:TE)(f:Str):TE:=λσ H Q=>ta σ H λx H1=>AU λa C d v=>x=.ref a/\H1 a=some (.ext (JY a C d))/\H1 d=some (.ext (Nl d f v))/\Od K C f/\Mu v=true/\Q v H1
def OT(he:PE X e ta)(hb:attributeBase e f X.env (eval e X.env)=eval e X.env):PE X (.Attribute e f pos) (Ls X.K ta f):=by intro Wk s σ H Q I h;refine HI hb (rV (he Wk s σ H _ I h) λu s1 zz=>?_);obtain⟨x,H1,I1,rx,a,C,d,v,ex,ea,ed,c,p,q⟩:=zz;subst ex;obtain rfl:u=Value.ref a:=rx;obtain⟨⟨oe,vs,e1,e2,e3,e4⟩,_,_⟩:=I1.mG a _ ea;obtain⟨⟨u,n1,r⟩,_,_⟩:=I1.mG d _ ed;obtain⟨od,g1,g2⟩:=MX n1 (c9 rfl);exact PJ (ox:=oe) c I1.mQ ⟨e1,e2,by unfold W.notCls;rw[e3],by rw[e4];exact g1⟩ g2 (DL r p) ⟨v,H1,I1.tok _,r,q⟩
def Nx{P:Pg}{w:Wo}{H:Hp}{h:Heap}{a C d:Addr}(x:JY a C d h):rP P w H h a (.ext (JY a C d)):=by refine⟨x,?_,λh1 h2 ⟨oe,vs,e1,e2,e3,e4⟩ k=>⟨oe,vs,k oe e1,e2,e3,e4⟩⟩;obtain⟨oe,_,e,_⟩:=x;exact⟨oe,e⟩
def NN{X:Cx}{st b₀:Stmt}{XG:List Stmt}{cn n:Str}{cnp XQ pos:Pos}{Cc L:Addr}{outer:List Env}{i:Nat}{t:Ek->St->Hp->(Hp->Prop)->XK->Prop}{th:TS}(hb:VU X st t)(WH:X.stack=X.env::outer)(hL:X.env.frame=some L)(hg:Gl X cn)(hm:X.mg cn=some (.ref Cc)) (hN:X.N.Nodup) (hi:X.N[i]?=some n) (hk:X.env.scope.names.lookup n=some .local) (hs:∀ev E',Be (X.marked ev E') (b₀::XG) th) (WE:yk cn:=by decide):
  PS X (.Try [st] [.ExceptHandler (some (.Name cn cnp)) (some n) (b₀::XG) XQ] [] [] pos) (λD σ H=>∃(J:Hp->Prop) (E:XK),t D σ H J E/\∀C dx H1 H',J H1->TKept H1 H'->E (.ref C) dx H'->∃d,dx=some d/\W.exmOne X.K (.ref C) (.ref Cc)=some true/\
   ∀a,H' a=none->th {nx:=λσ' H2=>D.nx (σ'.set i none) H2,rt:=D.rt,bk:=λσ' H2=>D.bk (σ'.set i none) H2,ct:=λσ' H2=>D.ct (σ'.set i none) H2} (σ.set i (some (.ref a))) (upd H' a (.ext (JY a C d)))):=by
 intro Wk s σ H D I ⟨J,E,h,hh⟩;refine wpAny_Try_except (eA (Q:=λf s'=>SP X Wk D f s') (jv (rV (hb Wk s σ H D J E I h) λf s1 q=>?_)) (λf s1 q=>?_) λev s1 x=>?_)
 .cases f with
  | next=>exact gN q
  | brk=>exact q
  | cont=>exact q
  | ret v=>exact q
 .cases f with
  | next=>exact gN q
  | brk=>exact q
  | cont=>exact q
  | ret v=>exact q
 .refine eA (Rj x WH hL) (λ_ s2 y=>rV y λ_ s3 z=>?_) λ_ _ z=>z;obtain⟨a,C,dx,H',tb,H1,s1,rfl,q,I3,x3,na,nt,jH,tk,I1,n1⟩:=z;obtain⟨d,rfl,Wm,h1⟩:=hh C dx H1 H' jH tk q;refine wpAny_handleBy_cons (codeAny_handlers_test (wB (X:=X.marked (.ref a) λ_ _=>False) I3.mark hg hm ?_ WE)) (by intro z;cases z);obtain⟨oe,vs,ho,hc,Yb,hd,_⟩:=id x3;refine W.exm_one I3.mQ (BA ho) (by rw[hc];exact Wm) _ _ _ _ (λ_ _ z=>z) ?_;refine codeAny_handlers_suite_as (Gy x3 λh' hh'=>?_);have I4:Inv X Wk σ H' {s3 with heap:=h'}:=I3.kept (t':=s3.toks) λb u z=>by rw[hh' b];exact z
  have I5:Inv X Wk σ (upd H' a (.ext (JY a C d))) {s3 with heap:=h'}:=I4.adopt I1 n1 na (Nx ⟨oe,vs,by show h'.get? a=_;rw[hh' a];exact ho,hc,hd,Yb⟩);refine xp (v:=.ref a) I5 hN hi (.inl hk) rfl (λs6 I6=>?_) (.inr hk);refine eA (hs (.ref a) _ Wk _ _ _ _ I6.mark (h1 a na)) (λf s7 q7=>?_) λ_ _ z=>z;have q7:=SP.unmark I.ok q7;cases f with
  | next=>obtain⟨σ',H2,I7,q⟩:=q7;exact xW I7 hN hi hk λs8 I8=>⟨_,H2,I8,q⟩
  | brk=>obtain⟨σ',H2,I7,q⟩:=q7;exact xW I7 hN hi hk λs8 I8=>⟨_,H2,I8,q⟩
  | cont=>obtain⟨σ',H2,I7,q⟩:=q7;exact xW I7 hN hi hk λs8 I8=>⟨_,H2,I8,q⟩
  | ret v=>obtain⟨y,σ',H2,I7,r,q⟩:=q7;exact xW I7 hN hi hk λs8 I8=>⟨y,_,H2,I8,r,q⟩
end L2
namespace L3
open PySem PySem.Spec PyProof.Rows L2
variable {X:Cx}{cn n x:Str}{e:Expr}{cnp XQ pos Wn Zs p1 p2 p3 p4:Pos}{Cc L:Addr}{outer:List Env}{i ix:Nat}{te:SA}{fl:Str}
def SE(K:pY)(ix i:Nat)(Cc:Addr)(fl:Str)(te:SA):wV:=λD δ M=>∃R,te δ M (λd M1=>D.nx (δ.set ix (some d)) M1) R/\∀C y M',R C y M'->W.exmOne K (.ref C) (.ref Cc)=some true/\Od K C fl/\∃z,y=some (fl,.str z)/\D.nx ((δ.set ix (some (.str z))).set i none) M'
def NZ(he:VL X e te)(WH:X.stack=X.env::outer)(hL:X.env.frame=some L)(hg:Gl X cn)(hm:X.mg cn=some (.ref Cc))(hN:X.N.Nodup)(YB:X.N[ix]?=some x)(hx:X.env.scope.names.lookup x=some .local)(hi:X.N[i]?=some n)(hk:X.env.scope.names.lookup n=some .local)(WK:ix≠i) (hd:yk n:=by decide) (Xi:(n==("__classdict__":Str))=false:=by decide) (hab:attributeBase (.Name n p2) fl X.env (eval (.Name n p2) X.env)=eval (.Name n p2) X.env:=by rfl) (hsw2:swapsWith (.Attribute (.Name n p2) fl p3) (some (.Name x p1)) p4.line X.env=pure false:=by rfl)
  (WE:yk cn:=by decide) (XN:swapsWith e (some (.Name x Zs)) Wn.line X.env=pure false:=by rfl):
  S3 X (.Try [.Assign [.Name x Zs] e Wn] [.ExceptHandler (some (.Name cn cnp)) (some n) [.Assign [.Name x p1] (.Attribute (.Name n p2) fl p3) p4] XQ] [] [] pos) (SE X.K ix i Cc fl te):=
 PS.nE (NN (th:=NY (Ls X.K (E1 i) fl) (Iw ix)) (PQ hN YB (.inl hx) he XN (.inr hx)) WH hL hg hm hN hi hk (λev E'=>Ee (KP (X:=X.marked ev E') (te:=Ls X.K (E1 i) fl) hN YB (.inl hx) (OT (X:=X.marked ev E') (KF (X:=X.marked ev E') hi (.inl hk) hd Xi) hab) hsw2 (.inr hx))) WE) λD' σ H hl ⟨δ,M,D,hs,hm,⟨R,ht,hh⟩,k1,k2,k3,k4⟩=>by
  refine⟨λH1=>qF X.K H H1,λcv d H'=>∃C M' y,cv=.ref C/\HM X.K H' M'/\TQ X.K H' d y/\R C y M',⟨δ,M,_,R,hs,hm,ht,λv H1 d M1 hd Wm e1 q1=>?_,λ_ z=>z,λC dx H' M' y h1 h0 h2=>⟨C,M',y,rfl,h1,h0,h2⟩⟩,λC dx H1 H' jH tk ⟨C',M',y,ec,XO,Yb,r⟩=>?_⟩
  .exact k1 _ H1 _ M1 ((hs.mono e1).set hd (by rw[hl];exact(cV.mp YB).1)) Wm e1 (by simp) q1
  .cases ec;obtain⟨r1,c,z,ey,q⟩:=hh C y M' r;rcases Yb with⟨_,z⟩|⟨d,f,z',v,ed,ez,hd,hv⟩
   .rw[ey]at z;cases z
   .rw[ey]at ez;cases ez;have hiσ:i<σ.length:=by rw[hl];exact(cV.mp hi).1
    refine⟨d,ed,r1,λa na=>⟨.ref a,by rw[eJ hiσ],a,C,d,v,rfl,pS,?_,c,?_,?_⟩⟩
    .rw[pL]
     .exact hd
     .intro z;rw[z,na]at hd;cases hd
    .rw[hv.str_inv];rfl
    .have e1:qF X.K H H':=jH.trans (L2.TKept.ext tk);have e2:qF X.K H' (upd H' a (.ext (JY a C d))):=.new na;have s1:=(hs.mono (e1.trans e2)).set (i:=ix) (hv.mono e2) (by rw[hl];exact(cV.mp YB).1);have s2:=s1.unset (i:=i);refine k1 _ _ _ M' ?_ (XO.add na) (e1.trans e2) (by simp) q;rw[List.set_comm _ _ WK.symm,iK];exact s2
end L3
namespace L2
open PySem PySem.Spec PyProof.Rows
variable {prog:Pg}{w:Wo}{A:Ar}{E:Vl→Sd→Prop}{s:Sd}
theorem C0{it t:Addr}{Wl:Array Vl}(WK:t≠it):∀(n i:Nat) (s:Sd) (Q:List Vl->Sd->Prop),s.heap.IsListIter it t i->s.heap.IsList t Wl->i+n<=Wl.size->
  (∀h',h'.IsListIter it t (i+n)->Heap.SameBut it s.heap h'->Q ((Wl.toList.drop i).take n) {s with heap:=h'})->wpAny (model prog w) A (draw (.ref it) n) Q E s
 | 0,i,s,Q,hit,_,_,hQ=>by show wpAny _ _ (pure []) Q E s;exact de (by simpa using hQ s.heap hit (Heap.SameBut.refl ..))
 | n+1,i,s,Q,hit,ht,Zt,hQ=>by
  have Wx:i<Wl.size:=by omega
  show wpAny _ _ (pyNext (.ref it)>>=_) Q E s;refine cU (jQ hit ht (x:=Wl[i]) (by simp[Wx]) λh₁ Zu hs₁=>?_);refine cU (eC (C0 WK n (i+1) _ _ Zu (ht.extBut hs₁.extBut WK) (by omega) λh₂ hit₂ hs₂=>de ?_));have hd:Wl.toList.drop i=Wl[i]::Wl.toList.drop (i+1):=by simp[gc,Wx]
  have:=hQ h₂ (by rw[show i+(n+1)=i+1+n by omega];exact hit₂) (hs₁.trans hs₂);rw[hd,List.take_succ_cons]at this;exact this
def zM{t:Addr}{Wl:Array Vl}{Q:List Vl->Sd->Prop}(hh:A.handled=none)(ht:s.heap.IsList t Wl) (hQ:∀h',Heap.ExtBut s.heap.objs.size s.heap h'->Q Wl.toList {s with heap:=h'}):wpAny (model prog w) A (unpackItems (.ref t) Wl.size none) Q E s:=by
 have Wx:t≠s.heap.objs.size:=by obtain⟨o,ho,_⟩:=ht;exact dG (dv ho)
 unfold unpackItems;refine cU ?_
 .unfold notIterableAtAll;refine cU (iH ht.typeIs slot_list_iter.lookup ?_);refine de ?_;simp only[kP,j6];refine cU (eC (gA ht ?_));refine cU (eC (C0 Wx Wl.size 0 _ _ ⟨_,dF _ rfl,rfl,rfl⟩ (ht.push _) (by omega) λh₁ Zu hs₁=>?_));have W1:List.take Wl.size (List.drop 0 Wl.toList)=Wl.toList:=by rw[iX];exact gT (by simp)
  rw[W1];rw[cY (by simp)];have ht₁:h₁.IsList t Wl:=(ht.push _).extBut hs₁.extBut Wx;refine cU (eC (jT hh Zu ht₁ (by simp) λh₂ he₂=>?_));simp only[Option.isSome_none,kP,j6];refine de (hQ h₂ λb o hb e=>he₂ b o hb (hs₁.extBut b o hb (cZ _ e)))
def yX{env:Env}{WL:List Expr}{x1}{pos:Pos}{t:Addr}{Wl:Array Vl}{Q:Unit->Sd->Prop}(hh:A.handled=none)(ht:s.heap.IsList t Wl) (hn:(assignEach WL env).length=Wl.size) (hstar:(assignEach WL env).findIdx? (·.1)=none) (h:∀h',Heap.ExtBut s.heap.objs.size s.heap h'->wpAny (model prog w) A (assignInOrder ((assignEach WL env).map (·.2)) Wl.toList) Q E {s with heap:=h'}):
  wpAny (model prog w) A (assign (.Tuple WL x1 pos) env (.ref t)) Q E s:=by
 rw[arm_assign_Tuple];refine cU (gL ?_);unfold unpack;rw[hn,hstar];exact cU (eC (zM hh ht h))
end L2
namespace L3
open PySem PySem.Spec PyProof.Rows L2
variable {X:Cx}{pos:Pos}
def QY(n:Nat)(t:Cq):Cp:=λd δ M Q=>match d with|.ref a=>(oy M a).elim False λds=>ds.length=n/\t ds δ M Q|_=>False
def O2{es:List Expr}{k:Nat}{t:Cq}{n:Nat}(hc:X.calm=true)(h:SQ X es t)(hn:(assignEach es X.env).length=n:=by rfl)(WH:(assignEach es X.env).findIdx? (·.1)=none:=by rfl):G3 X (.Tuple es k pos) (QY n t):=by
 intro Wk s σ H v u Q' I r ⟨d,δ,M,Q,hd,hs,hm,ht,kq⟩;cases d with
 | ref a=>
  obtain⟨ds,e,hl,ht⟩:=qI ht;cases hd.mw;cases r;obtain⟨xs,h1,h2,_⟩:=qa hm e;obtain⟨its,rv,pl,hz⟩:=I.list h1;have hx:xs.length=n:=by rw[<-hl];exact h2.length.symm
  refine yX (I.ok.hd hc) pl.isList (by simp[hn,<-hx,rv.length]) WH λh' hx=>?_;have I1:Inv X Wk σ H {s with heap:=h'}:=I.kept (t':=s.toks) λb o e=>hx b o (dG (dv e)) e;exact h Wk _ σ H xs _ Q' I1 (by simpa using rv) ⟨ds,δ,M,Q,h2,hs,hm,ht,kq⟩
 | _=>exact ht.elim
end L3
namespace L3
open PySem PySem.Spec PyProof.Rows L2
def Nh(i:Nat){X:Cx}{pos:Pos}{x:Str}(h1:X.N[i]?=some x:=by rfl)(h2:Ru X.env.scope x:=by first|exact Or.inl rfl|exact Or.inr (Or.inl rfl)|exact Or.inr (Or.inr rfl))(h3:yk x:=by decide)(h4:(x==("__classdict__":Str))=false:=by decide):E3 X (.Name x pos) (v3 i):=Rg i (pv i h1 h2 h3 h4)
variable {X:Cx}{pos:Pos}
def V8{N:List Str}(h:decide N.Nodup=true):N.Nodup:=fP h
def pB(i:Nat){x:Str}{e:Expr}{te:T3}{Wt:Pos}{ps:List Str}{sc:Scope}(S:sF X.N ps sc)(he:E3 X e te)(hi:X.N[i]?=some x:=by rfl)(hx:Kd X.env.scope x:=by first|exact Or.inl rfl|exact Or.inr rfl)(XN:swapsWith e (some (.Name x Wt)) pos.line X.env=pure false:=by rfl)(hf:Kf X x:=by first|exact .inl rfl|exact .inr rfl|assumption):S3 X (.Assign [.Name x Wt] e pos) (FR te (ud i)):=QB S.nd hi hx he XN hf
def rg(i:Nat){x:Str}{ps:List Str}{sc:Scope}(S:sF X.N ps sc)(hi:X.N[i]?=some x:=by rfl)(hx:Kd X.env.scope x:=by first|exact Or.inl rfl|exact Or.inr rfl)(hf:Kf X x:=by first|exact .inl rfl|exact .inr rfl|assumption):G3 X (.Name x pos) (ud i):=IW S.nd hi hx hf
def qu(i:Nat){x:Str}(hN:decide X.N.Nodup=true:=by kernel_rfl)(hi:X.N[i]?=some x:=by rfl)(hx:Kd X.env.scope x:=by first|exact Or.inl rfl|exact Or.inr rfl)(hf:Kf X x:=by first|exact .inl rfl|exact .inr rfl|assumption):G3 X (.Name x pos) (ud i):=IW (V8 hN) hi hx hf
abbrev Sc(n:Nat)(N:List Str)(s:Stmt):=sF N (N.take n) (pR s)
def sk{n:Nat}{N:List Str}{s:Stmt}(h:Q6 N (N.take n) (pR s)=true:=by decide+kernel):Sc n N s:=Wc h
def pT{X:Cx}{e0:Expr}{t0:T3}(h0:E3 X e0 t0)(g0:starEach [e0] X.env=(false,eval e0 X.env)::starEach [] X.env:=by rfl):A3 X [e0] (uP t0 xF):=(pN h0 sC g0)
def rB{X:Cx}{e0 e1:Expr}{t0 t1:T3}(h0:E3 X e0 t0)(h1:E3 X e1 t1)(g0:starEach [e0,e1] X.env=(false,eval e0 X.env)::starEach [e1] X.env:=by rfl)(g1:starEach [e1] X.env=(false,eval e1 X.env)::starEach [] X.env:=by rfl):A3 X [e0,e1] (uP t0 (uP t1 xF)):=(pN h0 (pN h1 sC g1) g0)
def qN{X:Cx}{e0 e1 e2:Expr}{t0 t1 t2:T3}(h0:E3 X e0 t0)(h1:E3 X e1 t1)(h2:E3 X e2 t2)(g0:starEach [e0,e1,e2] X.env=(false,eval e0 X.env)::starEach [e1,e2] X.env:=by rfl)(g1:starEach [e1,e2] X.env=(false,eval e1 X.env)::starEach [e2] X.env:=by rfl)(g2:starEach [e2] X.env=(false,eval e2 X.env)::starEach [] X.env:=by rfl):A3 X [e0,e1,e2] (uP t0 (uP t1 (uP t2 xF))):=(pN h0 (pN h1 (pN h2 sC g2) g1) g0)
abbrev v0:=@Nh 0
abbrev U1:=@Nh 1
abbrev U2:=@Nh 2
abbrev U3:=@Nh 3
abbrev v5:=@Nh 5
abbrev v4:=@Nh 4
abbrev v6:=@Nh 6
abbrev v7:=@Nh 7
abbrev v8:=@Nh 8
abbrev v9:=@Nh 9
variable {P:Pg}{w:Wo}{K:pY}{mg:Str→Option Vl}{base:Heap}
def fq{x qual:Str}{st:Stmt}{fa:FA}{N ps:List Str}{k:Nat}{sp:qT}(F:DG K st x qual ps fa)(S:sF N ps (pR st)) (hb:∀{Wu:Vl} {A:Ar} {outer:List Env} {s:Sd} {H:Hp} {E:XK},rD k (A.deeper (envOfC qual (pR st) s.heap.objs.size fa.f Wu))->(A.deeper (envOfC qual (pR st) s.heap.objs.size fa.f Wu)).units+9<cLine->
   ∃t,Hv (vd Ni P w K mg base N qual (pR st) fa.f Wu A outer s H E).og (rq st) t/\∀ds M Q,sp ds M Q->t {nx:=λ_ M'=>∃Wq,qh Wq M'/\Q .mC Wq,rt:=λd M'=>∃Wq,qh Wq M'/\Q d Wq} (wz N ds) M) (len:∀ds M Q,sp ds M Q->ds.length=ps.length:=by walk_at "l"):Fq P w K mg base (k+1) fa sp:=UW F S len λ_ _ _ _ _ _ h=>hb h (VO h)
def xV{X:Cx}{scope:Scope}{ix:List (Option Nat)}{N':List Str}(h:GW X.env.scope X.N scope ix N'=true:=by kernel_rfl):rJ X scope ix N':=S7 h
end L3
namespace Z
open PySem PySem.Spec PyProof.Rows L2 L3
def qO(i:Nat):Stmt:=PySem.Challenge.pw_callboard_k42_deeds_at_calls.main.body.getD i (.Pass ⟨0,0,0,0⟩)
abbrev tm(i j:Nat):Stmt:=Nz (qO i) j
def A7:Sc 3 ["board","caller","target","wishes"] (qO 5):=sk
def sL:Sc 3 ["board","caller","target","free","members","place","in_turn"] (qO 6):=sk
def uF:Sc 3 ["board","caller","target","phones"] (qO 7):=sk
def zT:Sc 2 ["wanted","target"] (qO 8):=sk
def vT:Sc 4 ["board","caller","target","way","come_to","steps","fits","wanted"] (qO 9):=sk
def yq:Sc 2 ["board","phone"] (qO 11):=sk
def vX:Sc 3 ["board","phone","target","word"] (qO 12):=sk
def Lz:Sc 3 ["word","phone","calls"] (qO 13):=sk
def sX:Sc 4 ["board","word","phone","numbers","calls","due"] (qO 14):=sk
def yB:Sc 3 ["board","word","number"] (qO 15):=sk
def BO:Sc 2 ["board","deed","word"] (qO 16):=sk
def tE:Sc 3 ["board","number","steps","last","target","fits"] (qO 17):=sk
def uj:Sc 4 ["board","number","target","phones","members","place"] (qO 18):=sk
def xA:Sc 3 ["board","number","target","talk","members"] (qO 19):=sk
def xb:Sc 3 ["board","number","end","word"] (qO 20):=sk
def vR:Sc 2 ["board","number","call","told","end","steps","last"] (qO 21):=sk
def zo:Sc 3 ["board","phone","target","number"] (qO 22):=sk
def Bd:Sc 3 ["board","phone","number","call"] (qO 23):=sk
def ya:Sc 2 ["board","call","wishes"] (qO 24):=sk
def B6:Sc 3 ["board","number","fits","wish"] (qO 25):=sk
def sQ:Sc 1 ["board","number","call","fits"] (qO 26):=sk
def sI:Sc 2 ["board","deed","word","phone","number","call","kept","others"] (qO 27):=sk
def LG:Sc 2 ["board","deed","word"] (qO 28):=sk
def Ha:Sc 2 ["board","deed","word","begun"] (qO 29):=sk
def zI:Sc 1 ["answers"] (qO 31):=sk
def Gf:Sc 2 ["call","word"] (qO 33):=sk
def Cf:Sc 2 ["call","phone"] (qO 34):=sk
def xo:Sc 2 ["call","event","word"] (qO 35):=sk
def Hh:Sc 3 ["board","caller","target"] (qO 38):=sk
def B2:Sc 1 ["told","word"] (qO 49):=sk
def OC:Sc 2 ["holds","words"] (qO 64):=sk
def GR:Sc 1 ["text"] (qO 65):=sk
def CM:Sc 1 ["things"] (qO 66):=sk
def Em:Sc 3 ["chosen","known","most"] (qO 67):=sk
def tJ:Sc 1 ["phones","name","lines","rank"] (qO 68):=sk
def tG:Sc 2 ["groups","phone_names","name","manner","members"] (qO 69):=sk
def CL:Sc 4 ["kind","part","phone_names","names"] (qO 70):=sk
def tz:Sc 3 ["wish","phone_names","names","form","parts","kind","part"] (qO 71):=sk
def uz:Sc 3 ["wishes","phone_names","names","on","wish"] (qO 72):=sk
def vH:Sc 3 ["phones","groups","wishes","phone_names","names"] (qO 73):=sk
def Jl:Sc 2 ["_law_script","_law_k"] (qO 76):=sk
def Fk:Sc 3 ["_law_cell","_law_factor","_law_many"] (qO 77):=sk
def tO:Sc 2 ["_law_seed","_law_which","_law_letters","_law_size","_law_place","_law_rest","_law_letter"] (qO 78):=sk
def xf:Sc 3 ["_law_row","_law_cell","_law_most","_law_first","_law_size"] (qO 79):=sk
def ut:Sc 2 ["_law_seed","_law_most","_law_phones_here","_law_k","_law_lines"] (qO 80):=sk
def ux:Sc 2 ["_law_seed","_law_own","_law_groups_here","_law_g","_law_manner"] (qO 81):=sk
def sP:Sc 3 ["_law_cell","_law_own","_law_names_here","_law_a","_law_place","_law_b","_law_c","_law_pick","_law_first"] (qO 82):=sk
def rO:Sc 2 ["_law_script","_law_most","_law_seed","_law_phones_here","_law_own","_law_groups_here","_law_names_here","_law_wishes","_law_k","_law_cell"] (qO 83):=sk
def Cg:Sc 1 ["_law_call"] (qO 84):=sk
def Ax:Sc 2 ["_law_board","_law_states"] (qO 85):=sk
def qY:Sc 4 ["_law_board","_law_cell","_law_word_here","_law_states","_law_some_here","_law_k","_law_people_here","_law_a","_law_m"] (qO 86):=sk
def ul:Sc 4 ["_law_cell","_law_own","_law_names_here","_law_many","_law_a","_law_b","_law_k","_law_m","_law_some_here"] (qO 87):=sk
def qX:Sc 4 ["_law_board","_law_cell","_law_own","_law_names_here","_law_word_here","_law_states","_law_found","_law_a"] (qO 88):=sk
def vi:Sc 2 ["_law_script","_law_most","_law_phones_here","_law_groups_here","_law_wishes"] (qO 89):=sk
def yM:Sc 1 ["_law_board","_law_own"] (qO 90):=sk
def xq:Sc 2 ["_law_board","_law_deed_here","_law_told","e"] (qO 91):=sk
def Eu:Sc 2 ["_law_call","_law_a"] (qO 92):=sk
def Fj:Sc 3 ["_law_call","_law_a","_law_k"] (qO 93):=sk
def tM:Sc 2 ["_law_board","_law_deed_here","_law_word_here","_law_a","_law_k","_law_call","_law_both"] (qO 94):=sk
def ww:Sc 1 ["_law_script","_law_board","_law_other_here","_law_own","_law_names_here","_law_cell","_law_deed_here","_law_told","_law_event"] (qO 95):=sk
def BC:Sc 2 ["self","word"] (tm 3 0):=sk
def Cm:Sc 3 ["self","plan","hour"] (tm 36 0):=sk
def xD:Sc 2 ["self","event","word"] (tm 36 12):=sk
def ED:Sc 4 ["self","phones","groups","wishes"] (tm 74 0):=sk
def DD:Sc 2 ["self","caller"] (tm 32 0):=sk
def zF:Sc 2 ["self","leg"] (tm 36 10):=sk
def w9:Sc 4 ["self","merged","kept","members","call"] (tm 36 11):=sk
def uO:Sc 1 ["self","call"] (tm 36 9):=sk
def zE:Sc 2 ["self","phone"] (tm 36 3):=sk
def Fw:Sc 2 ["self","told"] (tm 40 0):=sk
def DX:Sc 2 ["self","told"] (tm 41 0):=sk
def Ai:Sc 2 ["self","told"] (tm 42 0):=sk
def CC:Sc 2 ["self","told"] (tm 44 0):=sk
def Bw:Sc 2 ["self","told"] (tm 46 0):=sk
def ET:Sc 2 ["self","told"] (tm 47 0):=sk
def BM:Sc 2 ["self","told"] (tm 48 0):=sk
def yp:Sc 2 ["self","phone"] (tm 32 2):=sk
def xZ:Sc 1 ["self"] (tm 74 2):=sk
def DP:Sc 2 ["self","told"] (tm 39 0):=sk
def CJ:Sc 1 ["self"] (tm 74 1):=sk
def zx:Sc 2 ["self","phone"] (tm 36 2):=sk
def yx:Sc 2 ["self","phone"] (tm 32 5):=sk
def x8:Sc 2 ["self","phone"] (tm 32 4):=sk
def yr:Sc 2 ["self","phone"] (tm 32 8):=sk
def BW:Sc 2 ["self","phone"] (tm 36 4):=sk
def zG:Sc 2 ["self","phone"] (tm 36 5):=sk
def Cr:Sc 2 ["self","phone"] (tm 36 1):=sk
def Cs:Sc 2 ["self","phone"] (tm 74 3):=sk
def wg:Sc 2 ["self","phone"] (tm 32 7):=sk
def Cw:Sc 2 ["self","phone"] (tm 32 6):=sk
def Bv:Sc 2 ["self","call"] (tm 39 4):=sk
def zU:Sc 2 ["self","call"] (tm 46 2):=sk
def EB:Sc 1 ["self"] (tm 39 1):=sk
def CQ:Sc 2 ["self","phone"] (tm 32 3):=sk
def F0:Sc 2 ["self","phone"] (tm 32 1):=sk
def Ec:Sc 1 ["self"] (tm 40 1):=sk
def CA:Sc 1 ["self"] (tm 41 1):=sk
def zH:Sc 1 ["self"] (tm 42 1):=sk
def CP:Sc 1 ["self"] (tm 47 1):=sk
def Au:Sc 1 ["self"] (tm 48 1):=sk
def Gh:Sc 4 ["self","board","caller","target"] (tm 40 2):=sk
def Eg:Sc 4 ["self","board","caller","target"] (tm 41 2):=sk
def BP:Sc 4 ["self","board","caller","target"] (tm 43 0):=sk
def CH:Sc 4 ["self","board","caller","target"] (tm 44 2):=sk
def Ed:Sc 4 ["self","board","caller","target"] (tm 45 0):=sk
def B9:Sc 4 ["self","board","caller","target"] (tm 46 1):=sk
def DR:Sc 4 ["self","board","caller","target"] (tm 47 2):=sk
def uR:Sc 4 ["self","board","caller","target","talk","members"] (tm 48 3):=sk
def B5:Sc 2 ["self","name"] (tm 74 6):=sk
def yL:Sc 2 ["self","name"] (tm 74 5):=sk
def yT:Sc 2 ["self","hour"] (tm 44 1):=sk
def zm:Sc 1 ["self"] (tm 36 8):=sk
def zi:Sc 2 ["self","phone"] (tm 36 6):=sk
def vc:Sc 3 ["self","plan","members","rank"] (tm 48 2):=sk
def zk:Sc 3 ["self","caller","target"] (tm 36 7):=sk
def E8:Sc 2 ["self","phone"] (tm 74 4):=sk
noncomputable def J9:List (Str×List Str):=[("bar",["phone","names"]),("shut",["name","phones"]),("always",["name","name"]),("night",["name","name","hour","hour"]),("busy",["name","name"]),("silent",["name","name","turns"]),("wait",["phone"]),("breaks",["phone"])]
set_option genInjectivity false in
structure Ad where
 (aP aQ aR aS aT Z aU aV aW aX aY aZ a0 a1 a2 aa a3 a4 a5 a6 a7 a8 a9 J L ab ba bb M bc m ac ad N bd be bf bg bh bi O i ae P bj bk bl bm bn bo bp bq br af bs bt ag bu bv ah I ai k aj ak bw bx bz Q al am A an ao ap aq R S E bA T ar U au bB bC bD bE bF av q aw l bG bH ax ay z az aA aB aC aD aE aF aG aH aI aJ V bI bJ bK bL aK aL:FA)
 (e c B r t X w n x u v o h b0 F:Addr)
structure Gl(K:pY)(mg:Str->Option Vl)(a:Ad):Prop where
 e:CG K mg "Call" a.e
 c:CG K mg "Board" a.c
 B:CG K mg "Wish" a.B
 r:CG K mg "Bar" a.r
 t:CG K mg "Shut" a.t
 X:CG K mg "Forward" a.X
 w:CG K mg "Always" a.w
 n:CG K mg "Night" a.n
 x:CG K mg "Busy" a.x
 u:CG K mg "Silent" a.u
 v:CG K mg "Wait" a.v
 o:CG K mg "Breaks" a.o
 h:CG K mg "Plan" a.h
 cS:mg "CallError"=some (.ref a.b0)
 bU:mg "NoDeed"=some (.ref a.F)
 aP:TG K mg (qO 5) "fitting" ["board","caller","target"] a.aP
 aQ:TG K mg (qO 6) "rung_phones" ["board","caller","target"] a.aQ
 aR:TG K mg (qO 7) "end_without_wish" ["board","caller","target"] a.aR
 aS:TG K mg (qO 8) "end_as_wanted" ["wanted","target"] a.aS
 aT:TG K mg (qO 9) "route" ["board","caller","target","way"] a.aT
 Z:TG K mg (qO 11) "word_for_idling" ["board","phone"] a.Z
 aU:TG K mg (qO 12) "word_for_call" ["board","phone","target"] a.aU
 aV:TG K mg (qO 13) "suits" ["word","phone","calls"] a.aV
 aW:TG K mg (qO 14) "word_for_numbers" ["board","word","phone","numbers"] a.aW
 aX:TG K mg (qO 15) "word_for_switch" ["board","word","number"] a.aX
 aY:TG K mg (qO 16) "refusal" ["board","deed"] a.aY
 aZ:TG K mg (qO 17) "take_steps" ["board","number","steps"] a.aZ
 a0:TG K mg (qO 18) "start_ringing" ["board","number","target","phones"] a.a0
 a1:TG K mg (qO 19) "break_in" ["board","number","target"] a.a1
 a2:TG K mg (qO 20) "come_to_end" ["board","number","end"] a.a2
 aa:TG K mg (qO 21) "go_on" ["board","number"] a.aa
 a3:TG K mg (qO 22) "make_call" ["board","phone","target"] a.a3
 a4:TG K mg (qO 23) "hang_up" ["board","phone","number"] a.a4
 a5:TG K mg (qO 24) "due_wishes" ["board","call"] a.a5
 a6:TG K mg (qO 25) "send_on" ["board","number","fits"] a.a6
 a7:TG K mg (qO 26) "let_turn_pass" ["board"] a.a7
 a8:TG K mg (qO 27) "event_of" ["board","deed"] a.a8
 a9:TG K mg (qO 28) "act" ["board","deed"] a.a9
 J:TG K mg (qO 29) "do" ["board","deed"] a.J
 L:TG K mg (qO 31) "place_of_true" ["answers"] a.L
 ab:TG K mg (qO 33) "end_call" ["call","word"] a.ab
 ba:TG K mg (qO 34) "drop_phone" ["call","phone"] a.ba
 bb:TG K mg (qO 35) "change_call" ["call","event"] a.bb
 M:TG K mg (qO 38) "is_busy" ["board","caller","target"] a.M
 bc:TG K mg (qO 49) "wish_of" ["told"] a.bc
 m:TG K mg (qO 64) "need" ["holds","words"] a.m
 ac:TG K mg (qO 65) "is_name" ["text"] a.ac
 ad:TG K mg (qO 66) "all_unlike" ["things"] a.ad
 N:TG K mg (qO 67) "is_choice" ["chosen","known","most"] a.N
 bd:TG K mg (qO 68) "check_phones" ["phones"] a.bd
 be:TG K mg (qO 69) "check_groups" ["groups","phone_names"] a.be
 bf:TG K mg (qO 70) "part_holds" ["kind","part","phone_names","names"] a.bf
 bg:TG K mg (qO 71) "check_wish" ["wish","phone_names","names"] a.bg
 bh:TG K mg (qO 72) "check_wishes" ["wishes","phone_names","names"] a.bh
 bi:TG K mg (qO 73) "check_plan" ["phones","groups","wishes"] a.bi
 O:TG K mg (qO 76) "_law_at" ["_law_script","_law_k"] a.O
 i:TG K mg (qO 77) "_law_draw" ["_law_cell","_law_factor","_law_many"] a.i
 ae:TG K mg (qO 78) "_law_word" ["_law_seed","_law_which"] a.ae
 P:TG K mg (qO 79) "_law_some" ["_law_row","_law_cell","_law_most"] a.P
 bj:TG K mg (qO 80) "_law_phones" ["_law_seed","_law_most"] a.bj
 bk:TG K mg (qO 81) "_law_groups" ["_law_seed","_law_own"] a.bk
 bl:TG K mg (qO 82) "_law_wish" ["_law_cell","_law_own","_law_names_here"] a.bl
 bm:TG K mg (qO 83) "_law_plan" ["_law_script","_law_most"] a.bm
 bn:TG K mg (qO 84) "_law_people" ["_law_call"] a.bn
 bo:TG K mg (qO 85) "_law_of_state" ["_law_board","_law_states"] a.bo
 bp:TG K mg (qO 86) "_law_on_call" ["_law_board","_law_cell","_law_word_here","_law_states"] a.bp
 bq:TG K mg (qO 87) "_law_any" ["_law_cell","_law_own","_law_names_here","_law_many"] a.bq
 br:TG K mg (qO 88) "_law_deed" ["_law_board","_law_cell","_law_own","_law_names_here"] a.br
 af:TG K mg (qO 89) "_law_made" ["_law_script","_law_most"] a.af
 bs:TG K mg (qO 90) "_law_names" ["_law_board"] a.bs
 bt:TG K mg (qO 91) "_law_done" ["_law_board","_law_deed_here"] a.bt
 ag:TG K mg (qO 92) "_law_other" ["_law_call","_law_a"] a.ag
 bu:TG K mg (qO 93) "_law_hang" ["_law_call","_law_a","_law_k"] a.bu
 bv:TG K mg (qO 94) "_law_due" ["_law_board","_law_deed_here"] a.bv
 ah:TG K mg (qO 95) "law" ["_law_script"] a.ah
 I:MG K a.F (tm 3 0) "__init__" "NoDeed.__init__" ["self","word"] a.I
 ai:MG K a.c (tm 36 0) "__init__" "Board.__init__" ["self","plan","hour"] a.ai
 k:MG K a.c (tm 36 12) "apply" "Board.apply" ["self","event"] a.k
 aj:MG K a.h (tm 74 0) "__init__" "Plan.__init__" ["self","phones","groups","wishes"] a.aj
 ak:MG K a.e (tm 32 0) "__init__" "Call.__init__" ["self","caller"] a.ak
 bw:MG K a.c (tm 36 10) "add_leg" "Board.add_leg" ["self","leg"] a.bw
 bx:MG K a.c (tm 36 11) "merge" "Board.merge" ["self","merged","kept","members"] a.bx
 bz:MG K a.c (tm 36 9) "pass_turn" "Board.pass_turn" ["self"] a.bz
 Q:MG K a.c (tm 36 3) "talk_of" "Board.talk_of" ["self","phone"] a.Q
 al:MG K a.r (tm 40 0) "__init__" "Bar.__init__" ["self","told"] a.al
 am:MG K a.t (tm 41 0) "__init__" "Shut.__init__" ["self","told"] a.am
 A:MG K a.X (tm 42 0) "__init__" "Forward.__init__" ["self","told"] a.A
 an:MG K a.n (tm 44 0) "__init__" "Night.__init__" ["self","told"] a.an
 ao:MG K a.u (tm 46 0) "__init__" "Silent.__init__" ["self","told"] a.ao
 ap:MG K a.v (tm 47 0) "__init__" "Wait.__init__" ["self","told"] a.ap
 aq:MG K a.o (tm 48 0) "__init__" "Breaks.__init__" ["self","told"] a.aq
 R:MG K a.e (tm 32 2) "talks_with" "Call.talks_with" ["self","phone"] a.R
 S:MG K a.h (tm 74 2) "phone_names" "Plan.phone_names" ["self"] a.S
 E:MG K a.B (tm 39 0) "__init__" "Wish.__init__" ["self","told"] a.E
 bA:MG K a.h (tm 74 1) "names" "Plan.names" ["self"] a.bA
 T:MG K a.c (tm 36 2) "is_free" "Board.is_free" ["self","phone"] a.T
 ar:MG K a.e (tm 32 5) "waits_with" "Call.waits_with" ["self","phone"] a.ar
 U:MG K a.e (tm 32 4) "is_tried_by" "Call.is_tried_by" ["self","phone"] a.U
 au:MG K a.e (tm 32 8) "other_than" "Call.other_than" ["self","phone"] a.au
 bB:MG K a.c (tm 36 4) "bound" "Board.bound" ["self","phone"] a.bB
 bC:MG K a.c (tm 36 5) "calling" "Board.calling" ["self","phone"] a.bC
 bD:MG K a.c (tm 36 1) "used" "Board.used" ["self","phone"] a.bD
 bE:MG K a.h (tm 74 3) "lines" "Plan.lines" ["self","phone"] a.bE
 bF:MG K a.e (tm 32 7) "can_be_left_by" "Call.can_be_left_by" ["self","phone"] a.bF
 av:MG K a.e (tm 32 6) "pairs" "Call.pairs" ["self","phone"] a.av
 q:MG K a.B (tm 39 4) "is_due" "Wish.is_due" ["self","call"] a.q
 aw:MG K a.u (tm 46 2) "is_due" "Silent.is_due" ["self","call"] a.aw
 l:MG K a.B (tm 39 1) "told" "Wish.told" ["self"] a.l
 bG:MG K a.e (tm 32 3) "binds" "Call.binds" ["self","phone"] a.bG
 bH:MG K a.e (tm 32 1) "has" "Call.has" ["self","phone"] a.bH
 ax:MG K a.r (tm 40 1) "wants" "Bar.wants" ["self"] a.ax
 ay:MG K a.t (tm 41 1) "wants" "Shut.wants" ["self"] a.ay
 z:MG K a.X (tm 42 1) "wants" "Forward.wants" ["self"] a.z
 az:MG K a.v (tm 47 1) "wants" "Wait.wants" ["self"] a.az
 aA:MG K a.o (tm 48 1) "wants" "Breaks.wants" ["self"] a.aA
 aB:MG K a.r (tm 40 2) "fits" "Bar.fits" ["self","board","caller","target"] a.aB
 aC:MG K a.t (tm 41 2) "fits" "Shut.fits" ["self","board","caller","target"] a.aC
 aD:MG K a.w (tm 43 0) "fits" "Always.fits" ["self","board","caller","target"] a.aD
 aE:MG K a.n (tm 44 2) "fits" "Night.fits" ["self","board","caller","target"] a.aE
 aF:MG K a.x (tm 45 0) "fits" "Busy.fits" ["self","board","caller","target"] a.aF
 aG:MG K a.u (tm 46 1) "fits" "Silent.fits" ["self","board","caller","target"] a.aG
 aH:MG K a.v (tm 47 2) "fits" "Wait.fits" ["self","board","caller","target"] a.aH
 aI:MG K a.o (tm 48 3) "fits" "Breaks.fits" ["self","board","caller","target"] a.aI
 aJ:MG K a.h (tm 74 6) "manner" "Plan.manner" ["self","name"] a.aJ
 V:MG K a.h (tm 74 5) "phones_of" "Plan.phones_of" ["self","name"] a.V
 bI:MG K a.n (tm 44 1) "has_hour" "Night.has_hour" ["self","hour"] a.bI
 bJ:MG K a.c (tm 36 8) "hour_now" "Board.hour_now" ["self"] a.bJ
 bK:MG K a.c (tm 36 6) "waits_at" "Board.waits_at" ["self","phone"] a.bK
 bL:MG K a.o (tm 48 2) "outranks" "Breaks.outranks" ["self","plan","members"] a.bL
 aK:MG K a.c (tm 36 7) "ringable" "Board.ringable" ["self","caller","target"] a.aK
 aL:MG K a.h (tm 74 4) "rank" "Plan.rank" ["self","phone"] a.aL
 b1:IL K a.F a.I.f
 b2:yi K a.F "word"
 b3:Od K a.F "word"
 b4:W.exmOne K (.ref a.F) (.ref a.F)=some true
 b5:Mk K a.c a.ai.f
 b6:Mk K a.h a.aj.f
 b7:Mk K a.e a.ak.f
 b8:Mk K a.r a.al.f
 b9:Mk K a.t a.am.f
 ca:Mk K a.w a.A.f
 cb:Mk K a.n a.an.f
 cc:Mk K a.x a.A.f
 cd:Mk K a.u a.ao.f
 ce:Mk K a.v a.ap.f
 cf:Mk K a.o a.aq.f
 cg:vf K a.r "is_due" a.q.f
 ch:vf K a.t "is_due" a.q.f
 ci:vf K a.w "is_due" a.q.f
 cj:vf K a.n "is_due" a.q.f
 ck:vf K a.x "is_due" a.q.f
 cl:vf K a.v "is_due" a.q.f
 cm:vf K a.o "is_due" a.q.f
 cn:vf K a.r "told" a.l.f
 co:vf K a.t "told" a.l.f
 cp:vf K a.w "told" a.l.f
 cq:vf K a.n "told" a.l.f
 cr:vf K a.x "told" a.l.f
 cs:vf K a.u "told" a.l.f
 ct:vf K a.v "told" a.l.f
 cu:vf K a.o "told" a.l.f
 cv:vf K a.w "wants" a.z.f
 cw:vf K a.n "wants" a.z.f
 cx:vf K a.x "wants" a.z.f
 cy:vf K a.u "wants" a.z.f
 aM:KY K a.B "__init__" a.E.f
 bV:KY K a.X "__init__" a.A.f
 C:yV K a.c ["plan","hour","turn","calls","legs","nexts","on","log"]
 Y:yV K a.h ["phones","groups","wishes","on","phone_rows","group_rows"]
 j:yV K a.e ["state","caller","way","at","members","holder","since","word"]
 bO:yV K a.r ["form","phone","targets"]
 bP:yV K a.t ["form","target","callers"]
 bQ:yV K a.w ["form","target","goal"]
 aN:yV K a.n ["form","target","goal","first","last"]
 bR:yV K a.x ["form","target","goal"]
 bM:yV K a.u ["form","target","goal","turns"]
 bW:yV K a.v ["form","phone"]
 bX:yV K a.o ["form","phone"]
 cz:W.kitOne K (.type "str") (.type "str")=some true
 cA:W.kitOne K (.type "list") (.type "str")=some false
 cB:mg "isinstance"=none
 cC:mg "str"=none
 g:mg "len"=none
 H:mg "tuple"=none
 aO:mg "range"=none
 bS:mg "dict"=none
 y:mg "list"=none
 cD:mg "min"=none
 cE:mg "set"=none
 bN:mg "all"=none
 bT:mg "enumerate"=none
 cF:mg "zip"=none
 cG:mg "any"=none
 cH:KD K mg "MOST_PHONES" (.int 8)
 cI:KD K mg "MOST_LINES" (.int 3)
 cJ:KD K mg "MOST_RANK" (.int 9)
 cK:KD K mg "MOST_GROUPS" (.int 3)
 cL:KD K mg "MANNERS" (.tup ((["all","turns"]:List Str).map D.str))
 cM:KD K mg "MOST_MEMBERS" (.int 4)
 cN:KD K mg "MOST_WISHES" (.int 16)
 cO:KD K mg "MOST_SIGNS" (.int 6)
 cP:KD K mg "LETTERS" (.str "abcdefghijklmnopqrstuvwxyz")
 bY:L8 K mg "FORMS" J9
 bZ:KD K mg "MOST_LISTED" (.int 6)
 cQ:KD K mg "LAST_HOUR" (.int 23)
 cR:KD K mg "MOST_TURNS" (.int 9)
noncomputable def draw(c f m:Int):Int:=(c % 2147483647+5)*f % 2147483629 / 89 % m
def qJ{c f m:Int}(h:0<m):0<=draw c f m:=eQ _ (by omega)
def qC{c f m:Int}(h:0<m):draw c f m<m:=eN _ h
def Iv:qT:=λds M Q=>CN λc f m=>ds=[.int c,.int f,.int m]/\0<m/\Q (.int (draw c f m)) M
noncomputable def ub:Str:="abcdefghijklmnopqrstuvwxyz"
noncomputable def tN(i:Int):Str:=⟨#[97+i.toNat]⟩
noncomputable def size(s:Int):Int:=1+s % 6
noncomputable def uf(s:Int):Int:=s / 6 % size s
noncomputable def xw(s v:Int):Str:=yt (tN (s / 36 % 26)) (uf s)++tN ((s / 936+v) % 26)++yt (tN (s / 36 % 26)) (size s - 1 - uf s)
def PL:qT:=λds M Q=>B8 λs v=>ds=[.int s,.int v]/\Q (.str (xw s v)) M
noncomputable def cell(ns:List Int)(i:Int):Int:=if 0<=i/\i<ns.length then ns.getD i.toNat 0 else 0
def T5:qT:=λds M Q=>B8 λns i=>ds=[.rl (ns.map D.int),.int i]/\Q (.int (cell ns i)) M
def Gk(c:Int):0<size c:=by unfold size;have:=eQ c (show(6:Int)≠0 by decide);omega
def HL(c:Int):size c<=6:=by unfold size;have:=eN c (show(0:Int)<6 by decide);omega
def Fo(i n:Int):(yt (tN i) n).length=n.toNat:=by show((List.replicate n.toNat (tN i).cps).foldl (·++·) #[]:Array Nat).size=n.toNat;rw[Iy];show n.toNat*1=n.toNat;omega
def zX:ub.length<=sizeLine:=by decide+kernel
variable {P:Pg}{w:Wo}{K:pY}{mg:Str→Option Vl}{base:Heap}{a:Ad}
def qA(G:Gl K mg a):Fq P w K mg base 1 a.i Iv:=by
 refine fq G.i.toDG Fk (λr u=>⟨_,(oS (oY (pM (pM (pM (pM (pM (pM v0 oU) oU) U1) oU) oU) U2))),?_⟩)
 rintro ds M Q ⟨c,f,m,rfl,hm,q⟩
 refine⟨by decide,.inl ?_,by decide,⟨by decide,by decide⟩,hm,M,.refl,q⟩;have h1:0<=c % 2147483647:=eQ _ (by decide);have h2:c % 2147483647<2147483647:=eN _ (by decide);exact⟨by omega,by omega⟩
def Dh{i:Int}(h0:0<=i)(h1:i<26):vY ub.cps.toList i=some (97+i.toNat):=by
 obtain⟨n,rfl⟩:=eh h0;have hn:n<26:=by omega
 have key:∀n:_root_.Fin 26,vY ub.cps.toList ((n.val:Nat):Int)=some (97+n.val):=by decide+kernel
 exact key ⟨n,hn⟩
def HV(G:Gl K mg a):Fq P w K mg base 1 a.ae PL:=by
 refine fq G.ae.toDG tO (λr u=>⟨_,(oQ (pB 2 tO oV)
 (oQ (pB 3 tO (pM oU (pM v0 oU)))
 (oQ (pB 4 tO (pM (pM v0 oU) U3))
 (oQ (pB 5 tO (pz U2 (pM (pM v0 oU) oU)))
 (oQ (pB 6 tO (pz U2 (pM (pM (pM v0 oU) U1) oU)))
 (oS (oY (pM (pM (pM v5 v4) v6) (pM v5 (pM (pM U3 oU) v4)))))))))),?_⟩)
 rintro ds M Q ⟨c,v,rfl,q⟩
 have hs:=Gk c;have hs6:=HL c;have hp0:0<=uf c:=eQ _ (by omega);have Yo:uf c<size c:=eN _ hs;have l1:=Fo (c / 36 % 26) (uf c);have l2:=Fo (c / 36 % 26) (size c - 1 - uf c);have hz:=dM;refine⟨by decide,⟨by decide,by decide⟩,hs,⟨by decide,by decide⟩,by decide,zX,i' (Dh (eQ _ (by decide)) (eN _ (by decide))) ?_⟩;refine⟨⟨by decide,by decide⟩,by decide,zX,i' (Dh (eQ _ (by decide)) (eN _ (by decide))) ?_⟩;refine⟨⟨?_,?_,?_⟩,?_,⟨?_,?_,?_⟩,?_,M,.refl,q⟩
 .show uf c<4096;omega
 .show -4096<uf c;omega
 .show(1:Nat)<4096;decide
 .show(yt (tN (c / 36 % 26)) (uf c)).length+1<=sizeLine;omega
 .show size c - 1 - uf c<4096;omega
 .show -4096<size c - 1 - uf c;omega
 .show(1:Nat)<4096;decide
 .show(yt (tN (c / 36 % 26)) (uf c)++tN ((c / 936+v) % 26)).length+(yt (tN (c / 36 % 26)) (size c - 1 - uf c)).length<=sizeLine;rw[PySem.size_cat];have:(tN ((c / 936+v) % 26)).length=1:=rfl;omega
def Ly(G:Gl K mg a):Fq P w K mg base 1 a.O T5:=by
 refine fq G.O.toDG Jl (λr u=>⟨_,(oQ (pE (FS u oU U1 (pH qk rfl G.g qc (pT v0)))
 (oS (oY (pz v0 U1)))
 pk)
 (oS (oY oU))),?_⟩)
 rintro ds M Q ⟨ns,i,rfl,q⟩
 refine qr (λh0=>?_) (λh0=>?_)
 .have h0:0<=i:=fP h0;refine qr (λh1=>?_) (λh1=>?_)
  .have h1:i<((ns.map D.int).length:Int):=fP h1;rw[cT]at h1;have hi:i.toNat<ns.length:=by omega
   have e:vY (ns.map D.int) i=some (D.int (ns.getD i.toNat 0)):=by
    obtain⟨n,rfl⟩:=eh h0;have hn:n<ns.length:=by omega
    refine uJ ?_;rw[dA,cW hn];simp[hn]
   refine i' e ⟨M,.refl,?_⟩;have:cell ns i=ns.getD i.toNat 0:=by unfold cell;rw[c9 ⟨h0,h1⟩]
   rw[<-this];exact q
  .have h1:¬i<((ns.map D.int).length:Int):=λz=>h1 (dR z);rw[cT]at h1;refine⟨M,.refl,?_⟩;have:cell ns i=0:=by unfold cell;rw[cY (λz=>h1 z.2)]
   rw[<-this];exact q
 .have h0:¬0<=i:=λz=>h0 (dR z);refine⟨M,.refl,?_⟩;have:cell ns i=0:=by unfold cell;rw[cY (λz=>h0 z.1)]
  rw[<-this];exact q
inductive Wi where
 | bar (x:Str) (ns:List Str)|shut (x:Str) (ns:List Str)|always (x y:Str)|night (x y:Str) (f l:Int)|busy (x y:Str)|silent (x y:Str) (n:Int)|wait (x:Str)|breaks (x:Str)
abbrev names(ns:List Str):D:=.tup (ns.map D.str)
noncomputable def Wi.told:Wi->List D
 | .bar x ns=>[.str "bar",.str x,names ns]
 | .shut x ns=>[.str "shut",.str x,names ns]
 | .always x y=>[.str "always",.str x,.str y]
 | .night x y f l=>[.str "night",.str x,.str y,.int f,.int l]
 | .busy x y=>[.str "busy",.str x,.str y]
 | .silent x y n=>[.str "silent",.str x,.str y,.int n]
 | .wait x=>[.str "wait",.str x]
 | .breaks x=>[.str "breaks",.str x]
noncomputable def Wi.cls(a:Ad):Wi->Addr
 | .bar _ _=>a.r
 | .shut _ _=>a.t
 | .always _ _=>a.w
 | .night _ _ _ _=>a.n
 | .busy _ _=>a.x
 | .silent _ _ _=>a.u
 | .wait _=>a.v
 | .breaks _=>a.o
noncomputable def Wi.more:Wi->List (Str×D)
 | .bar x ns=>[("phone",.str x),("targets",names ns)]
 | .shut x ns=>[("target",.str x),("callers",names ns)]
 | .always x y=>[("target",.str x),("goal",.str y)]
 | .night x y f l=>[("target",.str x),("goal",.str y),("first",.int f),("last",.int l)]
 | .busy x y=>[("target",.str x),("goal",.str y)]
 | .silent x y n=>[("target",.str x),("goal",.str y),("turns",.int n)]
 | .wait x=>[("phone",.str x)]
 | .breaks x=>[("phone",.str x)]
noncomputable def Wi.nv(v:Wi):List (Str×D):=("form",.tup v.told)::v.more
abbrev B7(ns:List Str)(i:Int):Str:=ns.getD i.toNat Str.empty
noncomputable def wM(row:List Str)(c m:Int):Nat:=(1+draw c 40692 (if (row.length:Int)<m then(row.length:Int)else m)).toNat
noncomputable def Ta(row:List Str)(c:Int)(j:Nat):Str:=B7 row ((draw c 69621 row.length+(0+(j:Nat))) % row.length)
noncomputable def vn(row:List Str)(c m:Int):List Str:=(List.range (wM row c m)).map (Ta row c)
def PN:qT:=λds M Q=>AU λr c m row=>ds=[.ref r,.int c,.int m]/\oy M r=some (row.map D.str)/\row≠[]/\0<m/\row.length<=64/\Q (names (vn row c m)) M
def IU{row:List Str}(h:row≠[])(x:Int):vY (row.map D.str) (x % row.length)=some (D.str (B7 row (x % row.length))):=by
 have hl:0<row.length:=fA.mpr h;have h0:0<=x % row.length:=eQ _ (by omega);have h1:x % row.length<row.length:=eN _ (by omega);obtain⟨n,hn⟩:=eh h0;rw[hn]at h1 ⊢;have XU:n<row.length:=by omega
 refine uJ ?_;rw[dA,cW XU];simp[B7,XU]
def xH(G:Gl K mg a):Fq P w K mg base 2 a.P PN:=by
 refine fq G.P.toDG xf (λr u=>⟨_,(oQ (pB 3 xf (pq (qA G) r G.i (qN U1 oU (pH qk rfl G.g qc (pT v0)))))
 (oQ (pB 4 xf (pM oU (pq (qA G) r G.i (qN U1 oU (pH (RD rfl) rfl G.cD RK (rB U2 (pH qk rfl G.g qc (pT v0))))))))
 (oS (oY (qg tS rfl G.H tW (pT (qw rfl (xV (ix:=[none,some 0,some 3]) (N':=["_law_j","_law_row","_law_first"])) (vO rfl G.aO (pT v4)) (qu 0) rC (pz U1 (pM (pM U2 v0) (pH qk rfl G.g qc (pT U1))))))))))),?_⟩)
 rintro ds M Q ⟨r,c,m,row,rfl,hl,WK,hm,h64,q⟩
 have Wr:0<row.length:=fA.mpr WK;have hz:=dM;have el:((row.map D.str).length:Int)=row.length:=by rw[cT]
 refine i' hl ⟨c,69621,_,rfl,by rw[el];omega,?_⟩;refine i' hl ⟨c,40692,_,rfl,by rw[el];split<;>omega,?_⟩;rw[el];have d0:=qJ (c:=c) (f:=40692) (m:=if (row.length:Int)<m then(row.length:Int)else m) (by split<;>omega);have d1:=qC (c:=c) (f:=40692) (m:=if (row.length:Int)<m then(row.length:Int)else m) (by split<;>omega);have d2:draw c 40692 (if (row.length:Int)<m then(row.length:Int)else m)<row.length+1:=by refine Int.lt_of_lt_of_le d1 ?_;split<;>omega
 refine⟨rfl,⟨?_,?_⟩,qM (f:=λd=>match d with|.int j=>D.str (B7 row ((draw c 69621 row.length+j) % row.length))|_=>.mC) trivial _ [] _ ?_ (λd hd k hk=>?_) λp hp=>?_⟩
 .show -(2 ^ 62)<=1+draw c 40692 (if (row.length:Int)<m then(row.length:Int)else m);omega
 .show 1+draw c 40692 (if (row.length:Int)<m then(row.length:Int)else m)<2 ^ 62;omega
 .rw[cT,eD];show 0+wM row c m<=sizeLine;unfold wM;omega
 .obtain⟨j,_,rfl⟩:=dz.mp hd;refine i' hl ⟨by rw[el];omega,i' hl ?_⟩;rw[el];exact i' (IU WK _) hk
 .refine i' (x:=(vn row c m).map D.str) ?_ ⟨M,.new hp,q⟩;unfold oy;rw[pG];show some ([]++((List.range (wM row c m)).map λi=>D.int (0+(i:Nat))).map _)=_;rw[dX,d9];unfold vn;rw[d9];rfl
noncomputable def vS(c:Int)(own all:List Str):Wi:=
 let x:=B7 own (draw c 16807 own.length);let pl:=draw c 39373 all.length;let y:=B7 all pl;let z:=B7 all ((pl+1+draw c 742938285 ((all.length:Int) - 1)) % all.length);let k:=draw c 1226874159 12
 if k=0 then .bar x (vn all c 3)
 else if k=1 then .shut y (vn own c 3)
 else if k=2 then .always y z
 else if k<5 then .night y z (draw c 22695477 24) ((draw c 22695477 24+1+draw c 48271 23) % 24)
 else if k<7 then .busy y z
 else if k<9 then .silent y z ([1,1,2,3,9].getD (draw c 950706376 5).toNat 0)
 else if k=9 then .wait x
 else .breaks x
def Ol:qT:=λds M Q=>GC λc o n own all=>ds=[.int c,.ref o,.ref n]/\oy M o=some (own.map D.str)/\oy M n=some (all.map D.str)/\own≠[]/\2<=all.length/\own.length<=64/\all.length<=64/\Q (.tup (vS c own all).told) M
def G6{row:List Str}{x:Int}(h0:0<=x)(h1:x<row.length):vY (row.map D.str) x=some (D.str (B7 row x)):=by
 obtain⟨n,rfl⟩:=eh h0;have XU:n<row.length:=by omega
 refine uJ ?_;rw[dA,cW XU];simp[B7,XU]
def Nt(G:Gl K mg a):Fq P w K mg base 3 a.bl Ol:=by
 refine fq G.bl.toDG sP (λr u=>⟨_,(oQ (pB 3 sP (pz U1 (pq (qA G) r G.i (qN v0 oU (pH qk rfl G.g qc (pT U1))))))
 (oQ (pB 4 sP (pq (qA G) r G.i (qN v0 oU (pH qk rfl G.g qc (pT U2)))))
 (oQ (pB 5 sP (pz U2 v4))
 (oQ (pB 6 sP (pz U2 (pM (pM (pM v4 oU) (pq (qA G) r G.i (qN v0 oU (pM (pH qk rfl G.g qc (pT U2)) oU)))) (pH qk rfl G.g qc (pT U2)))))
 (oQ (pB 7 sP (pq (qA G) r G.i (qN v0 oU oU)))
 (oQ (pE (pb u v7 oU)
 (oS (oY (pC (qN oV U3 (pq (xH G) r G.P (qN U2 v0 oU))))))
 pk)
 (oQ (pE (pb u v7 oU)
 (oS (oY (pC (qN oV v5 (pq (xH G) r G.P (qN U1 v0 oU))))))
 pk)
 (oQ (pE (pb u v7 oU)
 (oS (oY (pC (qN oV v5 v6))))
 pk)
 (oQ (pE (pb u v7 oU)
 (oQ (pB 8 sP (pq (qA G) r G.i (qN v0 oU oU)))
 (oS (oY (pC (pN oV (pN v5 (qN v6 v8 (pM (pM (pM v8 oU) (pq (qA G) r G.i (qN v0 oU oU))) oU))))))))
 pk)
 (oQ (pE (pb u v7 oU)
 (oS (oY (pC (qN oV v5 v6))))
 pk)
 (oQ (pE (pb u v7 oU)
 (oS (oY (pC (pN oV (qN v5 v6 (pz (pC (pN oU (pN oU (qN oU oU oU)))) (pq (qA G) r G.i (qN v0 oU oU))))))))
 pk)
 (oQ (pE (pb u v7 oU)
 (oS (oY (pC (rB oV U3))))
 pk)
 (oS (oY (pC (rB oV U3)))))))))))))))),?_⟩)
 rintro ds M Q ⟨c,o,n,own,all,rfl,ho,hn,WK,h2,l1,l2,q⟩
 have Wr:0<own.length:=fA.mpr WK;have hne2:all≠[]:=λz=>by rw[z]at h2;simp at h2
 have e1:((own.map D.str).length:Int)=own.length:=by rw[cT]
 have e2:((all.map D.str).length:Int)=all.length:=by rw[cT]
 have p1:(0:Int)<own.length:=by omega
 have p2:(0:Int)<all.length:=by omega
 have p3:(0:Int)<(all.length:Int) - 1:=by omega
 refine i' ho ⟨c,_,_,rfl,by rw[e1];exact p1,?_⟩;rw[e1];refine i' ho (i' (G6 (qJ p1) (qC p1)) ?_);refine i' hn ⟨c,_,_,rfl,by rw[e2];exact p2,?_⟩;rw[e2];refine i' hn (i' (G6 (qJ p2) (qC p2)) ?_);refine i' hn ⟨c,_,_,rfl,by rw[e2];exact p3,?_⟩;rw[e2];refine i' hn ⟨by rw[e2];exact p2,?_⟩;rw[e2];refine i' hn (i' (IU hne2 _) ?_);refine⟨c,_,_,rfl,by decide,?_⟩;have Wp:∀t:List D,(vS c own all).told=t->∃Wq,qh Wq M/\Q (.tup t) Wq:=λt e=>⟨M,.refl,e ▸ q⟩;have k0:0<=draw c 1226874159 12:=qJ (by decide);refine qr (λh=>?_) (λh=>?_)
 .have h:draw c 1226874159 12=0:=by simpa using h
  refine⟨n,c,3,all,rfl,hn,hne2,by decide,l2,oO rfl,Wp _ ?_⟩;simp only[vS,c9 h,Wi.told]
 have h:¬draw c 1226874159 12=0:=by simpa using h
 refine qr (λg=>?_) (λg=>?_)
 .have g:draw c 1226874159 12=1:=by simpa using g
  refine⟨o,c,3,own,rfl,ho,WK,by decide,l1,oO rfl,Wp _ ?_⟩;simp only[vS,cY h,c9 g,Wi.told]
 have g:¬draw c 1226874159 12=1:=by simpa using g
 refine qr (λi=>?_) (λi=>?_)
 .have i:draw c 1226874159 12=2:=by simpa using i
  refine⟨oO rfl,Wp _ ?_⟩;simp only[vS,cY h,cY g,c9 i,Wi.told]
 have i:¬draw c 1226874159 12=2:=by simpa using i
 refine qr (λj=>?_) (λj=>?_)
 .have j:draw c 1226874159 12<5:=fP j;refine⟨c,_,_,rfl,by decide,c,_,_,rfl,by decide,by decide,oO rfl,Wp _ ?_⟩;simp only[vS,cY h,cY g,cY i,c9 j,Wi.told]
 have j:¬draw c 1226874159 12<5:=λz=>j (dR z);refine qr (λl=>?_) (λl=>?_)
 .have l:draw c 1226874159 12<7:=fP l;refine⟨oO rfl,Wp _ ?_⟩;simp only[vS,cY h,cY g,cY i,cY j,c9 l,Wi.told]
 have l:¬draw c 1226874159 12<7:=λz=>l (dR z);refine qr (λm=>?_) (λm=>?_)
 .have m:draw c 1226874159 12<9:=fP m;have d0:0<=draw c 950706376 5:=qJ (by decide);have d1:draw c 950706376 5<5:=qC (by decide);have e:vY [D.int 1,.int 1,.int 2,.int 3,.int 9] (draw c 950706376 5)=some (D.int ([1,1,2,3,9].getD (draw c 950706376 5).toNat 0)):=by
   obtain⟨t,ht⟩:=eh d0;rw[ht]at d1 ⊢;have:t<5:=by omega
   match t,this with
   | 0,_=>rfl
   | 1,_=>rfl
   | 2,_=>rfl
   | 3,_=>rfl
   | 4,_=>rfl
  refine⟨oO rfl,c,_,_,rfl,by decide,i' e ⟨oO rfl,Wp _ ?_⟩⟩;simp only[vS,cY h,cY g,cY i,cY j,cY l,c9 m,Wi.told]
 have m:¬draw c 1226874159 12<9:=λz=>m (dR z);refine qr (λr=>?_) (λr=>?_)
 .have r:draw c 1226874159 12=9:=by simpa using r
  refine⟨oO rfl,Wp _ ?_⟩;simp only[vS,cY h,cY g,cY i,cY j,cY l,cY m,c9 r,Wi.told]
 have r:¬draw c 1226874159 12=9:=by simpa using r
 refine⟨oO rfl,Wp _ ?_⟩;simp only[vS,cY h,cY g,cY i,cY j,cY l,cY m,cY r,Wi.told]
def Kw(K:pY):qT:=λds M Q=>CN λp d C=>ds=[.ref p,d]/\M p=some (.ins C [])/\tL K C "form"/\Q .mC (oZ M p (.ins C [("form",d)]))
def MK(K:pY):qT:=λds M Q=>GC λp t x y C=>ds=[.ref p,.tup t]/\vY t 1=some x/\vY t 2=some y/\M p=some (.ins C [])/\tL K C "form"/\tL K C "target"/\tL K C "goal"/\Q .mC (oZ M p (.ins C [("form",.tup t),("target",x),("goal",y)]))
def xK(a:Ad)(k:Wi->Prop):qT:=λds M Q=>B8 λp v=>ds=[.ref p,.tup (Wi.told v)]/\k v/\M p=some (.ins (v.cls a) [])/\Q .mC (oZ M p (.ins (v.cls a) v.nv))
def xy(G:Gl K mg a):Fq P w K mg base 1 a.E (Kw K):=by
 refine fq G.E.toDG DP (λr u=>⟨_,(oS (pQ v0 U1)),?_⟩)
 rintro ds M Q ⟨p,d,C,rfl,hp,na,q⟩
 exact oR hp ⟨na,by decide,_,.refl,q⟩
def y0(G:Gl K mg a):Fq P w K mg base 2 a.A (MK K):=by
 refine fq G.A.toDG Ai (λr u=>⟨_,(oQ (pD (yo G.aM (xy G) r G.B G.E.toDG (rB v0 U1)))
 (oQ (pQ v0 (pz U1 oU))
 (oS (pQ v0 (pz U1 oU))))),?_⟩)
 rintro ds M Q ⟨p,t,x,y,C,rfl,e1,e2,hp,n1,n2,n3,q⟩
 refine⟨p,_,C,rfl,hp,n1,i' e1 (oR pG ⟨n2,by show 1<1000;decide,?_⟩)⟩;refine i' e2 (oR pG ⟨n3,by show 2<1000;decide,_,?_,q⟩);rw[qZ,qZ];exact .refl
def RV(G:Gl K mg a):Fq P w K mg base 2 a.al (xK a λv=>∃x ns,v=.bar x ns):=by
 refine fq G.al.toDG Fw (λr u=>⟨_,(oQ (pD (yo G.aM (xy G) r G.B G.E.toDG (rB v0 U1)))
 (oQ (pQ v0 (pz U1 oU))
 (oS (pQ v0 (pz U1 oU))))),?_⟩)
 rintro ds M Q ⟨p,v,rfl,⟨x,ns,rfl⟩,hp,q⟩
 refine⟨p,_,_,rfl,hp,(G.bO "form" rfl),oR pG ⟨(G.bO "phone" rfl),by show 1<1000;decide,?_⟩⟩;refine oR pG ⟨(G.bO "targets" rfl),by show 2<1000;decide,_,?_,q⟩;rw[qZ,qZ];exact .refl
def Nn(G:Gl K mg a):Fq P w K mg base 2 a.am (xK a λv=>∃x ns,v=.shut x ns):=by
 refine fq G.am.toDG DX (λr u=>⟨_,(oQ (pD (yo G.aM (xy G) r G.B G.E.toDG (rB v0 U1)))
 (oQ (pQ v0 (pz U1 oU))
 (oS (pQ v0 (pz U1 oU))))),?_⟩)
 rintro ds M Q ⟨p,v,rfl,⟨x,ns,rfl⟩,hp,q⟩
 refine⟨p,_,_,rfl,hp,(G.bP "form" rfl),oR pG ⟨(G.bP "target" rfl),by show 1<1000;decide,?_⟩⟩;refine oR pG ⟨(G.bP "callers" rfl),by show 2<1000;decide,_,?_,q⟩;rw[qZ,qZ];exact .refl
def KN(G:Gl K mg a):Fq P w K mg base 3 a.an (xK a λv=>∃x y f l,v=.night x y f l):=by
 refine fq G.an.toDG CC (λr u=>⟨_,(oQ (pD (yo G.bV (y0 G) r G.X G.A.toDG (rB v0 U1)))
 (oQ (pQ v0 (pz U1 oU))
 (oS (pQ v0 (pz U1 oU))))),?_⟩)
 rintro ds M Q ⟨p,v,rfl,⟨x,y,f,l,rfl⟩,hp,q⟩
 refine⟨p,_,_,_,_,rfl,rfl,rfl,hp,(G.aN "form" rfl),(G.aN "target" rfl),(G.aN "goal" rfl),oR pG ⟨(G.aN "first" rfl),by show 3<1000;decide,?_⟩⟩;refine oR pG ⟨(G.aN "last" rfl),by show 4<1000;decide,_,?_,q⟩;rw[qZ,qZ];exact .refl
def JF(G:Gl K mg a):Fq P w K mg base 3 a.ao (xK a λv=>∃x y n,v=.silent x y n):=by
 refine fq G.ao.toDG Bw (λr u=>⟨_,(oQ (pD (yo G.bV (y0 G) r G.X G.A.toDG (rB v0 U1)))
 (oS (pQ v0 (pz U1 oU)))),?_⟩)
 rintro ds M Q ⟨p,v,rfl,⟨x,y,n,rfl⟩,hp,q⟩
 refine⟨p,_,_,_,_,rfl,rfl,rfl,hp,(G.bM "form" rfl),(G.bM "target" rfl),(G.bM "goal" rfl),oR pG ⟨(G.bM "turns" rfl),by show 3<1000;decide,_,?_,q⟩⟩;rw[qZ];exact .refl
def Oe(G:Gl K mg a):Fq P w K mg base 2 a.ap (xK a λv=>∃x,v=.wait x):=by
 refine fq G.ap.toDG ET (λr u=>⟨_,(oQ (pD (yo G.aM (xy G) r G.B G.E.toDG (rB v0 U1)))
 (oS (pQ v0 (pz U1 oU)))),?_⟩)
 rintro ds M Q ⟨p,v,rfl,⟨x,rfl⟩,hp,q⟩
 refine⟨p,_,_,rfl,hp,(G.bW "form" rfl),oR pG ⟨(G.bW "phone" rfl),by show 1<1000;decide,_,?_,q⟩⟩;rw[qZ];exact .refl
def Jp(G:Gl K mg a):Fq P w K mg base 2 a.aq (xK a λv=>∃x,v=.breaks x):=by
 refine fq G.aq.toDG BM (λr u=>⟨_,(oQ (pD (yo G.aM (xy G) r G.B G.E.toDG (rB v0 U1)))
 (oS (pQ v0 (pz U1 oU)))),?_⟩)
 rintro ds M Q ⟨p,v,rfl,⟨x,rfl⟩,hp,q⟩
 refine⟨p,_,_,rfl,hp,(G.bX "form" rfl),oR pG ⟨(G.bX "phone" rfl),by show 1<1000;decide,_,?_,q⟩⟩;rw[qZ];exact .refl
def Hi(a:Ad):qT:=λds M Q=>∃v:Wi,ds=[.tup v.told]/\∀p,M p=none->Q (.ref p) (oZ M p (.ins (v.cls a) v.nv))
def II(a:Ad):qT:=λds M Q=>B8 λp (v:Wi)=>ds=[.ref p]/\M p=some (.ins (v.cls a) v.nv)/\Q (.tup v.told) M
def Hg:qT:=λds M Q=>∃p,ds=[.ref p]/\Q (.tup [.str "end"]) M
def M7:qT:=λds M Q=>∃p,ds=[.ref p]/\Q (.tup [.str "break"]) M
def Qp:qT:=λds M Q=>AU λp C fs y=>ds=[.ref p]/\M p=some (.ins C fs)/\fs.lookup ("goal":Str)=some y/\Q (.tup [.str "to",y]) M
def P5:qT:=λds M Q=>AU λp C fs y=>ds=[.ref p]/\M p=some (.ins C fs)/\fs.lookup ("phone":Str)=some y/\Q (.tup [.str "wait",y]) M
def Mb(a:Ad):Addr->qT->Prop:=λC sp=>(∃v:Wi,C=v.cls a)/\sp=II a
def IP(a:Ad):Addr->qT->Prop:=λC sp=>((C=a.r\/C=a.t)/\sp=Hg)\/((C=a.w\/C=a.n\/C=a.x\/C=a.u)/\sp=Qp)\/(C=a.v/\sp=P5)\/(C=a.o/\sp=M7)
def GM(G:Gl K mg a):Fq P w K mg base 5 a.bc (Hi a):=by
 refine fq G.bc.toDG B2 (λr u=>⟨_,(oQ (pB 1 B2 (pz v0 oU))
 (oQ (pE (pb u U1 oV)
 (oS (oY (uV (RV G) r G.r G.b8 G.al.toDG (pT v0))))
 pk)
 (oQ (pE (pb u U1 oV)
 (oS (oY (uV (Nn G) r G.t G.b9 G.am.toDG (pT v0))))
 pk)
 (oQ (pE (pb u U1 oV)
 (oS (oY (uV (y0 G) r G.w G.ca G.A.toDG (pT v0))))
 pk)
 (oQ (pE (pb u U1 oV)
 (oS (oY (uV (KN G) r G.n G.cb G.an.toDG (pT v0))))
 pk)
 (oQ (pE (pb u U1 oV)
 (oS (oY (uV (y0 G) r G.x G.cc G.A.toDG (pT v0))))
 pk)
 (oQ (pE (pb u U1 oV)
 (oS (oY (uV (JF G) r G.u G.cd G.ao.toDG (pT v0))))
 pk)
 (oQ (pE (pb u U1 oV)
 (oS (oY (uV (Oe G) r G.v G.ce G.ap.toDG (pT v0))))
 pk)
 (oQ (pE (pb u U1 oV)
 (oS (oY (uV (Jp G) r G.o G.cf G.aq.toDG (pT v0))))
 pk)
 (oS Gr)))))))))),?_⟩)
 rintro ds M Q ⟨v,rfl,q⟩
 have Wp:∀(x:Addr) (c0 c1:uk) (C:Addr) (fs:List (Str×D)),M x=none->Q (.ref x) (oZ M x c1)->∃Wq,qh Wq (oZ (oZ M x c0) x c1)/\Q (.ref x) Wq:=λx c0 c1 C fs hx q=>⟨_,by rw[qZ];exact .refl,q⟩;cases v with
 | bar x ns=>exact λp hp=>⟨p,.bar x ns,rfl,⟨_,_,rfl⟩,pG,rfl,Wp p _ _ 0 [] hp (q p hp)⟩
 | shut x ns=>exact λp hp=>⟨p,.shut x ns,rfl,⟨_,_,rfl⟩,pG,rfl,Wp p _ _ 0 [] hp (q p hp)⟩
 | always x y=>exact λp hp=>⟨p,_,_,_,_,rfl,rfl,rfl,pG,(G.bQ "form" rfl),(G.bQ "target" rfl),(G.bQ "goal" rfl),rfl,Wp p _ _ 0 [] hp (q p hp)⟩
 | night x y f l=>exact λp hp=>⟨p,.night x y f l,rfl,⟨_,_,_,_,rfl⟩,pG,rfl,Wp p _ _ 0 [] hp (q p hp)⟩
 | busy x y=>exact λp hp=>⟨p,_,_,_,_,rfl,rfl,rfl,pG,(G.bR "form" rfl),(G.bR "target" rfl),(G.bR "goal" rfl),rfl,Wp p _ _ 0 [] hp (q p hp)⟩
 | silent x y n=>exact λp hp=>⟨p,.silent x y n,rfl,⟨_,_,_,rfl⟩,pG,rfl,Wp p _ _ 0 [] hp (q p hp)⟩
 | wait x=>exact λp hp=>⟨p,.wait x,rfl,⟨_,rfl⟩,pG,rfl,Wp p _ _ 0 [] hp (q p hp)⟩
 | breaks x=>exact λp hp=>⟨p,.breaks x,rfl,⟨_,rfl⟩,pG,rfl,Wp p _ _ 0 [] hp (q p hp)⟩
def NK(G:Gl K mg a):Fq P w K mg base 1 a.l (II a):=by
 refine fq G.l.toDG EB (λr u=>⟨_,(oS (oY (oX v0))),?_⟩)
 rintro ds M Q ⟨p,v,rfl,hp,q⟩
 exact oR hp (i' rfl ⟨M,.refl,q⟩)
def Nw(G:Gl K mg a):Fq P w K mg base 1 a.ax Hg:=by
 refine fq G.ax.toDG Ec (λr u=>⟨_,(oS (oY (pC (pT oV)))),?_⟩)
 rintro ds M Q ⟨p,rfl,q⟩
 exact⟨oO rfl,M,.refl,q⟩
def KW(G:Gl K mg a):Fq P w K mg base 1 a.ay Hg:=by
 refine fq G.ay.toDG CA (λr u=>⟨_,(oS (oY (pC (pT oV)))),?_⟩)
 rintro ds M Q ⟨p,rfl,q⟩
 exact⟨oO rfl,M,.refl,q⟩
def vm(G:Gl K mg a):Fq P w K mg base 1 a.z Qp:=by
 refine fq G.z.toDG zH (λr u=>⟨_,(oS (oY (pC (rB oV (oX v0))))),?_⟩)
 rintro ds M Q ⟨p,C,fs,y,rfl,hp,e,q⟩
 exact oR hp (i' e ⟨oO rfl,M,.refl,q⟩)
def MR(G:Gl K mg a):Fq P w K mg base 1 a.az P5:=by
 refine fq G.az.toDG CP (λr u=>⟨_,(oS (oY (pC (rB oV (oX v0))))),?_⟩)
 rintro ds M Q ⟨p,C,fs,y,rfl,hp,e,q⟩
 exact oR hp (i' e ⟨oO rfl,M,.refl,q⟩)
def G0(G:Gl K mg a):Fq P w K mg base 1 a.aA M7:=by
 refine fq G.aA.toDG Au (λr u=>⟨_,(oS (oY (pC (pT oV)))),?_⟩)
 rintro ds M Q ⟨p,rfl,q⟩
 exact⟨oO rfl,M,.refl,q⟩
def R4(G:Gl K mg a):∀C sp,Mb a C sp->xk P w K mg base 1 "told" C (Ng K sp):=by
 rintro C sp ⟨⟨v,rfl⟩,rfl⟩
 have F:=NK (P:=P) (w:=w) (base:=base) G;cases v with
 | bar _ _=>exact⟨G.r.toCls,_,_,_,G.cn,F,G.l.b⟩
 | shut _ _=>exact⟨G.t.toCls,_,_,_,G.co,F,G.l.b⟩
 | always _ _=>exact⟨G.w.toCls,_,_,_,G.cp,F,G.l.b⟩
 | night _ _ _ _=>exact⟨G.n.toCls,_,_,_,G.cq,F,G.l.b⟩
 | busy _ _=>exact⟨G.x.toCls,_,_,_,G.cr,F,G.l.b⟩
 | silent _ _ _=>exact⟨G.u.toCls,_,_,_,G.cs,F,G.l.b⟩
 | wait _=>exact⟨G.v.toCls,_,_,_,G.ct,F,G.l.b⟩
 | breaks _=>exact⟨G.o.toCls,_,_,_,G.cu,F,G.l.b⟩
def O0(G:Gl K mg a):∀C sp,IP a C sp->xk P w K mg base 1 "wants" C (Ng K sp):=by
 rintro C sp (⟨rfl|rfl,rfl⟩|⟨rfl|rfl|rfl|rfl,rfl⟩|⟨rfl,rfl⟩|⟨rfl,rfl⟩)
 .exact⟨G.r.toCls,_,_,_,G.ax.mW,Nw G,G.ax.b⟩
 .exact⟨G.t.toCls,_,_,_,G.ay.mW,KW G,G.ay.b⟩
 .exact⟨G.w.toCls,_,_,_,G.cv,vm G,G.z.b⟩
 .exact⟨G.n.toCls,_,_,_,G.cw,vm G,G.z.b⟩
 .exact⟨G.x.toCls,_,_,_,G.cx,vm G,G.z.b⟩
 .exact⟨G.u.toCls,_,_,_,G.cy,vm G,G.z.b⟩
 .exact⟨G.v.toCls,_,_,_,G.az.mW,MR G,G.az.b⟩
 .exact⟨G.o.toCls,_,_,_,G.aA.mW,G0 G,G.aA.b⟩
noncomputable def tX(x:Str):Bool:=decide ((1:Int)<=x.length)&&(decide ((x.length:Int)<=6)&&x.cps.toList.all λc=>Ci ⟨#[c]⟩ ub)
def Hw:qT:=λds M Q=>∃x:Str,ds=[.str x]/\x.length<=1000/\Q (.bl (tX x)) M
def IB:qT:=λds M Q=>∃w,ds=[.bl true,w]/\Q .mC M
noncomputable def we(ss:List Str):Bool:=((su ss).length:Int)==(ss.length:Int)
def R5(M:Mp)(x:D)(ss:List Str):Prop:=x=.tup (ss.map D.str)\/∃a,x=.ref a/\oy M a=some (ss.map D.str)
def J1:qT:=λds M Q=>B8 λx ss=>ds=[x]/\R5 M x ss/\ss.length<4000/\Q (.bl (we ss)) M
def yO{α:Type}(f:α->Bool)(l:List α):(l.map f).all id=l.all f:=by rw[l8];rfl
def rT(x:Str)(ss:List Str):inD (.str x) (ss.map D.str)=ss.any (·==x):=by unfold inD;rw[jE];rfl
theorem qe:∀ss:List Str,(ss.map D.str).all uD=true
 | []=>rfl
 | _::r=>by rw[dS,ft,qe r];rfl
noncomputable def rW(cs ks:List Str)(m:Int):Bool:=decide ((1:Int)<=cs.length)&&(decide ((cs.length:Int)<=m)&&(we cs&&cs.all λc=>ks.any (·==c)))
def Je:qT:=λds M Q=>AU λcs ks k m=>ds=[.tup (cs.map D.str),.ref k,.int m]/\oy M k=some (ks.map D.str)/\cs.length<4000/\Q (.bl (rW cs ks m)) M
def Bk(G:Gl K mg a):Fq P w K mg base 1 a.ac Hw:=by
 refine fq G.ac.toDG GR (λr u=>⟨_,(oS (oY (sJ (tR u oU (pH qk rfl G.g qc (pT v0)) (rZ rfl G.cO)) (sj (pH (E9 rfl) rfl G.bN DF (pT (qw rfl (xV (ix:=[none]) (N':=["sign"])) (qv v0) (qu 0) rC (pW u v0 (rZ rfl G.cP))))))))),?_⟩)
 rintro ds M Q ⟨x,rfl,hl,q⟩
 have hz:=dM;refine⟨by omega,qr (λh1=>?_) (λh1=>?_)⟩
 .refine qr (λh2=>?_) (λh2=>?_)
  .refine qM (f:=λd=>match d with|.str z=>D.bl (Ci z ub)|_=>.mC) trivial _ [] _ ?_ (λd hd k hk=>?_) λp hp=>?_
   .rw[cT];have:x.cps.toList.length=x.length:=by simp[Str.length]
    simp only[dI];omega
   .obtain⟨c,_,rfl⟩:=dz.mp hd;exact hk
   .refine i' o9 ?_;have e:([]++(x.cps.toList.map λc=>D.str ⟨#[c]⟩).map λd=>match d with|.str z=>D.bl (Ci z ub)|_=>.mC)=x.cps.toList.map λc=>D.bl (Ci ⟨#[c]⟩ ub):=by rw[dX,d9];rfl
    rw[e];refine i' (xQ (λc=>Ci ⟨#[c]⟩ ub) x.cps.toList) ⟨M,.new hp,?_⟩;rw[yO];have:tX x=x.cps.toList.all λc=>Ci ⟨#[c]⟩ ub:=by unfold tX;rw[h1,h2];rfl
    rw[<-this];exact q
  .refine⟨M,.refl,?_⟩;have:tX x=false:=by
    unfold tX;have h2:decide ((x.length:Int)<=6)=false:=by simpa using h2
    rw[h2];simp
   rw[<-this];exact q
 .refine⟨M,.refl,?_⟩;have:tX x=false:=by
   unfold tX;have h1:decide ((1:Int)<=x.length)=false:=by simpa using h1
   rw[h1];rfl
  rw[<-this];exact q
def sm(G:Gl K mg a):Fq P w K mg base 1 a.m IB:=by
 refine fq G.m.toDG OC (λr u=>⟨_,(oS (pE (yz (uS v0))
 (oS Gr)
 pk)),?_⟩)
 rintro ds M Q ⟨x,rfl,q⟩
 exact⟨M,.refl,q⟩
def Dj(G:Gl K mg a):Fq P w K mg base 1 a.ad J1:=by
 refine fq G.ad.toDG CM (λr u=>⟨_,(oS (oY (pW u (Ju rfl v0 rfl G.g rfl G.cE qc QI) (pH qk rfl G.g qc (pT v0))))),?_⟩)
 rintro ds M Q ⟨x,ss,rfl,hx,hl,q⟩
 have key:((ss.map D.str).length:Int)=ss.length:=by rw[cT]
 rcases hx with rfl|⟨b,rfl,hb⟩
 .refine i' (L3.BS ss) ⟨hl,M,.refl,?_⟩;rw[key];exact q
 .refine i' hb (i' (L3.BS ss) ⟨hl,i' hb ⟨M,.refl,?_⟩⟩);rw[key];exact q
def zL(G:Gl K mg a):Fq P w K mg base 2 a.N Je:=by
 refine fq G.N.toDG Em (λr u=>⟨_,(oS (oY (sJ (tR u oU (pH qk rfl G.g qc (pT v0)) U2) (sJ (pq (Dj G) r G.ad (pT v0)) (sj (pH (E9 rfl) rfl G.bN DF (pT (qw rfl (xV (ix:=[none,some 1]) (N':=["name","known"])) (qv v0) (qu 0) rC (pW u v0 U1))))))))),?_⟩)
 rintro ds M Q ⟨cs,ks,k,m,rfl,hk,hl,q⟩
 have hz:=dM;have key:((cs.map D.str).length:Int)=cs.length:=by rw[cT]
 have Zv:∀b:Bool,rW cs ks m=b->∃Wq,qh Wq M/\Q (.bl b) Wq:=λb e=>⟨M,.refl,e ▸ q⟩;refine qr (λh1=>?_) (λh1=>?_)
 .have h1:decide ((1:Int)<=cs.length)=true:=by rw[<-key];exact h1
  refine qr (λh2=>?_) (λh2=>?_)
  .have h2:decide ((cs.length:Int)<=m)=true:=by rw[<-key];exact h2
   refine⟨_,cs,rfl,.inl rfl,hl,qr (λh3=>?_) (λh3=>?_)⟩
   .refine qM (f:=λd=>match d with|.str z=>D.bl (ks.any (·==z))|_=>.mC) trivial _ [] _ ?_ (λd hd k0 hk0=>?_) λp hp=>?_
    .rw[cT];simp only[dI];omega
    .obtain⟨c,_,rfl⟩:=dz.mp hd;refine i' hk ⟨rfl,qe ks,?_⟩;show k0 (.bl (inD (.str c) (ks.map D.str))) M;rw[rT];exact hk0
    .refine i' o9 ?_;have e:([]++(cs.map D.str).map λd=>match d with|.str z=>D.bl (ks.any (·==z))|_=>.mC)=cs.map λc=>D.bl (ks.any (·==c)):=by rw[dX,d9];rfl
     rw[e];refine i' (xQ (λc=>ks.any (·==c)) cs) ⟨M,.new hp,?_⟩;rw[yO];have:rW cs ks m=cs.all λc=>ks.any (·==c):=by unfold rW;rw[h1,h2,h3];rfl
     rw[<-this];exact q
   .refine Zv _ ?_;unfold rW;have h3:we cs=false:=by simpa using h3
    rw[h3];simp
  .refine Zv _ ?_;unfold rW;have h2:decide ((cs.length:Int)<=m)=false:=by
    rw[<-key]
    simpa using h2
   rw[h2];simp
 .refine Zv _ ?_;unfold rW;have h1:decide ((1:Int)<=cs.length)=false:=by
   rw[<-key]
   simpa using h1
  rw[h1];rfl
abbrev ur:=Str×Int×Int
abbrev ue:=Str×Str×List Str
abbrev uW:=Bool×Wi
noncomputable def qL(p:ur):D:=.tup [.str p.1,.int p.2.1,.int p.2.2]
noncomputable def qP(g:ue):D:=.tup [.str g.1,.str g.2.1,names g.2.2]
noncomputable def wN(w:uW):D:=.tup [.bl w.1,.tup w.2.told]
structure Ff(p:ur):Prop where
 len:p.1.length<=1000
 nm:tX p.1=true
 l1:1<=p.2.1
 l2:p.2.1<=3
 r1:0<=p.2.2
 r2:p.2.2<=9
structure D5(pn:List Str)(g:ue):Prop where
 len:g.1.length<=1000
 nm:tX g.1=true
 man:g.2.1="all"\/g.2.1="turns"
 oO:g.2.2.length<4000
 mem:rW g.2.2 pn 4=true
def xB(ss:List Str)(x:Str):Prop:=ss.any (·==x)=true
def Bp(pn nm:List Str):Wi->Prop
 | .bar x ns=>xB pn x/\ns.length<4000/\rW ns nm 6=true
 | .shut x ns=>xB nm x/\ns.length<4000/\rW ns pn 6=true
 | .always x y=>xB nm x/\xB nm y/\x≠y
 | .night x y f l=>xB nm x/\xB nm y/\x≠y/\(0<=f/\f<=23)/\(0<=l/\l<=23)/\f≠l
 | .busy x y=>xB nm x/\xB nm y/\x≠y
 | .silent x y n=>xB nm x/\xB nm y/\x≠y/\1<=n/\n<=9
 | .wait x=>xB pn x
 | .breaks x=>xB pn x
inductive xx(pn nm:List Str):Str->D->Prop
 | mR (x:Str) (h:xB pn x):xx pn nm "phone" (.str x)
 | name (x:Str) (h:xB nm x):xx pn nm "name" (.str x)
 | my (cs:List Str) (l:cs.length<4000) (h:rW cs pn 6=true):xx pn nm "phones" (names cs)
 | names (cs:List Str) (l:cs.length<4000) (h:rW cs nm 6=true):xx pn nm "names" (names cs)
 | hour (i:Int) (h0:0<=i) (h1:i<=23):xx pn nm "hour" (.int i)
 | turns (i:Int) (h0:1<=i) (h1:i<=9):xx pn nm "turns" (.int i)
def HJ:qT:=λds M Q=>Ij λk d pl nl (pn nm:List Str)=>ds=[.str k,d,.ref pl,.ref nl]/\oy M pl=some (pn.map D.str)/\oy M nl=some (nm.map D.str)/\xx pn nm k d/\Q (.bl true) M
def AD:qT:=λds M Q=>B8 λr (ps:List ur)=>ds=[.ref r]/\oy M r=some (ps.map qL)/\1<=ps.length/\ps.length<=8/\(∀p∈ps,Ff p)/\Q .mC M
def Aj:qT:=λds M Q=>AU λr (gs:List ue) pl (pn:List Str)=>ds=[.ref r,.ref pl]/\oy M r=some (gs.map qP)/\oy M pl=some (pn.map D.str)/\gs.length<=3/\(∀g∈gs,D5 pn g)/\Q .mC M
def CB:qT:=λds M Q=>GC λv pl nl (pn nm:List Str)=>ds=[.tup (Wi.told v),.ref pl,.ref nl]/\oy M pl=some (pn.map D.str)/\oy M nl=some (nm.map D.str)/\Bp pn nm v/\Q .mC M
def Ap:qT:=λds M Q=>Ij λr (ws:List uW) pl nl (pn nm:List Str)=>ds=[.ref r,.ref pl,.ref nl]/\oy M r=some (ws.map wN)/\oy M pl=some (pn.map D.str)/\oy M nl=some (nm.map D.str)/\ws.length<=16/\(∀w∈ws,Bp pn nm w.2)/\Q .mC M
def VN{ss:List Str}{x:Str}(h:xB ss x):inD (.str x) (ss.map D.str)=true:=by rw[rT];exact h
def Oi(G:Gl K mg a):Fq P w K mg base 3 a.bf HJ:=by
 refine fq G.bf.toDG CL (λr u=>⟨_,(oQ (pE (pb u v0 oV)
 (oS (oY (pW u U1 U2)))
 pk)
 (oQ (pE (pb u v0 oV)
 (oS (oY (pW u U1 U3)))
 pk)
 (oQ (pE (pb u v0 oV)
 (oS (oY (pq (zL G) r G.N (qN U1 U2 (rZ rfl G.bZ)))))
 pk)
 (oQ (pE (pb u v0 oV)
 (oS (oY (pq (zL G) r G.N (qN U1 U3 (rZ rfl G.bZ)))))
 pk)
 (oQ (pE (pb u v0 oV)
 (oS (oY (tR u oU U1 (rZ rfl G.cQ))))
 pk)
 (oS (oY (tR u oU U1 (rZ rfl G.cR))))))))),?_⟩)
 rintro ds M Q ⟨k,d,pl,nl,pn,nm,rfl,hp,hn,ok,q⟩
 cases ok with
 | mR x h=>refine i' hp ⟨rfl,qe pn,M,.refl,?_⟩;show Q (.bl (inD (.str x) (pn.map D.str))) M;rw[VN h];exact q
 | name x h=>refine i' hn ⟨rfl,qe nm,M,.refl,?_⟩;show Q (.bl (inD (.str x) (nm.map D.str))) M;rw[VN h];exact q
 | my cs l h=>exact⟨cs,pn,pl,6,rfl,hp,l,M,.refl,by rw[h];exact q⟩
 | names cs l h=>exact⟨cs,nm,nl,6,rfl,hn,l,M,.refl,by rw[h];exact q⟩
 | hour i h0 h1=>refine Av (c:=decide (0<=i)) (dR h0) ⟨M,.refl,?_⟩;show Q (.bl (decide (i<=23))) M;rw[dR h1];exact q
 | turns i h0 h1=>refine Av (c:=decide (1<=i)) (dR h0) ⟨M,.refl,?_⟩;show Q (.bl (decide (i<=9))) M;rw[dR h1];exact q
def Ao(G:Gl K mg a):Fq P w K mg base 2 a.bd AD:=by
 refine fq G.bd.toDG tJ (λr u=>⟨_,(oQ (pD (pq (sm G) r G.m (rB (tR u oU (pH qk rfl G.g qc (pT v0)) (rZ rfl G.cH)) oV)))
 (oS (uB fu rfl (qv v0) (uT (n:=3) rfl (ql (rg 1 tJ) (ql (rg 2 tJ) (ql (rg 3 tJ) tK))))
 (oQ (pD (pq (sm G) r G.m (rB (pq (Bk G) r G.ac (pT U1)) oV)))
 (oQ (pD (pq (sm G) r G.m (rB (tR u oU U2 (rZ rfl G.cI)) oV)))
 (oS (pD (pq (sm G) r G.m (rB (tR u oU U3 (rZ rfl G.cJ)) oV))))))))),?_⟩)
 rintro ds M Q ⟨r,ps,rfl,W5,h1,h8,mG,q⟩
 have el:((ps.map qL).length:Int)=ps.length:=by rw[cT]
 refine i' W5 (Av (c:=decide ((1:Int)<=(ps.map qL).length)) (dR (by omega)) ⟨_,by rw[dR (show((ps.map qL).length:Int)<=8 by omega)],i' W5 ?_⟩);refine AN (λδ M'=>M=M'/\∃x y z,δ=[some (.ref r),x,y,z]) (λδ M' j=>by rw[<-j.1];exact W5) _ _ _ ⟨rfl,none,none,none,rfl⟩ ?_ ?_
 .rintro d hd δ M' ⟨rfl,x,y,z,rfl⟩ nx Wy
  obtain⟨p,hp,rfl⟩:=dz.mp hd;have o:=mG p hp;refine⟨rfl,⟨p.1,rfl,o.len,_,by rw[o.nm],?_⟩⟩;refine Av (c:=decide ((1:Int)<=p.2.1)) (dR o.l1) ⟨_,by rw[dR (show p.2.1<=3 from o.l2)],?_⟩;refine Av (c:=decide ((0:Int)<=p.2.2)) (dR o.r1) ⟨_,by rw[dR (show p.2.2<=9 from o.r2)],?_⟩;exact Wy _ _ ⟨rfl,_,_,_,rfl⟩
 .rintro δ M' ⟨rfl,x,y,z,rfl⟩
  exact⟨M,.refl,q⟩
def AC(G:Gl K mg a):Fq P w K mg base 3 a.be Aj:=by
 refine fq G.be.toDG tG (λr u=>⟨_,(oQ (pD (pq (sm G) r G.m (rB (pW u (pH qk rfl G.g qc (pT v0)) (rZ rfl G.cK)) oV)))
 (oS (uB fu rfl (qv v0) (uT (n:=3) rfl (ql (rg 2 tG) (ql (rg 3 tG) (ql (rg 4 tG) tK))))
 (oQ (pD (pq (sm G) r G.m (rB (pq (Bk G) r G.ac (pT U2)) oV)))
 (oQ (pD (pq (sm G) r G.m (rB (pW u U3 (rZ rfl G.cL)) oV)))
 (oS (pD (pq (sm G) r G.m (rB (pq (zL G) r G.N (qN v4 U1 (rZ rfl G.cM))) oV))))))))),?_⟩)
 rintro ds M Q ⟨r,gs,pl,pn,rfl,W5,hp,h3,mG,q⟩
 have el:((gs.map qP).length:Int)=gs.length:=by rw[cT]
 refine i' W5 ⟨_,by rw[dR (show((gs.map qP).length:Int)<=3 by omega)],i' W5 ?_⟩;refine AN (λδ M'=>M=M'/\∃x y z,δ=[some (.ref r),some (.ref pl),x,y,z]) (λδ M' j=>by rw[<-j.1];exact W5) _ _ _ ⟨rfl,none,none,none,rfl⟩ ?_ ?_
 .rintro d hd δ M' ⟨rfl,x,y,z,rfl⟩ nx Wy
  obtain⟨g,hg,rfl⟩:=dz.mp hd;have o:=mG g hg;refine⟨rfl,⟨g.1,rfl,o.len,_,by rw[o.nm],?_⟩⟩;have hm:inD (.str g.2.1) [.str "all",.str "turns"]=true:=by rcases o.man with e|e<;>(rw[e];rfl)
  refine⟨rfl,rfl,.str "a group's manner is all or turns",eE (λb=>[D.bl b,D.str "a group's manner is all or turns"]) hm,?_⟩;refine⟨g.2.2,pn,pl,4,rfl,hp,o.oO,_,by rw[o.mem],?_⟩;exact Wy _ _ ⟨rfl,_,_,_,rfl⟩
 .rintro δ M' ⟨rfl,x,y,z,rfl⟩
  exact⟨M,.refl,q⟩
def CD(G:Gl K mg a):Fq P w K mg base 4 a.bg CB:=by
 refine fq G.bg.toDG tz (λr u=>⟨_,(oQ (pD (pq (sm G) r G.m (rB (LZ G.bY rfl (pz v0 oU)) oV)))
 (oQ (pB 3 tz (JA G.bY rfl (pz v0 oU)))
 (oQ (pB 4 tz (rR v0 (se oU) sV))
 (oQ (pD (pq (sm G) r G.m (rB (pW u (pH qk rfl G.g qc (pT v4)) (pH qk rfl G.g qc (pT U3))) oV)))
 (oQ (uB fu rfl (RM rfl G.cF (rB U3 v4)) (uT (n:=2) rfl (ql (rg 5 tz) (ql (rg 6 tz) tK)))
 (oS (pD (pq (sm G) r G.m (rB (pq (Oi G) r G.bf (pN v5 (qN v6 U1 U2))) oV)))))
 (oQ (pE (pb u (rR U3 sV (se oU)) (pC (rB oV oV)))
 (oS (pD (pq (sm G) r G.m (rB (pW u (pz v4 oU) (pz v4 oU)) oV))))
 pk)
 (oS (pE (pb u (rR U3 (se oU) sV) (pC (rB oV oV)))
 (oS (pD (pq (sm G) r G.m (rB (pW u (pz v4 oU) (pz v4 oU)) oV))))
 pk)))))))),?_⟩)
 rintro ds M Q ⟨v,pl,nl,pn,nm,rfl,hp,hn,ok,q⟩
 have part:∀{k:Str} {d:D} {C:DK},xx pn nm k d->C (.bl true) M->HJ [.str k,d,.ref pl,.ref nl] M C:=λo c=>⟨_,_,pl,nl,pn,nm,rfl,hp,hn,o,c⟩;have need:∀{x:D} {C:DK},C .mC M->IB [.bl true,x] M C:=λc=>⟨_,rfl,c⟩;have ne:∀{x y:Str},x≠y->(!(x==y))=true:=λh=>by simpa using h
 have nei:∀{x y:Int},x≠y->(!(x==y))=true:=λh=>by simpa using h
 have Wp:∃Wq,qh Wq M/\Q .mC Wq:=⟨M,.refl,q⟩;cases v with
 | bar x ns=>obtain⟨h1,h2,h3⟩:=ok;refine⟨_,rfl,_,rfl,?_⟩;refine⟨rfl,_,_,pl,nl,pn,nm,rfl,hp,hn,.mR x h1,_,rfl,trivial,⟨rfl,_,_,pl,nl,pn,nm,rfl,hp,hn,.names ns h2 h3,_,rfl,trivial,?_⟩⟩;exact⟨oO rfl,oO rfl,Wp⟩
 | shut x ns=>obtain⟨h1,h2,h3⟩:=ok;refine⟨_,rfl,_,rfl,?_⟩;refine⟨rfl,_,_,pl,nl,pn,nm,rfl,hp,hn,.name x h1,_,rfl,trivial,⟨rfl,_,_,pl,nl,pn,nm,rfl,hp,hn,.my ns h2 h3,_,rfl,trivial,?_⟩⟩;exact⟨oO rfl,oO rfl,Wp⟩
 | always x y=>obtain⟨h1,h2,h3⟩:=ok;refine⟨_,rfl,_,rfl,?_⟩;refine⟨rfl,_,_,pl,nl,pn,nm,rfl,hp,hn,.name x h1,_,rfl,trivial,⟨rfl,_,_,pl,nl,pn,nm,rfl,hp,hn,.name y h2,_,rfl,trivial,?_⟩⟩;refine⟨oO rfl,⟨_,by rw[ne h3],?_⟩⟩;exact⟨oO rfl,Wp⟩
 | night x y f l=>obtain⟨h1,h2,h3,h4,h5,h6⟩:=ok;refine⟨_,rfl,_,rfl,?_⟩;refine⟨rfl,_,_,pl,nl,pn,nm,rfl,hp,hn,.name x h1,_,rfl,trivial,⟨rfl,_,_,pl,nl,pn,nm,rfl,hp,hn,.name y h2,_,rfl,trivial,⟨rfl,_,_,pl,nl,pn,nm,rfl,hp,hn,.hour f h4.1 h4.2,_,rfl,trivial,⟨rfl,_,_,pl,nl,pn,nm,rfl,hp,hn,.hour l h5.1 h5.2,_,rfl,trivial,?_⟩⟩⟩⟩;refine⟨oO rfl,⟨_,by rw[ne h3],?_⟩⟩;refine⟨oO rfl,⟨_,by rw[nei h6],?_⟩⟩;exact Wp
 | busy x y=>obtain⟨h1,h2,h3⟩:=ok;refine⟨_,rfl,_,rfl,?_⟩;refine⟨rfl,_,_,pl,nl,pn,nm,rfl,hp,hn,.name x h1,_,rfl,trivial,⟨rfl,_,_,pl,nl,pn,nm,rfl,hp,hn,.name y h2,_,rfl,trivial,?_⟩⟩;refine⟨oO rfl,⟨_,by rw[ne h3],?_⟩⟩;exact⟨oO rfl,Wp⟩
 | silent x y n=>obtain⟨h1,h2,h3,h4,h5⟩:=ok;refine⟨_,rfl,_,rfl,?_⟩;refine⟨rfl,_,_,pl,nl,pn,nm,rfl,hp,hn,.name x h1,_,rfl,trivial,⟨rfl,_,_,pl,nl,pn,nm,rfl,hp,hn,.name y h2,_,rfl,trivial,⟨rfl,_,_,pl,nl,pn,nm,rfl,hp,hn,.turns n h4 h5,_,rfl,trivial,?_⟩⟩⟩;refine⟨oO rfl,⟨_,by rw[ne h3],?_⟩⟩;exact⟨oO rfl,Wp⟩
 | wait x=>refine⟨_,rfl,_,rfl,?_⟩;refine⟨rfl,_,_,pl,nl,pn,nm,rfl,hp,hn,.mR x ok,_,rfl,trivial,?_⟩;exact⟨oO rfl,oO rfl,Wp⟩
 | breaks x=>refine⟨_,rfl,_,rfl,?_⟩;refine⟨rfl,_,_,pl,nl,pn,nm,rfl,hp,hn,.mR x ok,_,rfl,trivial,?_⟩;exact⟨oO rfl,oO rfl,Wp⟩
def AJ(G:Gl K mg a):Fq P w K mg base 5 a.bh Ap:=by
 refine fq G.bh.toDG uz (λr u=>⟨_,(oQ (pD (pq (sm G) r G.m (rB (pW u (pH qk rfl G.g qc (pT v0)) (rZ rfl G.cN)) oV)))
 (oS (uB fu rfl (qv v0) (uT (n:=2) rfl (ql (rg 3 uz) (ql (rg 4 uz) tK)))
 (oS (pD (pq (CD G) r G.bg (qN v4 U1 U2))))))),?_⟩)
 rintro ds M Q ⟨r,ws,pl,nl,pn,nm,rfl,W5,hp,hn,h16,mG,q⟩
 have el:((ws.map wN).length:Int)=ws.length:=by rw[cT]
 refine i' W5 ⟨_,by rw[dR (show((ws.map wN).length:Int)<=16 by omega)],i' W5 ?_⟩;refine AN (λδ M'=>M=M'/\∃x y,δ=[some (.ref r),some (.ref pl),some (.ref nl),x,y]) (λδ M' j=>by rw[<-j.1];exact W5) _ _ _ ⟨rfl,none,none,rfl⟩ ?_ ?_
 .rintro d hd δ M' ⟨rfl,x,y,rfl⟩ nx Wy
  obtain⟨v,hv,rfl⟩:=dz.mp hd;exact⟨rfl,⟨v.2,pl,nl,pn,nm,rfl,hp,hn,mG v hv,Wy _ _ ⟨rfl,_,_,rfl⟩⟩⟩
 .rintro δ M' ⟨rfl,x,y,rfl⟩
  exact⟨M,.refl,q⟩
structure pj where
 my:List ur
 groups:List ue
 mx:List uW
noncomputable def pj.pn(l:pj):List Str:=l.my.map (·.1)
noncomputable def pj.gn(l:pj):List Str:=l.groups.map (·.1)
noncomputable def pj.nm(l:pj):List Str:=l.pn++l.gn
structure rf(l:pj):Prop where
 p1:1<=l.my.length
 p8:l.my.length<=8
 po:∀p∈l.my,Ff p
 g3:l.groups.length<=3
 go:∀g∈l.groups,D5 l.pn g
 nd:l.nm.Nodup
 w16:l.mx.length<=16
 wo:∀w∈l.mx,Bp l.pn l.nm w.2
def Df{ss:List Str}(h:ss.Nodup):we ss=true:=by unfold we;rw[G4 ss h];simp
def Ct:qT:=λds M Q=>AU λr1 r2 r3 (l:pj)=>ds=[.ref r1,.ref r2,.ref r3]/\oy M r1=some (l.my.map qL)/\oy M r2=some (l.groups.map qP)/\oy M r3=some (l.mx.map wN)/\rf l/\Q .mC M
noncomputable def Al:D->D
 | .tup (x::_)=>x
 | _=>.mC
def wb(ps:List ur):(ps.map qL).map Al=(ps.map (·.1)).map D.str:=by rw[d9,d9];rfl
def wD(ps:List ue):(ps.map qP).map Al=(ps.map (·.1)).map D.str:=by rw[d9,d9];rfl
def Ce(G:Gl K mg a):Fq P w K mg base 6 a.bi Ct:=by
 refine fq G.bi.toDG vH (λr u=>⟨_,(oQ (pD (pq (Ao G) r G.bd (pT v0)))
 (oQ (uQ (i:=3) vH.nd rfl (Or.inl rfl) rfl (xV (ix:=[none]) (N':=["phone"])) (qv v0) (qu 0) rC (pz v0 oU))
 (oQ (pD (pq (AC G) r G.be (rB U1 U3)))
 (oQ (pB 4 vH (pM U3 (qw rfl (xV (ix:=[none]) (N':=["group"])) (qv U1) (qu 0) rC (pz v0 oU))))
 (oQ (pD (pq (sm G) r G.m (rB (pq (Dj G) r G.ad (pT v4)) oV)))
 (oS (pD (pq (AJ G) r G.bh (qN U2 U3 v4))))))))),?_⟩)
 rintro ds M Q ⟨r1,r2,r3,l,rfl,h1,h2,h3,ok,q⟩
 have hz:=dM;have l1:=ok.p8;have l2:=ok.g3;refine⟨r1,l.my,rfl,h1,ok.p1,ok.p8,ok.po,i' h1 ?_⟩;refine qM (f:=Al) h1 _ [] _ (by rw[cT];simp only[dI];omega) (λd hd k hk=>?_) λp hp=>?_
 .obtain⟨x,_,rfl⟩:=dz.mp hd;exact hk
 rw[dX,wb];have s1:=qh.new (c:=.lst ((l.my.map (·.1)).map D.str)) hp;have lp:oy (oZ M p (.lst ((l.my.map (·.1)).map D.str))) p=some (l.pn.map D.str):=o9;generalize oZ M p (.lst ((l.my.map (·.1)).map D.str))=M1 at s1 lp ⊢;refine⟨r2,l.groups,p,l.pn,rfl,s1.lst h2,lp,ok.g3,ok.go,?_⟩;refine i' (s1.lst h2) (qM (f:=Al) (s1.lst h2) _ [] _ (by rw[cT];simp only[dI];omega) (λd hd k hk=>?_) λp2 Ww=>?_)
 .obtain⟨x,_,rfl⟩:=dz.mp hd;exact hk
 rw[dX,wD];have s2:=qh.new (c:=.lst ((l.groups.map (·.1)).map D.str)) Ww;refine i' (s2.lst lp) (i' o9 ⟨?_,λp3 hp3=>?_⟩)
 .rw[cT,cT,cT];show(l.my.map (·.1)).length+_<=_;rw[cT];omega
 have en:l.pn.map D.str++(l.groups.map (·.1)).map D.str=l.nm.map D.str:=by unfold pj.nm;rw[dP];rfl
 rw[en];have s3:=s2.trans (qh.new (c:=.lst (l.nm.map D.str)) hp3);have l3:=@o9 (oZ M1 p2 (.lst ((l.groups.map (·.1)).map D.str))) p3 (l.nm.map D.str);generalize oZ (oZ M1 p2 (.lst ((l.groups.map (·.1)).map D.str))) p3 (.lst (l.nm.map D.str))=M3 at s3 l3 ⊢;have ln:l.nm.length<4000:=by unfold pj.nm pj.pn pj.gn;rw[cX,cT,cT];omega
 refine⟨_,l.nm,rfl,.inr ⟨p3,rfl,l3⟩,ln,_,by rw[Df ok.nd],?_⟩;exact⟨r3,l.mx,p,p3,l.pn,l.nm,rfl,s3.lst (s1.lst h3),s3.lst lp,l3,ok.w16,ok.wo,M,s1.trans s3,q⟩
noncomputable def Qi(ph gr ws on pr gd:Addr):List (Str×D):=[("phones",.ref ph),("groups",.ref gr),("wishes",.ref ws),("on",.ref on),("phone_rows",.ref pr),("group_rows",.ref gd)]
noncomputable def Sm(l:pj):List (qR×D):=l.my.map λp=>(Sum.inr p.1,qL p)
noncomputable def Hd(l:pj):List (qR×D):=l.groups.map λg=>(Sum.inr g.1,qP g)
def r6(a:Ad)(M:Mp)(rs:List Addr)(ws:List uW):Prop:=rs.length=ws.length/\∀(i:Nat) (r:Addr) (v:uW),rs[i]?=some r->ws[i]?=some v->M r=some (.ins (v.2.cls a) v.2.nv)
def rS(a:Ad)(M:Mp)(p:Addr)(l:pj):Prop:=Su λph gr ws on pr gd (rs:List Addr)=>M p=some (.ins a.h (Qi ph gr ws on pr gd))/\oy M ph=some (l.my.map qL)/\oy M gr=some (l.groups.map qP)/\
 oy M ws=some (rs.map D.ref)/\oy M on=some (l.mx.map λw=>D.bl w.1)/\zr M pr=some (Sm l)/\zr M gd=some (Hd l)/\r6 a M rs l.mx
def r6.keep{a:Ad}{M M':Mp}{p:Addr}{rs:List Addr}{ws:List uW}(h:r6 a M rs ws)(k:rN p M M')(n:∀r∈rs,r≠p):r6 a M' rs ws:=⟨h.1,λi r v e1 e2=>k r _ (n r (fQ e1)) (h.2 i r v e1 e2)⟩
def r6.sub{a:Ad}{M M':Mp}{rs:List Addr}{ws:List uW}(h:r6 a M rs ws)(k:qh M M'):r6 a M' rs ws:=⟨h.1,λi r v e1 e2=>k r _ (h.2 i r v e1 e2)⟩
def rS.sub{a:Ad}{M M':Mp}{p:Addr}{l:pj}(h:rS a M p l)(s:qh M M'):rS a M' p l:=by obtain⟨ph,gr,ws,on,pr,gd,rs,h1,h2,h3,h4,h5,h6,h7,h8⟩:=h;exact⟨ph,gr,ws,on,pr,gd,rs,s _ _ h1,s.lst h2,s.lst h3,s.lst h4,s.lst h5,s.dk h6,s.dk h7,h8.sub s⟩
def OX(a:Ad):qT:=λds M Q=>GC λp r1 r2 r3 (l:pj)=>ds=[.ref p,.ref r1,.ref r2,.ref r3]/\M p=some (.ins a.h [])/\oy M r1=some (l.my.map qL)/\oy M r2=some (l.groups.map qP)/\oy M r3=some (l.mx.map wN)/\rf l/\
 ∀M',rN p M M'->rS a M' p l->(∀Wq,(∀b c,(b=p\/M b=none)->M' b=some c->Wq b=some c)->rS a Wq p l)->Q .mC M'
def ra{M N:Mp}{p x:Addr}{c:uk}(k:rN p M N)(hp:N p=some c)(h:N x=none):M x=none:=by
 cases e:M x with
 | none=>rfl
 | some d=>
  have n:x≠p:=λz=>by rw[z,hp]at h;cases h
  rw[k x d n e]at h;cases h
def xO{M:Mp}{a:Addr}{es:List (qR×D)}(h:zr M a=some es):M a=some (.dk es):=by
 unfold zr at h;split at h
 .rename_i e;rw[e];cases h;rfl
 .cases h
theorem wc{α:Type}(f:α->Str)(g:α->D):∀l:List α,wj (l.map λx=>D.tup [.str (f x),g x])=some (l.map λx=>(Sum.inr (f x),g x))
 | []=>rfl
 | x::r=>by show(wj (r.map λx=>D.tup [.str (f x),g x])).map ((Sum.inr (f x),g x)::·)=_;rw[wc f g r];rfl
def JM{ss:List Str}(h:ss.Nodup):(ss.map λx=>(Sum.inr x:qR)).Nodup:=by
 induction ss with
 | nil=>exact eG
 | cons x r ih=>obtain⟨h1,h2⟩:=dO.mp h;rw[dS];refine dO.mpr ⟨λz=>h1 ?_,ih h2⟩;obtain⟨y,hy,e⟩:=dz.mp z;cases e;exact hy
def yC{α:Type}{f:α->Str}{g:α->D}{l:List α}(h:(l.map f).Nodup):((l.map λx=>((Sum.inr (f x):qR),g x)).map (·.1)).Nodup:=by rw[d9];have:=JM h;rw[d9]at this;exact this
noncomputable def AY(d:D):D:=.tup [Al d,d]
noncomputable def VI:D->D
 | .tup (x::_)=>x
 | _=>.mC
def Sa(ws:List uW):(ws.map wN).map VI=ws.map λw=>D.bl w.1:=by rw[d9];rfl
def FP(ps:List ur):(ps.map qL).map AY=ps.map λp=>D.tup [.str p.1,qL p]:=by rw[d9];rfl
def F8(ps:List ue):(ps.map qP).map AY=ps.map λp=>D.tup [.str p.1,qP p]:=by rw[d9];rfl
def r6.snoc{a:Ad}{M:Mp}{rs:List Addr}{ws:List uW}{r:Addr}{v:uW}(h:r6 a M rs ws)(n:M r=none):r6 a (oZ M r (.ins (v.2.cls a) v.2.nv)) (rs++[r]) (ws++[v]):=by
 refine⟨by rw[cX,cX,h.1];rfl,λi r' v' e1 e2=>?_⟩;by_cases hi:i<rs.length
 .rw[eZ hi]at e1;rw[eZ (by rw[<-h.1];exact hi)]at e2;have:=h.2 i r' v' e1 e2;rw[ua (Qe this n)];exact this
 .have Yk:i=rs.length:=by have:=(cV.mp e1).1;rw[cX,dQ]at this;omega
  subst Yk;rw[eS (dg _)]at e1;rw[h.1,eS (dg _)]at e2;simp only[hG,ir,jm]at e1 e2;subst e1 e2;exact pG
def NC(G:Gl K mg a):Fq P w K mg base 7 a.aj (OX a):=by
 refine fq G.aj.toDG ED (λr u=>⟨_,(oQ (pD (pq (Ce G) r G.bi (qN U1 U2 U3)))
 (oQ (pQ v0 (qg tH rfl G.y tI (pT U1)))
 (oQ (pQ v0 (qg tH rfl G.y tI (pT U2)))
 (oQ (pQ v0 (qw rfl (xV (ix:=[none,none]) (N':=["on","wish"])) (qv U3) (uT (n:=2) rfl (ql (qu 0) (ql (qu 1) tK))) rC (pq (GM G) r G.bc (pT U1))))
 (oQ (pQ v0 (qw rfl (xV (ix:=[none,none]) (N':=["on","wish"])) (qv U3) (uT (n:=2) rfl (ql (qu 0) (ql (qu 1) tK))) rC v0))
 (oQ (pQ v0 (qg (Fc rfl) rfl G.bS DT (pT (qw rfl (xV (ix:=[none]) (N':=["phone"])) (qv U1) (qu 0) rC (pC (rB (pz v0 oU) v0))))))
 (oS (pQ v0 (qg (Fc rfl) rfl G.bS DT (pT (qw rfl (xV (ix:=[none]) (N':=["group"])) (qv U2) (qu 0) rC (pC (rB (pz v0 oU) v0))))))))))))),?_⟩)
 rintro ds M Q ⟨p,r1,r2,r3,l,rfl,hp,h1,h2,h3,ok,q⟩
 have hz:=dM;have l1:=ok.p8;have l2:=ok.g3;have l3:=ok.w16;refine⟨r1,r2,r3,l,rfl,h1,h2,h3,ok,?_⟩;refine i' h1 λph hph=>?_;obtain⟨n1,e1,k1,c1,p1⟩:=sD (fs':=[("phones",.ref ph)]) (c:=.lst (l.my.map qL)) hp hph;refine oR e1 ⟨(G.Y "phones" rfl),by show 0<1000;decide,?_⟩;show ug _ _ _ _ (oZ (oZ M ph (.lst (l.my.map qL))) p (.ins a.h [("phones",.ref ph)]));generalize oZ (oZ M ph (.lst (l.my.map qL))) p (.ins a.h [("phones",.ref ph)])=N1 at k1 c1 p1 ⊢;have W4:=k1.lst (pI h1 hp) h1;have h2':=k1.lst (pI h2 hp) h2;have YX:=k1.lst (pI h3 hp) h3;have f1:oy N1 ph=some (l.my.map qL):=rk c1;refine i' h2' λgr hgr=>?_;obtain⟨n2,e2,k2,c2,p2⟩:=sD (fs':=[("phones",.ref ph),("groups",.ref gr)]) (c:=.lst (l.groups.map qP)) p1 hgr;refine oR e2 ⟨(G.Y "groups" rfl),by show 1<1000;decide,?_⟩;show ug _ _ _ _ (oZ (oZ N1 gr (.lst (l.groups.map qP))) p (.ins a.h [("phones",.ref ph),("groups",.ref gr)]));generalize oZ (oZ N1 gr (.lst (l.groups.map qP))) p (.ins a.h [("phones",.ref ph),("groups",.ref gr)])=N2 at k2 c2 p2 ⊢;have g1:=k2.lst (pI W4 p1) W4;have g2:=k2.lst (pI h2' p1) h2';have g3:=k2.lst (pI YX p1) YX;have f2:=k2.lst (pI f1 p1) f1;have f3:oy N2 gr=some (l.groups.map qP):=rk c2;have kk2:=k1.trans k2;have m2:M gr=none:=ra k1 p1 hgr;clear W4 h2' YX f1 c1 c2 k1 k2 e1 e2;refine i' g3 ?_;refine EQ (l.mx.map wN) (λpre acc δ Mx=>(∃x y,δ=[x,y])/\qh N2 Mx/\∃rs:List Addr,acc=rs.map D.ref/\(∀r∈rs,N2 r=none)/\r6 a Mx rs (l.mx.take pre.length)) (λpre acc δ Mx j=>j.2.1.lst g3) _ [] [] _ _ rfl (by rw[cT];simp only[dI];omega) ⟨⟨none,none,rfl⟩,.refl,[],rfl,λr hr=>absurd hr (dB),rfl,λi r v e=>by simp at e⟩ ?_ ?_
 .rintro pre d post e acc δ Mx ⟨⟨x,y,rfl⟩,sx,rs,rfl,fr,wa⟩ k hk
  obtain⟨v,hv,rfl⟩:∃v,l.mx[pre.length]?=some v/\d=wN v:=by
   have:(l.mx.map wN)[pre.length]?=some d:=by rw[<-e];simp
   rw[dA]at this;cases z:l.mx[pre.length]? with
   | none=>rw[z]at this;cases this
   | some v=>rw[z]at this;exact⟨v,rfl,(dh this).symm⟩
  refine⟨rfl,⟨v.2,rfl,λr hr=>hk _ _ _ ⟨⟨_,_,rfl⟩,sx.trans (.new hr),rs++[r],?_,λr' hr'=>?_,?_⟩⟩⟩
  .rw[dP];rfl
  .rcases dW.mp hr' with z|z
   .exact fr r' z
   .rw[dD.mp z];exact sx.none hr
  .rw[cX,dQ,gW,hv];exact wa.snoc hr
 rintro acc δ Mx ⟨⟨x,y,rfl⟩,sx,rs,rfl,fr,wa⟩ ws hws
 have wa:r6 a Mx rs l.mx:=by rw[cT,fN]at wa;exact wa
 obtain⟨n3,e3,k3,c3,p3⟩:=sD (fs':=[("phones",.ref ph),("groups",.ref gr),("wishes",.ref ws)]) (c:=.lst (rs.map D.ref)) (sx _ _ p2) hws;refine oR e3 ⟨(G.Y "wishes" rfl),by show 2<1000;decide,?_⟩;show ug _ _ _ _ (oZ (oZ Mx ws (.lst (rs.map D.ref))) p (.ins a.h [("phones",.ref ph),("groups",.ref gr),("wishes",.ref ws)]));generalize oZ (oZ Mx ws (.lst (rs.map D.ref))) p (.ins a.h [("phones",.ref ph),("groups",.ref gr),("wishes",.ref ws)])=N3 at k3 c3 p3 ⊢;have px:=sx _ _ p2;have i1:=k3.lst (pI (sx.lst g1) px) (sx.lst g1);have i2:=k3.lst (pI (sx.lst g2) px) (sx.lst g2);have i3:=k3.lst (pI (sx.lst g3) px) (sx.lst g3);have f4:=k3.lst (pI (sx.lst f2) px) (sx.lst f2);have f5:=k3.lst (pI (sx.lst f3) px) (sx.lst f3);have f6:oy N3 ws=some (rs.map D.ref):=rk c3;have rp:∀r∈rs,r≠p:=λr hr z=>by have:=fr r hr;rw[z,p2]at this;cases this
 have w3:=wa.keep k3 rp;have kk3:=(kk2.trans sx.keep).trans k3;have m3:M ws=none:=ra (kk2.trans sx.keep) px hws;have mr:∀r∈rs,M r=none:=λr hr=>ra kk2 p2 (fr r hr);clear g1 g2 g3 f2 f3 c3 k3 e3 wa px kk2;refine i' i3 (BB (f:=VI) (λδ=>∃x y,δ=[x,y]) i3 _ [] _ ⟨none,none,rfl⟩ (by rw[cT];simp only[dI];omega) (λd hd δ hj k hk=>?_) λon Zw=>?_)
 .obtain⟨x,y,rfl⟩:=hj;obtain⟨v,_,rfl⟩:=dz.mp hd;exact⟨rfl,hk _ ⟨_,_,rfl⟩⟩
 rw[dX,Sa];obtain⟨n4,e4,k4,c4,p4⟩:=sD (fs':=[("phones",.ref ph),("groups",.ref gr),("wishes",.ref ws),("on",.ref on)]) (c:=.lst (l.mx.map λw=>D.bl w.1)) p3 Zw;refine oR e4 ⟨(G.Y "on" rfl),by show 3<1000;decide,?_⟩;show ug _ _ _ _ (oZ (oZ N3 on (.lst (l.mx.map λw=>D.bl w.1))) p (.ins a.h [("phones",.ref ph),("groups",.ref gr),("wishes",.ref ws),("on",.ref on)]));generalize oZ (oZ N3 on (.lst (l.mx.map λw=>D.bl w.1))) p (.ins a.h [("phones",.ref ph),("groups",.ref gr),("wishes",.ref ws),("on",.ref on)])=N4 at k4 c4 p4 ⊢;have j1:=k4.lst (pI i1 p3) i1;have j2:=k4.lst (pI i2 p3) i2;have f7:=k4.lst (pI f4 p3) f4;have f8:=k4.lst (pI f5 p3) f5;have f9:=k4.lst (pI f6 p3) f6;have fa:oy N4 on=some (l.mx.map λw=>D.bl w.1):=rk c4;have w4:=w3.keep k4 rp;have Yp:=kk3.trans k4;have m4:M on=none:=ra kk3 p3 Zw;clear i1 i2 i3 f4 f5 f6 c4 k4 e4 w3 kk3;refine i' j1 (qM (f:=AY) j1 _ [] _ (by rw[cT];simp only[dI];omega) (λd hd k hk=>?_) λq1 Xk=>?_)
 .obtain⟨v,_,rfl⟩:=dz.mp hd;exact⟨oO rfl,hk⟩
 rw[dX,FP];have YY:=qh.new (c:=.lst (l.my.map λp=>D.tup [.str p.1,qL p])) Xk;refine i' o9 (i' (wc (λp:ur=>p.1) qL l.my) ⟨yC (im (List.sublist_append_left _ _) ok.nd),λpr hpr=>?_⟩);obtain⟨n5,e5,k5,c5,p5⟩:=sD (fs':=[("phones",.ref ph),("groups",.ref gr),("wishes",.ref ws),("on",.ref on),("phone_rows",.ref pr)]) (c:=.dk (l.my.map λx=>(Sum.inr x.1,qL x))) (YY _ _ p4) hpr;refine oR e5 ⟨(G.Y "phone_rows" rfl),by show 4<1000;decide,?_⟩;have k5:=YY.keep.trans k5;have Yc:vI "phone_rows" (.ref pr) [("phones",.ref ph),("groups",.ref gr),("wishes",.ref ws),("on",.ref on)]=([("phones",.ref ph),("groups",.ref gr),("wishes",.ref ws),("on",.ref on),("phone_rows",.ref pr)]:List (Str×D)):=rfl;rw[Yc];generalize oZ (oZ (oZ N4 q1 (.lst (l.my.map λp=>D.tup [.str p.1,qL p]))) pr (.dk (l.my.map λx=>(Sum.inr x.1,qL x)))) p (.ins a.h [("phones",.ref ph),("groups",.ref gr),("wishes",.ref ws),("on",.ref on),("phone_rows",.ref pr)])=N5 at k5 c5 p5 ⊢;have mm:=k5.lst (pI j2 p4) j2;have fb:=k5.lst (pI f7 p4) f7;have fc:=k5.lst (pI f8 p4) f8;have fd:=k5.lst (pI f9 p4) f9;have fe:=k5.lst (pI fa p4) fa;have ff:zr N5 pr=some (Sm l):=BK c5;have w5:=w4.keep k5 rp;have Yq:=Yp.trans k5;have m5:M pr=none:=ra (Yp.trans YY.keep) (YY _ _ p4) hpr;clear j1 j2 f7 f8 f9 fa c5 k5 e5 w4 Yp;refine i' mm (qM (f:=AY) mm _ [] _ (by rw[cT];simp only[dI];omega) (λd hd k hk=>?_) λq2 YH=>?_)
 .obtain⟨v,_,rfl⟩:=dz.mp hd;exact⟨oO rfl,hk⟩
 rw[dX,F8];have sq2:=qh.new (c:=.lst (l.groups.map λg=>D.tup [.str g.1,qP g])) YH;refine i' o9 (i' (wc (λp:ue=>p.1) qP l.groups) ⟨yC (im (jr _ _) ok.nd),λgd hgd=>?_⟩);obtain⟨n6,e6,k6,c6,p6⟩:=sD (fs':=Qi ph gr ws on pr gd) (c:=.dk (Hd l)) (sq2 _ _ p5) hgd;have k6:=sq2.keep.trans k6;refine oR e6 ⟨(G.Y "group_rows" rfl),by show 5<1000;decide,_,.refl,?_⟩;have m6:M gd=none:=ra (Yq.trans sq2.keep) (sq2 _ _ p5) hgd;have w6:=w5.keep k6 rp;have y1:=k6.lst (pI fb p5) fb;have y2:=k6.lst (pI fc p5) fc;have y3:=k6.lst (pI fd p5) fd;have y4:=k6.lst (pI fe p5) fe;have y5:=k6.dk (Bc ff p5) ff;refine q _ (Yq.trans k6) ⟨ph,gr,ws,on,pr,gd,rs,p6,y1,y2,y3,y4,y5,BK c6,w6⟩ λWq hs=>?_;exact⟨ph,gr,ws,on,pr,gd,rs,hs _ _ (.inl rfl) p6,rk (hs _ _ (.inr hph) (pJ y1)),rk (hs _ _ (.inr m2) (pJ y2)),rk (hs _ _ (.inr m3) (pJ y3)),rk (hs _ _ (.inr m4) (pJ y4)),BK (hs _ _ (.inr m5) (xO y5)),BK (hs _ _ (.inr m6) c6),w6.1,λi r v e1 e2=>hs _ _ (.inr (mr r (fQ e1))) (w6.2 i r v e1 e2)⟩
theorem xU{α:Type}(f:α->Str)(g:α->D)(k:Str):∀l:List α,ve (l.map λx=>((Sum.inr (f x):qR),g x)) (Sum.inr k)=(l.find? λx=>decide (f x=k)).map g
 | []=>rfl
 | x::r=>by
  have ih:=xU f g k r;unfold ve at ih ⊢;rw[dS,fH,fH];by_cases h:f x=k
  .have h':decide ((Sum.inr (f x):qR)=Sum.inr k)=true:=dR (by rw[h]);simp[h]
  .have h':¬(Sum.inr (f x):qR)=Sum.inr k:=λz=>h (jP z);simp only[h,h',decide_false];exact ih
noncomputable def pj.mR(l:pj)(x:Str):Option ur:=l.my.find? λp=>decide (p.1=x)
noncomputable def pj.group(l:pj)(x:Str):Option ue:=l.groups.find? λg=>decide (g.1=x)
noncomputable def pj.mv(l:pj)(x:Str):List Str:=(l.group x).elim [x] λg=>g.2.2
noncomputable def pj.mF(l:pj)(x:Str):Str:=(l.group x).elim "one" λg=>g.2.1
def FM(l:pj)(x:Str):ve (Sm l) (Sum.inr x)=(l.mR x).map qL:=xU (λp:ur=>p.1) qL x l.my
def vM(l:pj)(x:Str):ve (Hd l) (Sum.inr x)=(l.group x).map qP:=xU (λp:ue=>p.1) qP x l.groups
def yA(a:Ad):qT:=λds M Q=>B8 λp (l:pj)=>ds=[.ref p]/\rS a M p l/\l.my.length<=100/\∀q,M q=none->Q (.ref q) (oZ M q (.lst (l.pn.map D.str)))
def Ey(a:Ad):qT:=λds M Q=>B8 λp (l:pj)=>ds=[.ref p]/\rS a M p l/\l.my.length<=100/\l.groups.length<=100/\∀q,M q=none->Q (.ref q) (oZ M q (.lst (l.nm.map D.str)))
def Ez(a:Ad):qT:=λds M Q=>AU λp x v (l:pj)=>ds=[.ref p,.str x]/\rS a M p l/\l.mR x=some v/\Q (.int v.2.1) M
def Gn(a:Ad):qT:=λds M Q=>AU λp x v (l:pj)=>ds=[.ref p,.str x]/\rS a M p l/\l.mR x=some v/\Q (.int v.2.2) M
def zC(a:Ad):qT:=λds M Q=>CN λp x (l:pj)=>ds=[.ref p,.str x]/\rS a M p l/\∀q,M q=none->Q (.ref q) (oZ M q (.lst ((l.mv x).map D.str)))
def Cu(a:Ad):qT:=λds M Q=>CN λp x (l:pj)=>ds=[.ref p,.str x]/\rS a M p l/\Q (.str (l.mF x)) M
def tj(G:Gl K mg a):Fq P w K mg base 1 a.S (yA a):=by
 refine fq G.S.toDG xZ (λr u=>⟨_,(oS (oY (qw rfl (xV (ix:=[none]) (N':=["phone"])) (qv (oX v0)) (qu 0) rC (pz v0 oU)))),?_⟩)
 rintro ds M Q ⟨p,l,rfl,hp,hl,q⟩
 have hz:=dM;obtain⟨ph,gr,ws,on,pr,gd,rs,h1,h2,h3,h4,h5,h6,h7,h8⟩:=hp;refine oR h1 (i' rfl (i' h2 ?_));refine qM (f:=Al) h2 _ [] _ (by rw[cT];simp only[dI];omega) (λd hd k hk=>?_) λq1 Xk=>?_
 .obtain⟨x,_,rfl⟩:=dz.mp hd;exact hk
 rw[dX,wb];exact⟨_,.refl,q q1 Xk⟩
def CF(G:Gl K mg a):Fq P w K mg base 2 a.bA (Ey a):=by
 refine fq G.bA.toDG CJ (λr u=>⟨_,(oS (oY (pM (xX v0 G.h.toCls G.S (tj G) r) (qw rfl (xV (ix:=[none]) (N':=["group"])) (qv (oX v0)) (qu 0) rC (pz v0 oU))))),?_⟩)
 rintro ds M Q ⟨p,l,rfl,hp,hl,hl2,q⟩
 have hz:=dM;have WA:=hp;obtain⟨ph,gr,ws,on,pr,gd,rs,h1,h2,h3,h4,h5,h6,h7,h8⟩:=hp;refine oR h1 ⟨rfl,_,⟨rfl,rfl⟩,p,l,rfl,WA,hl,λq1 Xk=>?_⟩;have s1:=qh.new (c:=.lst (l.pn.map D.str)) Xk;have e1:=@o9 M q1 (l.pn.map D.str);generalize oZ M q1 (.lst (l.pn.map D.str))=M1 at s1 e1 ⊢;have YX:=s1.lst h3;refine oR (s1 _ _ h1) (i' rfl (i' YX ?_));refine qM (f:=Al) YX _ [] _ (by rw[cT];simp only[dI];omega) (λd hd k hk=>?_) λq2 YH=>?_
 .obtain⟨x,_,rfl⟩:=dz.mp hd;exact hk
 rw[dX,wD];have s2:=qh.new (c:=.lst ((l.groups.map (·.1)).map D.str)) YH;refine i' (s2.lst e1) (i' o9 ⟨?_,λq3 hq3=>?_⟩)
 .rw[cT,cT,cT];show(l.my.map (·.1)).length+_<=_;rw[cT];omega
 have en:l.pn.map D.str++(l.groups.map (·.1)).map D.str=l.nm.map D.str:=by unfold pj.nm;rw[dP];rfl
 rw[en];exact⟨_,(s1.trans s2).upd,q q3 ((s1.trans s2).none hq3)⟩
def Cz(G:Gl K mg a):Fq P w K mg base 1 a.bE (Ez a):=by
 refine fq G.bE.toDG Cs (λr u=>⟨_,(oS (oY (pz (zc u (oX v0) U1) oU))),?_⟩)
 rintro ds M Q ⟨p,x,v,l,rfl,hp,hv,q⟩
 obtain⟨ph,gr,ws,on,pr,gd,rs,h1,h2,h3,h4,h5,h6,h7,h8⟩:=hp;exact oR h1 (i' rfl (i' rfl (i' h6 (i' (x:=qL v) (by rw[FM,hv];rfl) ⟨M,.refl,q⟩))))
def zb(G:Gl K mg a):Fq P w K mg base 1 a.aL (Gn a):=by
 refine fq G.aL.toDG E8 (λr u=>⟨_,(oS (oY (pz (zc u (oX v0) U1) oU))),?_⟩)
 rintro ds M Q ⟨p,x,v,l,rfl,hp,hv,q⟩
 obtain⟨ph,gr,ws,on,pr,gd,rs,h1,h2,h3,h4,h5,h6,h7,h8⟩:=hp;exact oR h1 (i' rfl (i' rfl (i' h6 (i' (x:=qL v) (by rw[FM,hv];rfl) ⟨M,.refl,q⟩))))
def tT(G:Gl K mg a):Fq P w K mg base 1 a.V (zC a):=by
 refine fq G.V.toDG yL (λr u=>⟨_,(oQ (pE (LU u U1 (oX v0))
 (oS (oY (qg tH rfl G.y tI (pT (pz (zc u (oX v0) U1) oU)))))
 pk)
 (oS (oY (qm (pT U1))))),?_⟩)
 rintro ds M Q ⟨p,x,l,rfl,hp,q⟩
 obtain⟨ph,gr,ws,on,pr,gd,rs,h1,h2,h3,h4,h5,h6,h7,h8⟩:=hp;refine oR h1 (i' rfl (i' h7 ?_));cases e:l.group x with
 | none=>refine Nc (c:=(ve (Hd l) (Sum.inr x)).isSome) (by rw[vM,e];rfl) ⟨oO rfl,λq1 Xk=>⟨_,.refl,?_⟩⟩;have:=q q1 Xk;unfold pj.mv at this;rw[e]at this;exact this
 | some g=>refine Av (c:=(ve (Hd l) (Sum.inr x)).isSome) (by rw[vM,e];rfl) (oR h1 (i' rfl (i' rfl (i' h7 (i' (x:=qP g) (by rw[vM,e];rfl) λq1 Xk=>⟨_,.refl,?_⟩)))));have:=q q1 Xk;unfold pj.mv at this;rw[e]at this;exact this
def xE(G:Gl K mg a):Fq P w K mg base 1 a.aJ (Cu a):=by
 refine fq G.aJ.toDG B5 (λr u=>⟨_,(oQ (pE (LU u U1 (oX v0))
 (oS (oY (pz (zc u (oX v0) U1) oU)))
 pk)
 (oS (oY oV))),?_⟩)
 rintro ds M Q ⟨p,x,l,rfl,hp,q⟩
 obtain⟨ph,gr,ws,on,pr,gd,rs,h1,h2,h3,h4,h5,h6,h7,h8⟩:=hp;refine oR h1 (i' rfl (i' h7 ?_));cases e:l.group x with
 | none=>refine Nc (c:=(ve (Hd l) (Sum.inr x)).isSome) (by rw[vM,e];rfl) ⟨M,.refl,?_⟩;unfold pj.mF at q;rw[e]at q;exact q
 | some g=>refine Av (c:=(ve (Hd l) (Sum.inr x)).isSome) (by rw[vM,e];rfl) (oR h1 (i' rfl (i' rfl (i' h7 (i' (x:=qP g) (by rw[vM,e];rfl) ⟨M,.refl,?_⟩)))));unfold pj.mF at q;rw[e]at q;exact q
noncomputable def Oj:List Int:=[1,1,2,2,3]
noncomputable def OQ:List Int:=[0,1,1,2,5,9]
noncomputable def Ow:List Str:=["all","turns"]
noncomputable def F7(t:List Int)(i:Int):Int:=t.getD i.toNat 0
noncomputable def vE(s:Int)(i:Nat):ur:=(xw s (0+(i:Nat)),F7 Oj (draw (s+17*(0+(i:Nat))*(0+(i:Nat))) 16807 5),F7 OQ (draw (s+17*(0+(i:Nat))*(0+(i:Nat))) 39373 6))
noncomputable def rc(s m:Int):Nat:=(2+draw s 48271 (m - 1)).toNat
noncomputable def qd(s m:Int):List ur:=(List.range (rc s m)).map (vE s)
noncomputable def zv(s:Int)(own:List Str)(i:Nat):ue:=(xw s (8+(0+(i:Nat))),B7 Ow (draw (s+5*(0+(i:Nat))) 742938285 2),vn own (s+11*(0+(i:Nat))) 4)
noncomputable def vk(s:Int):Nat:=(draw s 69621 3).toNat
noncomputable def qK(s:Int)(own:List Str):List ue:=(List.range (vk s)).map (zv s own)
def Gb{ts:List Int}{i:Int}(h0:0<=i)(h1:i<ts.length):vY (ts.map D.int) i=some (D.int (F7 ts i)):=by
 obtain⟨n,rfl⟩:=eh h0;have XU:n<ts.length:=by omega
 refine uJ ?_;rw[dA,cW XU];simp[F7,XU]
def BH{n:Nat}{pre post:List D}{d:D}(e:pre++d::post=(List.range n).map λi=>D.int (0+(i:Nat))):d=.int (0+(pre.length:Nat))/\pre.length<n:=by
 have h:((List.range n).map λi=>D.int (0+(i:Nat)))[pre.length]?=some d:=by rw[<-e];simp
 have hl:pre.length<n:=by
  have:=(cV.mp h).1
  simpa using this
 rw[dA,kr hl]at h;exact⟨(dh h).symm,hl⟩
def BD{α β:Type}(f:Nat->α)(g:α->β)(n:Nat):((List.range n).map f).map g++[g (f n)]=((List.range (n+1)).map f).map g:=by rw[jO,dP,dP];rfl
def Hb:qT:=λds M Q=>B8 λs m=>ds=[.int s,.int m]/\2<=m/\m<=100/\∀q,M q=none->Q (.ref q) (oZ M q (.lst ((qd s m).map qL)))
def He:qT:=λds M Q=>CN λs o own=>ds=[.int s,.ref o]/\oy M o=some (own.map D.str)/\own≠[]/\own.length<=64/\∀q,M q=none->Q (.ref q) (oZ M q (.lst ((qK s own).map qP)))
def wk{s m:Int}(h2:2<=m)(h:m<=100):rc s m<=100/\2<=rc s m:=by have d0:=qJ (c:=s) (f:=48271) (m:=m - 1) (by omega);have d1:=qC (c:=s) (f:=48271) (m:=m - 1) (by omega);unfold rc;omega
def wG{s:Int}:vk s<=3:=by have d0:=qJ (c:=s) (f:=69621) (m:=3) (by decide);have d1:=qC (c:=s) (f:=69621) (m:=3) (by decide);unfold vk;omega
def Hl(G:Gl K mg a):Fq P w K mg base 2 a.bj Hb:=by
 refine fq G.bj.toDG ut (λr u=>⟨_,(oQ (pB 2 ut (qm sC))
 (oQ (uB fu rfl (vO rfl G.aO (pT (pM oU (pq (qA G) r G.i (qN v0 oU (pM U1 oU)))))) (rg 3 ut)
 (oQ (pB 4 ut (pz (pC (pN oU (pN oU (qN oU oU oU)))) (pq (qA G) r G.i (qN (pM v0 (pM (pM oU U3) U3)) oU oU))))
 (oS (pD (rA U2 (pT (pC (qN (pq (HV G) r G.ae (rB v0 U3)) v4 (pz (pC (pN oU (pN oU (pN oU (qN oU oU oU))))) (pq (qA G) r G.i (qN (pM v0 (pM (pM oU U3) U3)) oU oU)))))))))))
 (oS (oY U2)))),?_⟩)
 rintro ds M Q ⟨s,m,rfl,h2,h100,q⟩
 have hz:=dM;have d0:=qJ (c:=s) (f:=48271) (m:=m - 1) (by omega);have d1:=qC (c:=s) (f:=48271) (m:=m - 1) (by omega);have nl:=(wk (s:=s) h2 h100).1;refine⟨oO rfl,λr hr=>⟨s,_,_,rfl,by show 0<m - 1;omega,rfl,⟨?_,?_⟩,?_⟩⟩
 .show -(2 ^ 62)<=2+draw s 48271 (m - 1);omega
 .show 2+draw s 48271 (m - 1)<2 ^ 62;omega
 refine wm ((List.range (rc s m)).map λi=>D.int (0+(i:Nat))) (λpre δ M'=>M'=oZ M r (.lst (((List.range pre.length).map (vE s)).map qL))/\∃x y,δ=[some (.int s),some (.int m),some (.ref r),x,y]) (λ_ _ _ _=>trivial) _ [] _ _ rfl ⟨rfl,none,none,rfl⟩ ?_ ?_
 .rintro pre d post e δ M' ⟨rfl,x,y,rfl⟩ nx Wy
  obtain⟨rfl,Wx⟩:=BH e;generalize hi:pre.length=i at Wx Wy ⊢;have cm:Cv (17*(0+(i:Int))) (0+(i:Int)):=.inr ⟨by omega,by omega⟩;have c17:Cv 17 (0+(i:Int)):=.inl ⟨by decide,by decide⟩;have t5:vY [D.int 1,.int 1,.int 2,.int 2,.int 3] (draw (s+17*(0+(i:Int))*(0+(i:Int))) 16807 5)=some (.int (vE s i).2.1):=Gb (ts:=Oj) (qJ (by decide)) (qC (by decide));have t6:vY [D.int 0,.int 1,.int 1,.int 2,.int 5,.int 9] (draw (s+17*(0+(i:Int))*(0+(i:Int))) 39373 6)=some (.int (vE s i).2.2):=Gb (ts:=OQ) (qJ (by decide)) (qC (by decide));refine⟨oO rfl,c17,cm,_,_,_,rfl,by decide,i' t5 ?_⟩;refine⟨by show(oy _ r).isSome=true;rw[o9];rfl,s,_,rfl,oO rfl,c17,cm,_,_,_,rfl,by decide,i' t6 ⟨oO rfl,i' o9 ⟨?_,?_⟩⟩⟩
  .rw[cT,cT,eD];omega
  .refine Wy _ _ ⟨?_,_,_,rfl⟩;rw[qZ,cX,hi];show oZ M r (.lst (_++[qL (vE s i)]))=_;rw[BD];rfl
 .rintro δ M' ⟨rfl,x,y,rfl⟩
  refine⟨_,.refl,?_⟩;rw[cT,eD];exact q r hr
def Hc(G:Gl K mg a):Fq P w K mg base 3 a.bk He:=by
 refine fq G.bk.toDG ux (λr u=>⟨_,(oQ (pB 2 ux (qm sC))
 (oQ (uB fu rfl (vO rfl G.aO (pT (pq (qA G) r G.i (qN v0 oU oU)))) (rg 3 ux)
 (oQ (pB 4 ux (pz (pC (rB oV oV)) (pq (qA G) r G.i (qN (pM v0 (pM oU U3)) oU oU))))
 (oS (pD (rA U2 (pT (pC (qN (pq (HV G) r G.ae (rB v0 (pM oU U3))) v4 (pq (xH G) r G.P (qN U1 (pM v0 (pM oU U3)) oU))))))))))
 (oS (oY U2)))),?_⟩)
 rintro ds M Q ⟨s,o,own,rfl,ho,WK,h64,q⟩
 have hz:=dM;have d0:=qJ (c:=s) (f:=69621) (m:=3) (by decide);have d1:=qC (c:=s) (f:=69621) (m:=3) (by decide);have nl:=wG (s:=s);refine⟨oO rfl,λr hr=>⟨s,_,_,rfl,by decide,rfl,⟨?_,?_⟩,?_⟩⟩
 .show -(2 ^ 62)<=draw s 69621 3;omega
 .show draw s 69621 3<2 ^ 62;omega
 have nor:o≠r:=λz=>by rw[z]at ho;unfold oy at ho;rw[hr]at ho;cases ho
 refine wm ((List.range (vk s)).map λi=>D.int (0+(i:Nat))) (λpre δ M'=>M'=oZ M r (.lst (((List.range pre.length).map (zv s own)).map qP))/\∃x y,δ=[some (.int s),some (.ref o),some (.ref r),x,y]) (λ_ _ _ _=>trivial) _ [] _ _ rfl ⟨rfl,none,none,rfl⟩ ?_ ?_
 .rintro pre d post e δ M' ⟨rfl,x,y,rfl⟩ nx Wy
  obtain⟨rfl,Wx⟩:=BH e;generalize hi:pre.length=i at Wx Wy ⊢;have c5:Cv 5 (0+(i:Int)):=.inl ⟨by decide,by decide⟩;have c11:Cv 11 (0+(i:Int)):=.inl ⟨by decide,by decide⟩;have tm:vY [D.str "all",.str "turns"] (draw (s+5*(0+(i:Int))) 742938285 2)=some (.str (zv s own i).2.1):=G6 (row:=Ow) (qJ (by decide)) (qC (by decide));have WZ:oy (oZ M r (.lst (((List.range i).map (zv s own)).map qP))) o=some (own.map D.str):=by unfold oy;rw[ua nor];exact ho
  refine⟨oO rfl,c5,_,_,_,rfl,by decide,i' tm ?_⟩;refine⟨by show(oy _ r).isSome=true;rw[o9];rfl,s,_,rfl,c11,o,_,_,own,rfl,WZ,WK,by decide,h64,oO rfl,i' o9 ⟨?_,?_⟩⟩
  .rw[cT,cT,eD];omega
  .refine Wy _ _ ⟨?_,_,_,rfl⟩;rw[qZ,cX,hi];show oZ M r (.lst (_++[qP (zv s own i)]))=_;rw[BD];rfl
 .rintro δ M' ⟨rfl,x,y,rfl⟩
  refine⟨_,.refl,?_⟩;rw[cT,eD];exact q r hr
noncomputable def Io(ns:List Int)(own nm:List Str)(i:Nat):uW:=(decide (0<draw (cell ns (1+(0+(i:Nat)))+31*(0+(i:Nat))*(0+(i:Nat))) 22695477 6),vS (cell ns (1+(0+(i:Nat)))+31*(0+(i:Nat))*(0+(i:Nat))) own nm)
noncomputable def wC(s:Int):Nat:=(draw s 950706376 11).toNat
noncomputable def vP(ns:List Int)(m:Int):pj:=
 let s:=cell ns 0;let own:=(qd s m).map (·.1);let gs:=qK s own
 ⟨qd s m,gs,(List.range (wC s)).map (Io ns own (own++gs.map (·.1)))⟩
def Mv:qT:=λds M Q=>B8 λns m=>ds=[.rl (ns.map D.int),.int m]/\2<=m/\m<=8/\∀r1 r2 r3 M',qh M M'->oy M' r1=some ((vP ns m).my.map qL)->oy M' r2=some ((vP ns m).groups.map qP)->oy M' r3=some ((vP ns m).mx.map wN)->Q (.tup [.ref r1,.ref r2,.ref r3]) M'
def Li(G:Gl K mg a):Fq P w K mg base 4 a.bm Mv:=by
 refine fq G.bm.toDG rO (λr u=>⟨_,(oQ (pB 2 rO (pq (Ly G) r G.O (rB v0 oU)))
 (oQ (pB 3 rO (pq (Hl G) r G.bj (rB U2 U1)))
 (oQ (uQ (i:=4) rO.nd rfl (Or.inl rfl) rfl (xV (ix:=[none]) (N':=["_law_phone"])) (qv U3) (qu 0) rC (pz v0 oU))
 (oQ (pB 5 rO (pq (Hc G) r G.bk (rB U2 v4)))
 (oQ (pB 6 rO (pM v4 (qw rfl (xV (ix:=[none]) (N':=["_law_group"])) (qv v5) (qu 0) rC (pz v0 oU))))
 (oQ (pB 7 rO (qm sC))
 (oQ (uB fu rfl (vO rfl G.aO (pT (pq (qA G) r G.i (qN U2 oU oU)))) (rg 8 rO)
 (oQ (pB 9 rO (pM (pq (Ly G) r G.O (rB v0 (pM oU v8))) (pM (pM oU v8) v8)))
 (oS (pD (rA v7 (pT (pC (rB (pW u (pq (qA G) r G.i (qN v9 oU oU)) oU) (pq (Nt G) r G.bl (qN v9 v4 v6))))))))))
 (oS (oY (pC (qN U3 v5 v7))))))))))),?_⟩)
 rintro ds M Q ⟨ns,m,rfl,h2,h8,q⟩
 have hz:=dM;have pl:=wk (s:=cell ns 0) h2 (by omega);have p8:rc (cell ns 0) m<=8:=by have d1:=qC (c:=cell ns 0) (f:=48271) (m:=m - 1) (by omega);unfold rc;omega
 have gl:=wG (s:=cell ns 0);have lp:(qd (cell ns 0) m).length=rc (cell ns 0) m:=by unfold qd;rw[cT,eD]
 refine⟨ns,0,rfl,cell ns 0,m,rfl,h2,by omega,λr1 W5=>?_⟩;have s1:=qh.new (c:=.lst ((qd (cell ns 0) m).map qL)) W5;have a1:=@o9 M r1 ((qd (cell ns 0) m).map qL);generalize oZ M r1 (.lst ((qd (cell ns 0) m).map qL))=M1 at s1 a1 ⊢;refine i' a1 (qM (f:=Al) a1 _ [] _ (by rw[cT];simp only[dI];omega) (λd hd k hk=>?_) λo ho=>?_)
 .obtain⟨x,_,rfl⟩:=dz.mp hd;exact hk
 rw[dX,wb];have s2:=s1.trans (qh.new (c:=.lst (((qd (cell ns 0) m).map (·.1)).map D.str)) ho);have b1:=(qh.new (c:=.lst (((qd (cell ns 0) m).map (·.1)).map D.str)) ho).lst a1;have bo:=@o9 M1 o (((qd (cell ns 0) m).map (·.1)).map D.str);generalize oZ M1 o (.lst (((qd (cell ns 0) m).map (·.1)).map D.str))=M2 at s2 b1 bo ⊢;have ol:((qd (cell ns 0) m).map (·.1)).length=rc (cell ns 0) m:=by rw[cT,lp]
 have one:(qd (cell ns 0) m).map (·.1)≠[]:=λz=>by rw[z]at ol;have:0=rc (cell ns 0) m:=ol;omega
 have WA:vP ns m=⟨qd (cell ns 0) m,qK (cell ns 0) ((qd (cell ns 0) m).map (·.1)),(List.range (wC (cell ns 0))).map (Io ns ((qd (cell ns 0) m).map (·.1)) ((qd (cell ns 0) m).map (·.1)++(qK (cell ns 0) ((qd (cell ns 0) m).map (·.1))).map (·.1)))⟩:=rfl;rw[WA]at q;generalize (qd (cell ns 0) m).map (·.1)=own at bo ol one q ⊢;refine⟨cell ns 0,o,own,rfl,bo,one,by omega,λr2 YI=>?_⟩;have t3:=qh.new (c:=.lst ((qK (cell ns 0) own).map qP)) YI;have c2:=@o9 M2 r2 ((qK (cell ns 0) own).map qP);have c1:=t3.lst b1;have co:=t3.lst bo;have s3:=s2.trans t3;generalize oZ M2 r2 (.lst ((qK (cell ns 0) own).map qP))=M3 at s3 c1 c2 co ⊢;have gll:(qK (cell ns 0) own).length=vk (cell ns 0):=by unfold qK;rw[cT,eD]
 refine i' c2 (qM (f:=Al) c2 _ [] _ (by rw[cT];simp only[dI];omega) (λd hd k hk=>?_) λx4 hx4=>?_)
 .obtain⟨x,_,rfl⟩:=dz.mp hd;exact hk
 rw[dX,wD];have t4:=qh.new (c:=.lst (((qK (cell ns 0) own).map (·.1)).map D.str)) hx4;refine i' (t4.lst co) (i' o9 ⟨?_,λn hn=>?_⟩)
 .rw[cT,cT,cT];omega
 have en:own.map D.str++((qK (cell ns 0) own).map (·.1)).map D.str=(own++(qK (cell ns 0) own).map (·.1)).map D.str:=by rw[dP]
 rw[en];have nl:(own++(qK (cell ns 0) own).map (·.1)).length=rc (cell ns 0) m+vk (cell ns 0):=by rw[cX,cT,ol,gll]
 have t5:=t4.trans (qh.new (c:=.lst ((own++(qK (cell ns 0) own).map (·.1)).map D.str)) hn);have en5:=@o9 (oZ M3 x4 (.lst (((qK (cell ns 0) own).map (·.1)).map D.str))) n ((own++(qK (cell ns 0) own).map (·.1)).map D.str);have e1:=t5.lst c1;have e2:=t5.lst c2;have eo:=t5.lst co;have s5:=s3.trans t5;generalize oZ (oZ M3 x4 (.lst (((qK (cell ns 0) own).map (·.1)).map D.str))) n (.lst ((own++(qK (cell ns 0) own).map (·.1)).map D.str))=M5 at s5 e1 e2 eo en5 ⊢;generalize own++(qK (cell ns 0) own).map (·.1)=nm at en5 nl q ⊢;have d0:=qJ (c:=cell ns 0) (f:=950706376) (m:=11) (by decide);have d1:=qC (c:=cell ns 0) (f:=950706376) (m:=11) (by decide);refine⟨oO rfl,λr3 XZ=>⟨_,_,_,rfl,by decide,rfl,⟨?_,?_⟩,?_⟩⟩
 .show -(2 ^ 62)<=draw (cell ns 0) 950706376 11;omega
 .show draw (cell ns 0) 950706376 11<2 ^ 62;omega
 have t6:=qh.new (c:=.lst []) XZ;have g3:=@o9 M5 r3 [];have no:o≠r3:=λz=>by have:=pJ eo;rw[z,XZ]at this;cases this
 have nn:n≠r3:=λz=>by have:=pJ en5;rw[z,XZ]at this;cases this
 have n1:r1≠r3:=λz=>by have:=pJ e1;rw[z,XZ]at this;cases this
 have n2:r2≠r3:=λz=>by have:=pJ e2;rw[z,XZ]at this;cases this
 have f1:=t6.lst e1;have f2:=t6.lst e2;have fo:=t6.lst eo;have fn:=t6.lst en5;have k6:qh M (oZ M5 r3 (.lst [])):=s5.trans t6;have nr:M r3=none:=s5.none XZ;generalize oZ M5 r3 (.lst [])=M6 at f1 f2 fo fn k6 g3 ⊢;have wl:wC (cell ns 0)<=10:=by unfold wC;omega
 refine wm ((List.range (wC (cell ns 0))).map λi=>D.int (0+(i:Nat))) (λpre δ M'=>rN r3 M6 M'/\oy M' r3=some (((List.range pre.length).map (Io ns own nm)).map wN)/\∃x y,δ=[some (.rl (ns.map D.int)),some (.int m),some (.int (cell ns 0)),some (.ref r1),some (.ref o),some (.ref r2),some (.ref n),some (.ref r3),x,y]) (λp δ M' j=>trivial) _ [] _ _ rfl ⟨λ_ _ _ h=>h,g3,none,none,rfl⟩ ?_ ?_
 .rintro pre d post e δ M' ⟨kp,lr,x,y,rfl⟩ nx Wy
  obtain⟨rfl,Wx⟩:=BH e;generalize hi:pre.length=i at Wx Wy lr ⊢;have c31:Cv 31 (0+(i:Int)):=.inl ⟨by decide,by decide⟩;have cm:Cv (31*(0+(i:Int))) (0+(i:Int)):=.inr ⟨by omega,by omega⟩;refine⟨ns,_,rfl,c31,cm,?_⟩;refine⟨by show(oy M' r3).isSome=true;rw[lr];rfl,_,_,_,rfl,by decide,_,o,n,own,nm,rfl,kp.lst no fo,kp.lst nn fn,one,by omega,by omega,by omega,oO rfl,i' lr ⟨?_,?_⟩⟩
  .rw[cT,cT,eD];omega
  .refine Wy _ _ ⟨kp.trans .put,?_,_,_,rfl⟩;rw[o9,cX,hi];show some (_++[wN (Io ns own nm i)])=_;rw[BD];rfl
 .rintro δ M' ⟨kp,lr,x,y,rfl⟩
  rw[cT,eD]at lr;exact⟨oO rfl,M',.refl,q r1 r2 r3 M' (λb c h=>kp b c (λz=>by rw[z,nr]at h;cases h) (k6 b c h)) (kp.lst n1 f1) (kp.lst n2 f2) lr⟩
theorem BJ(x:Array Nat):∀(n:Nat) (acc:Array Nat),((List.replicate n x).foldl (·++·) acc).toList=acc.toList++(List.replicate n x.toList).flatten
 | 0,acc=>by simp
 | n+1,acc=>by rw[eF,fT,BJ x n (acc++x),eF,fO,iT,fj]
theorem FO(c:Nat):∀n:Nat,(List.replicate n [c]).flatten=List.replicate n c
 | 0=>rfl
 | n+1=>by rw[eF,fO,FO c n,eF];rfl
def Dl(i n:Int):(yt (tN i) n).cps.toList=List.replicate n.toNat (97+i.toNat):=by show((List.replicate n.toNat (tN i).cps).foldl (·++·) #[]:Array Nat).toList=_;rw[BJ];show[]++(List.replicate n.toNat [97+i.toNat]).flatten=_;rw[dX,FO]
def xJ(s v:Int):(xw s v).cps.toList=List.replicate (uf s).toNat (97+(s / 36 % 26).toNat)++(97+((s / 936+v) % 26).toNat)::List.replicate (size s - 1 - uf s).toNat (97+(s / 36 % 26).toNat):=by show((yt (tN (s / 36 % 26)) (uf s)).cps++(tN ((s / 936+v) % 26)).cps++(yt (tN (s / 36 % 26)) (size s - 1 - uf s)).cps).toList=_;rw[iT,iT,Dl,Dl];show _++[97+((s / 936+v) % 26).toNat]++_=_;rw[fj];rfl
def Bi(s v:Int):1<=(xw s v).length/\(xw s v).length<=6:=by
 have e:(xw s v).length=(xw s v).cps.toList.length:=by simp[Str.length]
 rw[e,xJ,cX,d6,iB,iB];have h1:=Gk s;have h2:=HL s;have h3:0<=uf s:=eQ _ (by omega);have h4:uf s<size s:=eN _ h1;omega
def Lb{i:Int}(h0:0<=i)(h1:i<26):Ci ⟨#[97+i.toNat]⟩ ub=true:=by
 obtain⟨n,rfl⟩:=eh h0;have hn:n<26:=by omega
 have key:∀n:_root_.Fin 26,Ci ⟨#[97+n.val]⟩ ub=true:=by decide+kernel
 exact key ⟨n,hn⟩
def Di(s v:Int):tX (xw s v)=true:=by
 obtain⟨h1,h2⟩:=Bi s v;unfold tX;rw[dR (show(1:Int)<=(xw s v).length by omega),dR (show((xw s v).length:Int)<=6 by omega),eI,eI,eL];intro c hc;rw[xJ]at hc;have k1:=Lb (eQ (s / 36) (show(26:Int)≠0 by decide)) (eN (s / 36) (by decide));have k2:=Lb (eQ (s / 936+v) (show(26:Int)≠0 by decide)) (eN (s / 936+v) (by decide));rcases dW.mp hc with z|z
 .rw[jF z];exact k1
 .rcases df.mp z with z|z
  .rw[z];exact k2
  .rw[jF z];exact k1
def Bx{s u v:Int}(hu:0<=u)(hu':u<26)(hv:0<=v)(hv':v<26)(e:xw s u=xw s v):u=v:=by
 have e':(xw s u).cps.toList=(xw s v).cps.toList:=by rw[e]
 rw[xJ,xJ]at e';have:=(List.append_cancel_left e');have:=(gM this).1;have a1:=eQ (s / 936+u) (show(26:Int)≠0 by decide);have a2:=eQ (s / 936+v) (show(26:Int)≠0 by decide);have h:(s / 936+u) % 26=(s / 936+v) % 26:=by omega
 omega
def Ew{ss:List Str}{x:Str}(h:x∈ss):xB ss x:=gp.mpr ⟨x,h,by simp⟩
def AS{row:List Str}{i:Int}(h0:0<=i)(h1:i<row.length):B7 row i∈row:=by
 obtain⟨n,rfl⟩:=eh h0;have hn:n<row.length:=by omega
 have:B7 row (n:Int)=row[n]:=by simp[B7,hn]
 rw[this];exact hZ hn
def Iz{row:List Str}{i j:Int}(nd:row.Nodup)(h0:0<=i)(h1:i<row.length)(g0:0<=j)(g1:j<row.length)(e:B7 row i=B7 row j):i=j:=by
 obtain⟨n,rfl⟩:=eh h0;obtain⟨k,rfl⟩:=eh g0;have hn:n<row.length:=by omega
 have hk:k<row.length:=by omega
 have e1:B7 row (n:Int)=row[n]:=by simp[B7,hn]
 have e2:B7 row (k:Int)=row[k]:=by simp[B7,hk]
 rw[e1,e2]at e;have pw:=js.mp nd;rcases Nat.lt_trichotomy n k with z|z|z
 .exact absurd e (pw n k hn hk z)
 .rw[z]
 .exact absurd e.symm (pw k n hk hn z)
def zB{α:Type}(f:Nat->α)(n:Nat)(h:∀i j,i<n->j<n->f i=f j->i=j):((List.range n).map f).Nodup:=by refine js.mpr λi j hi hj Wx e=>?_;rw[cT,eD]at hi hj;rw[lN,lN,kQ,kQ]at e;have:=h i j hi hj e;omega
def Br{row:List Str}{c m:Int}(hr:row≠[])(hm:0<m):1<=wM row c m/\(wM row c m:Int)<=m/\wM row c m<=row.length:=by
 have hl:0<row.length:=fA.mpr hr;have d0:=qJ (c:=c) (f:=40692) (m:=if (row.length:Int)<m then(row.length:Int)else m) (by split<;>omega);have d1:=qC (c:=c) (f:=40692) (m:=if (row.length:Int)<m then(row.length:Int)else m) (by split<;>omega);unfold wM;by_cases h:(row.length:Int)<m
 .rw[c9 h]at d0 d1 ⊢;omega
 .rw[cY h]at d0 d1 ⊢;omega
def BY{row:List Str}{c:Int}(hr:row≠[])(j:Nat):0<=(draw c 69621 row.length+(0+(j:Nat))) % (row.length:Int)/\(draw c 69621 row.length+(0+(j:Nat))) % (row.length:Int)<row.length:=by have hl:0<row.length:=fA.mpr hr;exact⟨eQ _ (by omega),eN _ (by omega)⟩
def Jb{d n i j:Int}(hn:0<n)(hi:0<=i)(Yk:i<n)(hj:0<=j)(hj':j<n)(e:(d+i) % n=(d+j) % n):i=j:=by
 have h1:=j3 (d+i) n;have h2:=j3 (d+j) n;generalize (d+i) / n=a at h1;generalize (d+j) / n=b at h2;have h3:i - j=n*(a - b):=by rw[Int.mul_sub];omega
 rcases Int.lt_trichotomy (a - b) 0 with z|z|z
 .have:n*(a - b)<=n*(-1):=iR (by omega) (by omega);omega
 .rw[z]at h3;omega
 .have:n*1<=n*(a - b):=iR (by omega) (by omega);omega
def Hj{row:List Str}{c m:Int}(nd:row.Nodup)(hr:row≠[])(hm:0<m):(vn row c m).Nodup:=by have hl:0<row.length:=fA.mpr hr;obtain⟨_,_,l3⟩:=Br (c:=c) hr hm;refine zB _ _ λi j hi hj e=>?_;obtain⟨a0,a1⟩:=BY (c:=c) hr i;obtain⟨b0,b1⟩:=BY (c:=c) hr j;have e':=Iz nd a0 a1 b0 b1 e;have:=Jb (d:=draw c 69621 row.length) (n:=row.length) (i:=0+(i:Nat)) (j:=0+(j:Nat)) (by omega) (by omega) (by omega) (by omega) (by omega) e';omega
def wX{row:List Str}{c m k:Int}(nd:row.Nodup)(hr:row≠[])(hm:0<m)(hk:m<=k):rW (vn row c m) row k=true:=by
 obtain⟨l1,l2,l3⟩:=Br (c:=c) hr hm;have el:(vn row c m).length=wM row c m:=by unfold vn;rw[cT,eD]
 unfold rW;rw[el,dR (show(1:Int)<=wM row c m by omega),dR (show(wM row c m:Int)<=k by omega),Df (Hj nd hr hm),eI,eI,eI,eL];intro x hx;unfold vn at hx;obtain⟨j,_,rfl⟩:=dz.mp hx;obtain⟨a0,a1⟩:=BY (c:=c) hr j;exact Ew (AS a0 a1)
def A9{row:List Str}{c m:Int}(hr:row≠[])(hm:0<m)(h:m<=100):(vn row c m).length<4000:=by
 obtain⟨l1,l2,l3⟩:=Br (c:=c) hr hm;have el:(vn row c m).length=wM row c m:=by unfold vn;rw[cT,eD]
 omega
def Pm{c:Int}{own all:List Str}(no:own.Nodup)(na:all.Nodup)(ho:own≠[])(ha:2<=all.length):Bp own all (vS c own all):=by
 have hl:(0:Int)<own.length:=by have:=fA.mpr ho;omega
 have ha0:all≠[]:=λz=>by rw[z]at ha;simp at ha
 have hx:=Ew (AS (qJ (c:=c) (f:=16807) hl) (qC (c:=c) (f:=16807) hl));have p0:=qJ (c:=c) (f:=39373) (m:=all.length) (by omega);have p1:=qC (c:=c) (f:=39373) (m:=all.length) (by omega);have e0:=qJ (c:=c) (f:=742938285) (m:=(all.length:Int) - 1) (by omega);have e1:=qC (c:=c) (f:=742938285) (m:=(all.length:Int) - 1) (by omega);have z0:=eQ (draw c 39373 all.length+1+draw c 742938285 ((all.length:Int) - 1)) (show(all.length:Int)≠0 by omega);have z1:=eN (draw c 39373 all.length+1+draw c 742938285 ((all.length:Int) - 1)) (show(0:Int)<all.length by omega);have hy:=Ew (AS p0 p1);have hzz:=Ew (AS z0 z1);have ne:B7 all (draw c 39373 all.length)≠B7 all ((draw c 39373 all.length+1+draw c 742938285 ((all.length:Int) - 1)) % all.length):=λz=>by
  have q:=Iz na p0 p1 z0 z1 z;have q2:(draw c 39373 all.length+0) % (all.length:Int)=(draw c 39373 all.length+(1+draw c 742938285 ((all.length:Int) - 1))) % (all.length:Int):=by rw[Int.add_zero,Int.emod_eq_of_lt p0 p1,<-Int.add_assoc];exact q
  have:=Jb (by omega) (by omega) (by omega) (by omega) (by omega) q2;omega
 have f0:=qJ (c:=c) (f:=22695477) (m:=24) (by decide);have f1:=qC (c:=c) (f:=22695477) (m:=24) (by decide);have g0:=qJ (c:=c) (f:=48271) (m:=23) (by decide);have g1:=qC (c:=c) (f:=48271) (m:=23) (by decide);have t0:=qJ (c:=c) (f:=950706376) (m:=5) (by decide);have t1:=qC (c:=c) (f:=950706376) (m:=5) (by decide);unfold vS;simp only;split
 .exact⟨hx,A9 ha0 (by decide) (by decide),wX na ha0 (by decide) (by decide)⟩
 .split
  .exact⟨hy,A9 ho (by decide) (by decide),wX no ho (by decide) (by decide)⟩
  .split
   .exact⟨hy,hzz,ne⟩
   .split
    .refine⟨hy,hzz,ne,⟨f0,by omega⟩,⟨eQ _ (by decide),?_⟩,?_⟩
     .have:=eN (draw c 22695477 24+1+draw c 48271 23) (show(0:Int)<24 by decide);omega
     .omega
    .split
     .exact⟨hy,hzz,ne⟩
     .split
      .refine⟨hy,hzz,ne,?_⟩;generalize draw c 950706376 5=d at t0 t1;have:d=0\/d=1\/d=2\/d=3\/d=4:=by omega
       rcases this with z|z|z|z|z<;>(subst z;decide)
      .split
       .exact hx
       .exact hx
def Kn(s:Int)(i:Nat):Ff (vE s i):=by
 have t0:=qJ (c:=s+17*(0+(i:Nat))*(0+(i:Nat))) (f:=16807) (m:=5) (by decide);have t1:=qC (c:=s+17*(0+(i:Nat))*(0+(i:Nat))) (f:=16807) (m:=5) (by decide);have u0:=qJ (c:=s+17*(0+(i:Nat))*(0+(i:Nat))) (f:=39373) (m:=6) (by decide);have u1:=qC (c:=s+17*(0+(i:Nat))*(0+(i:Nat))) (f:=39373) (m:=6) (by decide);have a:1<=(vE s i).2.1/\(vE s i).2.1<=3:=by
  show 1<=F7 Oj (draw (s+17*(0+(i:Nat))*(0+(i:Nat))) 16807 5)/\F7 Oj (draw (s+17*(0+(i:Nat))*(0+(i:Nat))) 16807 5)<=3;generalize draw (s+17*(0+(i:Nat))*(0+(i:Nat))) 16807 5=d at t0 t1;have:d=0\/d=1\/d=2\/d=3\/d=4:=by omega
  rcases this with z|z|z|z|z<;>(subst z;decide)
 have b:0<=(vE s i).2.2/\(vE s i).2.2<=9:=by
  show 0<=F7 OQ (draw (s+17*(0+(i:Nat))*(0+(i:Nat))) 39373 6)/\F7 OQ (draw (s+17*(0+(i:Nat))*(0+(i:Nat))) 39373 6)<=9;generalize draw (s+17*(0+(i:Nat))*(0+(i:Nat))) 39373 6=d at u0 u1;have:d=0\/d=1\/d=2\/d=3\/d=4\/d=5:=by omega
  rcases this with z|z|z|z|z|z<;>(subst z;decide)
 exact⟨dY (Bi s (0+(i:Nat))).2 (by decide),Di _ _,a.1,a.2,b.1,b.2⟩
def LQ{s:Int}{own:List Str}(nd:own.Nodup)(hr:own≠[])(i:Nat):D5 own (zv s own i):=by
 have t0:=qJ (c:=s+5*(0+(i:Nat))) (f:=742938285) (m:=2) (by decide);have t1:=qC (c:=s+5*(0+(i:Nat))) (f:=742938285) (m:=2) (by decide);refine⟨dY (Bi s (8+(0+(i:Nat)))).2 (by decide),Di _ _,?_,A9 hr (by decide) (by decide),wX nd hr (by decide) (by decide)⟩;show B7 Ow (draw (s+5*(0+(i:Nat))) 742938285 2)="all"\/B7 Ow (draw (s+5*(0+(i:Nat))) 742938285 2)="turns";generalize draw (s+5*(0+(i:Nat))) 742938285 2=d at t0 t1;have:d=0\/d=1:=by omega
 rcases this with z|z
 .subst z;exact .inl rfl
 .subst z;exact .inr rfl
def Kk(s m:Int):(qd s m).map (·.1)=(List.range (rc s m)).map λi=>xw s (0+(i:Nat)):=by unfold qd;rw[d9];rfl
def Fy{s m:Int}(h2:2<=m)(h8:m<=8):((qd s m).map (·.1)).Nodup/\∀own,((qd s m).map (·.1)++(qK s own).map (·.1)).Nodup:=by
 have d1:=qC (c:=s) (f:=48271) (m:=m - 1) (by omega);have d0:=qJ (c:=s) (f:=48271) (m:=m - 1) (by omega);have p8:rc s m<=8:=by unfold rc;omega
 have g3:=wG (s:=s);have a:((qd s m).map (·.1)).Nodup:=by rw[Kk];refine zB _ _ λi j hi hj e=>?_;have:=Bx (by omega) (by omega) (by omega) (by omega) e;omega
 refine⟨a,λown=>?_⟩;have ge:(qK s own).map (·.1)=(List.range (vk s)).map λi=>xw s (8+(0+(i:Nat))):=by unfold qK;rw[d9];rfl
 rw[gh];refine⟨a,?_,λx hx y hy e=>?_⟩
 .rw[ge];refine zB _ _ λi j hi hj e=>?_;have:=Bx (by omega) (by omega) (by omega) (by omega) e;omega
 .rw[Kk]at hx;rw[ge]at hy;obtain⟨i,hi,rfl⟩:=dz.mp hx;obtain⟨j,hj,rfl⟩:=dz.mp hy;have hi:=gk.mp hi;have hj:=gk.mp hj;have:=Bx (by omega) (by omega) (by omega) (by omega) e;omega
def PK{ns:List Int}{m:Int}(h2:2<=m)(h8:m<=8):rf (vP ns m):=by
 obtain⟨n1,n2⟩:=Fy (s:=cell ns 0) h2 h8;have pl:=wk (s:=cell ns 0) h2 (by omega);have p8:rc (cell ns 0) m<=8:=by have d1:=qC (c:=cell ns 0) (f:=48271) (m:=m - 1) (by omega);unfold rc;omega
 have lp:(qd (cell ns 0) m).length=rc (cell ns 0) m:=by unfold qd;rw[cT,eD]
 have ol:((qd (cell ns 0) m).map (·.1)).length=rc (cell ns 0) m:=by rw[cT,lp]
 have one:(qd (cell ns 0) m).map (·.1)≠[]:=λz=>by rw[z]at ol;have:0=rc (cell ns 0) m:=ol;omega
 have gl:(qK (cell ns 0) ((qd (cell ns 0) m).map (·.1))).length=vk (cell ns 0):=by unfold qK;rw[cT,eD]
 refine⟨?_,?_,λp hp=>?_,?_,λg hg=>?_,n2 _,?_,λv hv=>?_⟩
 .show 1<=(qd (cell ns 0) m).length;omega
 .show(qd (cell ns 0) m).length<=8;omega
 .obtain⟨i,_,rfl⟩:=dz.mp hp;exact Kn _ i
 .show(qK (cell ns 0) ((qd (cell ns 0) m).map (·.1))).length<=3;rw[gl];exact wG
 .obtain⟨i,_,rfl⟩:=dz.mp hg;exact LQ n1 one i
 .show((List.range (wC (cell ns 0))).map _).length<=16;rw[cT,eD];have d1:=qC (c:=cell ns 0) (f:=950706376) (m:=11) (by decide);unfold wC;omega
 .obtain⟨i,hi,rfl⟩:=dz.mp hv;refine Pm n1 (n2 _) one ?_;show 2<=((qd (cell ns 0) m).map (·.1)++_).length;rw[cX,ol];omega
structure oW where
 st:Str
 cr:Str
 way:List Str
 at_:List Str
 ms:List Str
 hd:Option Str
 si:Int
 wd:Option Str
structure rE where
 i:Nat
 f:Str
 g:Str
 y:Str
inductive Ev
 | new (n:Nat) (x:Str)
 | leg (v:rE)
 | asks (i:Nat) (z:Str) (ns:List Nat)
 | next (z:Str) (n:Int)
 | merge (i j:Nat) (ms:List Str)
 | turn
 | sw (b:Bool) (i:Nat)
 | rings (i:Nat) (ps:List Str)
 | quiet (i:Nat)
 | waits (i:Nat) (x:Str)
 | talks (i:Nat) (ms:List Str)
 | held (i:Nat) (x:Str)
 | leaves (i:Nat) (x:Str)
 | over (i:Nat) (w:Str)
structure pX where
 p:Addr
 h:Int
 t:Int
 calls:List oW
 mL:List rE
 ps:List (Str×Int)
 on:List Bool
 log:List Ev
 fo:List Addr
noncomputable def vQ(ns:List Nat):D:=.tup (ns.map λn=>D.int (n:Nat))
noncomputable def rE.d(v:rE):D:=.tup [.int (v.i:Nat),.str v.f,.str v.g,.str v.y]
noncomputable def TC(b:Bool):Str:=if b=true then "on" else "off"
noncomputable def Ev.d:Ev->D
 | .new n x=>.tup [.str "new",.int (n:Nat),.str x]
 | .leg v=>.tup [.str "leg",.int (v.i:Nat),.str v.f,.str v.g,.str v.y]
 | .asks i z ns=>.tup [.str "asks",.int (i:Nat),.str z,vQ ns]
 | .next z n=>.tup [.str "next",.str z,.int n]
 | .merge i j ms=>.tup [.str "merge",.int (i:Nat),.int (j:Nat),names ms]
 | .turn=>.tup [.str "turn"]
 | .sw b i=>.tup [.str (TC b),.int (i:Nat)]
 | .rings i ps=>.tup [.str "rings",.int (i:Nat),names ps]
 | .quiet i=>.tup [.str "quiet",.int (i:Nat)]
 | .waits i x=>.tup [.str "waits",.int (i:Nat),.str x]
 | .talks i ms=>.tup [.str "talks",.int (i:Nat),names ms]
 | .held i x=>.tup [.str "held",.int (i:Nat),.str x]
 | .leaves i x=>.tup [.str "leaves",.int (i:Nat),.str x]
 | .over i w=>.tup [.str "over",.int (i:Nat),.str w]
noncomputable def hasS(ss:List Str)(x:Str):Bool:=ss.any (·==x)
noncomputable def qQ(ss:List Str)(x:Str):List Str:=ss.filter λy=>!(y==x)
noncomputable def yF(x:Str):oW:=⟨"rings",x,[],[],[],none,0,none⟩
noncomputable def oW.over(c:oW)(w:Str):oW:={c with st:="over",wd:=some w,at_:=[],ms:=[],hd:=none}
noncomputable def oW.drop(c:oW)(x:Str):oW:={c with at_:=qQ c.at_ x,ms:=qQ c.ms x}
noncomputable def oW.ring(c:oW)(ps:List Str):oW:={c with st:="rings",at_:=ps,si:=0}
noncomputable def oW.nk(c:oW)(ms:List Str):oW:={c with st:="talks",ms:=ms,at_:=[],hd:=none}
noncomputable def oW.wait(c:oW)(x:Str):oW:={c with st:="waits",at_:=[x]}
noncomputable def oW.hold(c:oW)(x:Str):oW:={c with st:="held",hd:=some x}
noncomputable def oW.nz(c:oW):oW:={c with at_:=[]}
noncomputable def oW.mem(c:oW)(ms:List Str):oW:={c with ms:=ms}
noncomputable def oW.go(c:oW)(g:Str):oW:={c with way:=c.way++[g]}
noncomputable def oW.tick(c:oW):oW:=if (c.st=="rings")=true then{c with si:=c.si+1}else c
noncomputable def rE.to(m k:Nat)(v:rE):rE:=if v.i=m then{v with i:=k}else v
noncomputable def DA(ps:List (Str×Int))(z:Str)(n:Int):List (Str×Int):=if ps.any (λp=>decide (p.1=z))=true then ps.map (λp=>if p.1=z then(p.1,n)else p)else ps++[(z,n)]
noncomputable def xC(V:pX)(i:Nat)(f:oW->oW):pX:={V with calls:=V.calls.modify i f}
noncomputable def qB(V:pX)(e:Ev):pX:={V with log:=V.log++[e]}
noncomputable def SB(V:pX):Ev->pX
 | .new _ x=>{V with calls:=V.calls++[yF x]}
 | .leg v=>{V with mL:=V.mL++[v],calls:=V.calls.modify v.i (·.go v.g)}
 | .asks _ _ _=>V
 | .next z n=>{V with ps:=DA V.ps z n}
 | .merge i j ms=>{V with calls:=(V.calls.modify i (·.over "merged")).modify j (·.mem ms),mL:=V.mL.map (rE.to i j)}
 | .turn=>{V with t:=V.t+1,calls:=V.calls.map oW.tick}
 | .sw b i=>{V with on:=V.on.set i b}
 | .rings i ps=>xC V i (·.ring ps)
 | .quiet i=>xC V i oW.nz
 | .waits i x=>xC V i (·.wait x)
 | .talks i ms=>xC V i (·.nk ms)
 | .held i x=>xC V i (·.hold x)
 | .leaves i x=>xC V i (·.drop x)
 | .over i w=>xC V i (·.over w)
noncomputable def pO(V:pX)(e:Ev):pX:=SB (qB V e) e
noncomputable def qz(V:pX)(es:List Ev):pX:=es.foldl pO V
def Ev.ok(V:pX):Ev->Prop
 | .new _ _=>True
 | .leg v=>v.i<V.calls.length
 | .asks _ _ _=>True
 | .next _ _=>True
 | .merge i j ms=>i<V.calls.length/\j<V.calls.length/\i≠j/\ms.length<=100
 | .turn=>True
 | .sw _ i=>i<V.on.length
 | .rings i ps=>i<V.calls.length/\ps.length<=100
 | .quiet i=>i<V.calls.length
 | .waits i _=>i<V.calls.length
 | .talks i ms=>i<V.calls.length/\ms.length<=100
 | .held i _=>i<V.calls.length
 | .leaves i _=>i<V.calls.length
 | .over i _=>i<V.calls.length
def Fg:pX->List Ev->Prop
 | _,[]=>True
 | V,e::r=>e.ok V/\Fg (pO V e) r
def sf(V:pX)(es fs:List Ev):qz V (es++fs)=qz (qz V es) fs:=kZ ..
theorem xR:∀{V:pX} {es fs:List Ev},Fg V es->Fg (qz V es) fs->Fg V (es++fs)
 | _,[],_,_,h=>h
 | _,_::_,_,h,g=>⟨h.1,xR h.2 g⟩
theorem DC:∀(es:List Ev) (V:pX),(qz V es).log=V.log++es
 | [],V=>(eY _).symm
 | e::r,V=>by
  show(qz (pO V e) r).log=_;rw[DC r];have:(pO V e).log=V.log++[e]:=by cases e<;>rfl
  rw[this,fj];rfl
noncomputable def oW.mJ(c:oW)(x:Str):Bool:=(c.st=="talks")&&hasS c.ms x
noncomputable def oW.hasB(c:oW)(x:Str):Bool:=if (c.st=="rings")=true then(x==c.cr)||hasS c.at_ x else if (c.st=="waits")=true then x==c.cr else(c.st=="talks"||c.st=="held")&&hasS c.ms x
noncomputable def oW.mS(c:oW)(x:Str):Bool:=if (c.st=="held")=true then hasS c.ms x&&!((c.hd==some x))else c.mJ x
noncomputable def oW.mH(c:oW)(x:Str):Bool:=(c.st=="rings"||c.st=="waits")&&(x==c.cr)
noncomputable def oW.mD(c:oW)(x:Str):Bool:=(c.st=="waits")&&hasS c.at_ x
noncomputable def oW.mU(c:oW)(x:Str):Bool:=c.mH x||(hasS c.at_ x||hasS c.ms x)
noncomputable def oW.mK(c:oW)(x:Str):Bool:=c.mJ x&&(c.ms.length==2)
noncomputable def uH(V:pX)(x:Str):Nat:=(V.calls.filter (·.hasB x)).length
noncomputable def wx(l:pj)(x:Str):Int:=(l.mR x).elim 0 λv=>v.2.1
noncomputable def vp(l:pj)(x:Str):Int:=(l.mR x).elim 0 λv=>v.2.2
noncomputable def tF(l:pj)(V:pX)(x:Str):Bool:=decide ((uH V x:Int)<wx l x)
noncomputable def tQ(l:pj)(V:pX)(c z:Str):List Str:=(l.mv z).filter λx=>!(x==c)&&tF l V x
noncomputable def xj(l:pj)(V:pX)(c z:Str):Bool:=(tQ l V c z).isEmpty
noncomputable def vh(V:pX)(x:Str):Option Nat:=V.calls.findIdx? (·.mJ x)
noncomputable def Ep(V:pX)(x:Str):Option Nat:=V.calls.findIdx? (·.mS x)
noncomputable def Il(V:pX)(x:Str):Option Nat:=V.calls.findIdx? (·.mH x)
noncomputable def zV(V:pX)(x:Str):Bool:=V.calls.any (·.mD x)
noncomputable def OO:Option Nat->D
 | none=>.mC
 | some j=>.int (j:Nat)
noncomputable def D4(f l h:Int):Bool:=if f<l then decide (f<=h)&&decide (h<l)else decide (h>=f)||decide (h<l)
noncomputable def Hq(l:pj)(x:Str)(ms:List Str):Bool:=ms.all λm=>decide (vp l m<vp l x)
noncomputable def GG(l:pj)(V:pX)(x c z:Str):Bool:=if (!(c==x)||(z==x))=true then false else if (!(hasS l.pn z)||!(xj l V c z))=true then false else((vh V z).bind (V.calls[·]?)).elim false λk=>(k.ms.length==2)&&Hq l x k.ms
noncomputable def Aw(l:pj)(V:pX)(c z:Str):Wi->Bool
 | .bar x ns=>(c==x)&&hasS ns z
 | .shut x ns=>(z==x)&&hasS ns c
 | .always x _=>z==x
 | .night x _ f m=>(z==x)&&D4 f m ((V.h+V.t) % 24)
 | .busy x _=>(z==x)&&xj l V c z
 | .silent _ _ _=>false
 | .wait x=>if (!(z==x)||(c==x))=true then false else xj l V c z&&!(zV V z)
 | .breaks x=>GG l V x c z
noncomputable def Fl(c:oW):Wi->Bool
 | .silent x _ n=>(c.way.getLast?==some x)&&decide (n<=c.si)
 | _=>false
noncomputable def GL(l:pj)(V:pX)(f:Wi->Bool):List Nat:=(List.range V.on.length).filter λi=>V.on.getD i false&&(l.mx[i]?).elim false λw=>f w.2
noncomputable def De(l:pj)(V:pX)(c z:Str):List Nat:=GL l V (Aw l V c z)
noncomputable def uE(ms:List Str)(n:Nat):List Str:=ms.drop n++ms.take n
noncomputable def zg(V:pX)(z:Str):Nat:=((V.ps.find? λp=>decide (p.1=z)).elim 0 λp=>p.2).toNat
noncomputable def xi(l:pj)(V:pX)(c z:Str):List Str:=if (l.mF z=="turns")=true then((uE (l.mv z) (zg V z)).filter λx=>hasS (tQ l V c z) x).take 1 else tQ l V c z
inductive vW
 | engaged (z:Str)
 | rings (z:Str) (ps:List Str)
 | waits (z:Str)
 | breaks (z:Str)
 | barred
 | ring (ns:List Str)
noncomputable def vW.d:vW->D
 | .engaged z=>.tup [.str "engaged",.str z]
 | .rings z ps=>.tup [.str "rings",.str z,names ps]
 | .waits z=>.tup [.str "waits",.str z]
 | .breaks z=>.tup [.str "breaks",.str z]
 | .barred=>.tup [.str "barred"]
 | .ring ns=>.tup [.str "ring",names ns]
noncomputable def GT(l:pj)(V:pX)(c z:Str):vW:=match xi l V c z with
 | []=>.engaged z
 | x::r=>.rings z (x::r)
noncomputable def HY(z:Str):Wi->Sum vW Str
 | .bar _ _=>.inl .barred
 | .shut _ _=>.inl .barred
 | .always _ y=>.inr y
 | .night _ y _ _=>.inr y
 | .busy _ y=>.inr y
 | .silent _ y _=>.inr y
 | .wait _=>.inl (.waits z)
 | .breaks _=>.inl (.breaks z)
abbrev sZ:=List (Str×List Nat)
noncomputable def wu(l:pj)(V:pX)(c:Str):Nat->Str->List Str->sZ->vW×sZ
 | 0,_,_,st=>(.barred,st)
 | n+1,z,way,st=>if hasS way z=true then(.ring (way.drop (way.findIdx (·==z))),st)else
  match De l V c z with
  | []=>(GT l V c z,st++[(z,[])])
  | i::r=>(l.mx[i]?).elim (.barred,st) λw=>match HY z w.2 with
   | .inl e=>(e,st++[(z,i::r)])
   | .inr y=>wu l V c n y (way++[z]) (st++[(z,i::r)])
noncomputable def uG(l:pj)(V:pX)(c z:Str)(way:List Str):vW×sZ:=wu l V c (l.nm.length+1) z way []
noncomputable def rQ(i:Nat):Option Str->sZ->List Ev
 | _,[]=>[]
 | none,(z,fs)::r=>.asks i z fs::rQ i (some z) r
 | some y,(z,fs)::r=>.leg ⟨i,y,z,y⟩::.asks i z fs::rQ i (some z) r
noncomputable def Qx(ms:List Str)(x:Str):Int:=((ms.findIdx (·==x):Nat)+1) % (ms.length:Int)
noncomputable def sA(l:pj)(V:pX)(i:Nat):vW->List Ev
 | .rings z ps=>(if (l.mF z=="turns")=true then[.next z (Qx (l.mv z) (ps.headD Str.empty))]else[])++[.rings i ps]
 | .waits z=>[.waits i z]
 | .breaks z=>match vh V z,V.calls[i]? with
  | some j,some c=>[.merge i j ((V.calls[j]?).elim [] (·.ms)++[c.cr])]
  | _,_=>[]
 | .engaged _=>[.over i "engaged"]
 | .barred=>[.over i "barred"]
 | .ring _=>[.over i "ring"]
noncomputable def tZ(i:Nat)(st:sZ):vW->List Ev
 | .ring ns=>(st.getLast?).elim [] λs=>[.leg ⟨i,s.1,ns.headD Str.empty,s.1⟩]
 | _=>[]
noncomputable def xg(l:pj)(V:pX)(i:Nat):List Ev:=(V.calls[i]?).elim [] λc=>
 let r:=uG l V c.cr (c.way.getLastD Str.empty) c.way.dropLast
 rQ i none r.2++(tZ i r.2 r.1++sA l V i r.1)
noncomputable def EU(l:pj)(V:pX)(y z:Str):List Ev:=
 let es:=[Ev.new V.calls.length y,.leg ⟨V.calls.length,y,z,y⟩]
 es++xg l (qz V es) V.calls.length
noncomputable def uL(V:pX)(x:Str)(i:Nat):List Ev:=(V.calls[i]?).elim [] λc=>if c.mH x=true then[.over i "left"]else if hasS c.at_ x=true then .leaves i x::(if qQ c.at_ x=[]then[.over i "refused"]else[])else if 2<c.ms.length then[.leaves i x]else[.over i "done"]
noncomputable def sR(l:pj)(V:pX)(i:Nat)(fs:List Nat):List Ev:=match fs.head?.bind (l.mx[·]?)with
 | some (_,.silent x y _)=>
  let es:=[Ev.asks i x fs,.quiet i,.leg ⟨i,x,y,x⟩]
  es++xg l (qz V es) i
 | _=>[]
noncomputable def yg(l:pj)(V:pX)(i:Nat):List Nat:=(V.calls[i]?).elim [] λc=>if (c.st=="rings")=true then GL l V (Fl c)else[]
noncomputable def rj(l:pj):List Nat->pX->List Ev
 | [],_=>[]
 | i::r,V=>sR l V i (yg l V i)++rj l r (qz V (sR l V i (yg l V i)))
noncomputable def DM(l:pj)(V:pX):List Ev:=.turn::rj l (List.range V.calls.length) (pO V .turn)
inductive tP
 | call (y z:Str)
 | num (w x:Str) (ns:List Int)
 | turn
 | sw (b:Bool) (i:Int)
noncomputable def tP.d:tP->D
 | .call y z=>.tup [.str "call",.str y,.str z]
 | .num w x ns=>.tup (.str w::.str x::ns.map D.int)
 | .turn=>.tup [.str "turn"]
 | .sw b i=>.tup [.str (TC b),.int i]
def tP.ng:tP->Prop
 | .num w _ ns=>((w="answer"\/w="hang"\/w="hold"\/w="back")/\ns.length=1)\/((w="hand"\/w="join")/\ns.length=2)
 | _=>True
noncomputable def ui(V:pX)(x:Str):Option Str:=if (Ep V x).isSome=true then some "bound" else if (Il V x).isSome=true then some "calls" else none
noncomputable def zd(n:Nat)(i:Int):Bool:=decide (0<=i)&&decide (i<(n:Int))
noncomputable def IR(w x:Str):List oW->Bool
 | []=>false
 | c::r=>if (w=="answer")=true then hasS c.at_ x else if (w=="hang")=true then c.mU x else if (w=="hold")=true then c.mK x else if (w=="back")=true then c.hd==some x else(c.hd==some x)&&(r.head?.elim false λd=>d.mK x)
noncomputable def sT(V:pX)(ns:List Int):List oW:=ns.filterMap λi=>V.calls[i.toNat]?
noncomputable def FZ(l:pj)(V:pX)(y z:Str):Option Str:=if hasS l.nm z=false then some "name" else if ((ui V y).isNone&&!(tF l V y))=true then some "full" else ui V y
noncomputable def Ma(l:pj)(V:pX)(w x:Str)(ns:List Int):Option Str:=if ns.all (zd V.calls.length)=false then some "call" else if IR w x (sT V ns)=false then some "call" else if (w=="answer"||w=="back")=false then none else
 if ((ui V x).isNone&&((sT V ns).head?.elim false (λc=>c.mD x)&&!(tF l V x)))=true then some "full" else ui V x
noncomputable def OG(V:pX)(b:Bool)(i:Int):Option Str:=if zd V.on.length i=false then some "wish" else if (V.on.getD i.toNat false==b)=true then some "wish" else none
noncomputable def xu(l:pj)(V:pX):tP->Option Str
 | .turn=>none
 | .sw b i=>OG V b i
 | .call y z=>if hasS l.pn y=false then some "name" else FZ l V y z
 | .num w x ns=>if hasS l.pn x=false then some "name" else Ma l V w x ns
noncomputable def pU(c:oW)(x:Str):Str:=(qQ c.ms x).headD Str.empty
noncomputable def EK(V:pX)(w x:Str)(i:Nat):Ev:=(V.calls[i]?).elim .turn λc=>if (w=="answer")=true then .talks i [c.cr,x]else if (w=="hold")=true then .held i x else .talks i c.ms
noncomputable def FQ(V:pX)(w x:Str)(i j:Nat):Ev:=(V.calls[i]?).elim .turn λc=>(V.calls[j]?).elim .turn λd=>.merge i j (if (w=="hand")=true then[pU c x,pU d x]else[x,pU c x,pU d x])
noncomputable def sr(l:pj)(V:pX):tP->List Ev
 | .call y z=>EU l V y z
 | .num w x [i]=>if (w=="hang")=true then uL V x i.toNat else[EK V w x i.toNat]
 | .num w x [i,j]=>[FQ V w x i.toNat j.toNat]
 | .num _ _ _=>[]
 | .turn=>DM l V
 | .sw b i=>[.sw b i.toNat]
structure qV where
 p:Addr
 wy:Addr
structure so where
 b:Addr
 ca:Addr
 le:Addr
 nx:Addr
 on:Addr
 lo:Addr
 cs:List qV
noncomputable def Gu:Option Str->D
 | none=>.mC
 | some x=>.str x
noncomputable def qS(c:oW)(wy ad md:Addr):List (Str×D):=[("state",.str c.st),("caller",.str c.cr),("way",.ref wy),("at",.ref ad),("members",.ref md),("holder",Gu c.hd),("since",.int c.si),("word",Gu c.wd)]
noncomputable def sY(p:D)(h t:Int)(ca le nx on lo:Addr):List (Str×D):=[("plan",p),("hour",.int h),("turn",.int t),("calls",.ref ca),("legs",.ref le),("nexts",.ref nx),("on",.ref on),("log",.ref lo)]
noncomputable def sO(ps:List (Str×Int)):List (qR×D):=ps.map λp=>((Sum.inr p.1:qR),D.int p.2)
noncomputable def so.lists(A:so):List Addr:=A.ca::A.le::A.on::A.lo::A.cs.map (·.wy)
noncomputable def so.foot(A:so):List Addr:=A.b::A.nx::(A.lists++A.cs.map (·.p))
def rm(a:Ad)(M:Mp)(L:List Addr)(k:qV)(c:oW):Prop:=B8 λad md=>M k.p=some (.ins a.e (qS c k.wy ad md))/\oy M k.wy=some (c.way.map D.str)/\oy M ad=some (c.at_.map D.str)/\oy M md=some (c.ms.map D.str)/\ad∉L/\md∉L
structure pA(a:Ad)(M:Mp)(A:so)(V:pX):Prop where
 at_:M A.b=some (.ins a.c (sY (.ref V.p) V.h V.t A.ca A.le A.nx A.on A.lo))
 ca:oy M A.ca=some (A.cs.map λk=>D.ref k.p)
 le:oy M A.le=some (V.mL.map rE.d)
 nx:zr M A.nx=some (sO V.ps)
 on:oy M A.on=some (V.on.map D.bl)
 lo:oy M A.lo=some (V.log.map Ev.d)
 len:A.cs.length=V.calls.length
 cs:∀(i:Nat) k c,A.cs[i]?=some k->V.calls[i]?=some c->rm a M (A.lists++V.fo) k c
 nl:A.lists.Nodup
 np:(A.b::A.cs.map (·.p)).Nodup
 fo:∀x∈V.fo,∃c,M x=some c
def vZ{F:List Addr}{M:Mp}{p:Addr}{c:uk}(h:∀x∈F,∃c,M x=some c):∀x∈F,∃d,oZ M p c x=some d:=λx hx=>by
 by_cases z:x=p
 .exact⟨c,by rw[z];exact pG⟩
 .obtain⟨d,e⟩:=h x hx;exact⟨d,rN.put x d z e⟩
def rm.sub{a:Ad}{M M':Mp}{L:List Addr}{k:qV}{c:oW}(h:rm a M L k c)(s:qh M M'):rm a M' L k c:=by obtain⟨ad,md,h1,h2,h3,h4,h5⟩:=h;exact⟨ad,md,s _ _ h1,s.lst h2,s.lst h3,s.lst h4,h5⟩
def pA.sub{a:Ad}{M M':Mp}{A:so}{V:pX}(h:pA a M A V)(s:qh M M'):pA a M' A V:=⟨s _ _ h.at_,s.lst h.ca,s.lst h.le,s.dk h.nx,s.lst h.on,s.lst h.lo,h.len,λi k c e1 e2=>(h.cs i k c e1 e2).sub s,h.nl,h.np,λx hx=>(h.fo x hx).imp λc e=>s x c e⟩
def rm.nI{a:Ad}{M M':Mp}{L:List Addr}{k:qV}{c:oW}{x:Addr}{ds:List D}(h:rm a M L k c)(kp:rN x M M')(hl:oy M x=some ds)(hx:x∈L)(hn:k.wy≠x):rm a M' L k c:=by obtain⟨ad,md,h1,h2,h3,h4,h5,h6⟩:=h;exact⟨ad,md,kp _ _ (λz=>by rw[z,pJ hl]at h1;cases h1) h1,kp.lst hn h2,kp.lst (λz=>h5 (z ▸ hx)) h3,kp.lst (λz=>h6 (z ▸ hx)) h4,h5,h6⟩
def rm.nN{a:Ad}{M M':Mp}{L:List Addr}{k:qV}{c:oW}{x C:Addr}{fs:List (Str×D)}(h:rm a M L k c)(kp:rN x M M')(hi:M x=some (.ins C fs))(hn:k.p≠x):rm a M' L k c:=by obtain⟨ad,md,h1,h2,h3,h4,h5⟩:=h;exact⟨ad,md,kp _ _ hn h1,kp.lst (pI h2 hi) h2,kp.lst (pI h3 hi) h3,kp.lst (pI h4 hi) h4,h5⟩
def uA{M:Mp}{a p:Addr}{ds:List (qR×D)}{es:List D}(h:zr M a=some ds)(hp:oy M p=some es):a≠p:=λz=>by subst z;unfold zr at h;rw[pJ hp]at h;cases h
def rm.oB{a:Ad}{M M':Mp}{L:List Addr}{k:qV}{c:oW}{x:Addr}{ds:List (qR×D)}(h:rm a M L k c)(kp:rN x M M')(hd:zr M x=some ds):rm a M' L k c:=by obtain⟨ad,md,h1,h2,h3,h4,h5⟩:=h;exact⟨ad,md,kp _ _ (λz=>by rw[z,xO hd]at h1;cases h1) h1,kp.lst (dJ (uA hd h2)) h2,kp.lst (dJ (uA hd h3)) h3,kp.lst (dJ (uA hd h4)) h4,h5⟩
def qp{α:Type}{l:List α}{i:Nat}{x:α}(h:l[i]?=some x):x∈l:=fQ h
def pA.ne{a:Ad}{M:Mp}{A:so}{V:pX}(h:pA a M A V):A.ca≠A.le/\A.ca≠A.on/\A.ca≠A.lo/\A.le≠A.on/\A.le≠A.lo/\A.on≠A.lo/\∀k∈A.cs,k.wy≠A.ca/\k.wy≠A.le/\k.wy≠A.on/\k.wy≠A.lo:=by
 have n:=h.nl;unfold so.lists at n;obtain⟨n1,n⟩:=dO.mp n;obtain⟨n2,n⟩:=dO.mp n;obtain⟨n3,n⟩:=dO.mp n;obtain⟨n4,n⟩:=dO.mp n;have w:∀k∈A.cs,k.wy∈A.cs.map (·.wy):=λk hk=>dz.mpr ⟨k,hk,rfl⟩;refine⟨λz=>n1 (z ▸ by simp),λz=>n1 (z ▸ by simp),λz=>n1 (z ▸ by simp),λz=>n2 (z ▸ by simp),λz=>n2 (z ▸ by simp),λz=>n3 (z ▸ by simp),λk hk=>⟨λz=>n1 ?_,λz=>n2 ?_,λz=>n3 ?_,λz=>n4 ?_⟩⟩
 .rw[<-z];exact dC _ (dC _ (dC _ (w k hk)))
 .rw[<-z];exact dC _ (dC _ (w k hk))
 .rw[<-z];exact dC _ (w k hk)
 .rw[<-z];exact w k hk
def pA.nP{a:Ad}{M:Mp}{A:so}{V:pX}(_:pA a M A V):A.ca∈A.lists/\A.le∈A.lists/\A.lo∈A.lists/\(∀k∈A.cs,k.wy∈A.lists)/\A.on∈A.lists:=by unfold so.lists;refine⟨by simp,by simp,by simp,?_,by simp⟩;exact λk hk=>by simp;exact .inr (.inr (.inr (.inr ⟨k,hk,rfl⟩)))
def pA.oz{a:Ad}{M:Mp}{A:so}{V:pX}(h:pA a M A V):A.ca∈A.lists++V.fo/\A.le∈A.lists++V.fo/\A.lo∈A.lists++V.fo/\(∀k∈A.cs,k.wy∈A.lists++V.fo)/\A.on∈A.lists++V.fo:=by obtain⟨h1,h2,h3,h4,h5⟩:=h.nP;exact⟨fg _ h1,fg _ h2,fg _ h3,λk hk=>fg _ (h4 k hk),fg _ h5⟩
def qE(A:so)(M:Mp)(A':so)(M':Mp):Prop:=(∀x c,x∉A.foot->M x=some c->M' x=some c)/\(∀x∈A'.foot,x∈A.foot\/M x=none)/\(∀(i:Nat) k,A.cs[i]?=some k->A'.cs[i]?=some k)/\∀x c,M x=some c->∃d,M' x=some d
def D8{M:Mp}{p y:Addr}{c d:uk}(h:M y=some d):∃e,oZ M p c y=some e:=by
 by_cases z:y=p
 .exact⟨c,by rw[z];exact pG⟩
 .exact⟨d,rN.put y d z h⟩
def qE.refl{A:so}{M:Mp}:qE A M A M:=⟨λ_ _ _ h=>h,λ_ h=>.inl h,λ_ _ h=>h,λ_ c h=>⟨c,h⟩⟩
def qE.trans{A A1 A2:so}{M M1 M2:Mp}(s:qE A M A1 M1)(u:qE A1 M1 A2 M2):qE A M A2 M2:=by
 refine⟨λx c n h=>u.1 x c (λz=>?_) (s.1 x c n h),λx hx=>?_,λi k h=>u.2.2.1 i k (s.2.2.1 i k h),λx c h=>(s.2.2.2 x c h).elim λd e=>u.2.2.2 x d e⟩
 .rcases s.2.1 x z with y|y
  .exact n y
  .rw[y]at h;cases h
 .rcases u.2.1 x hx with z|z
  .exact s.2.1 x z
  .by_cases y:x∈A.foot
   .exact .inl y
   .refine .inr ?_;cases e:M x with
    | none=>rfl
    | some c=>rw[s.1 x c y e]at z;cases z
def qE.keep{A:so}{M:Mp}{x:Addr}{c:uk}(h:x∈A.foot)(k:rN x M (oZ M x c)):qE A M A (oZ M x c):=⟨λy c n e=>k y c (λz=>n (z ▸ h)) e,λ_ h=>.inl h,λ_ _ h=>h,λ_ _ h=>D8 h⟩
def qE.sub{A:so}{M M':Mp}(s:qh M M'):qE A M A M':=⟨λy c _ e=>s y c e,λ_ h=>.inl h,λ_ _ h=>h,λx c h=>⟨c,s x c h⟩⟩
def so.mI(A:so):A.b∈A.foot/\A.nx∈A.foot/\A.ca∈A.foot/\A.le∈A.foot/\A.lo∈A.foot/\(∀k∈A.cs,k.p∈A.foot)/\∀k∈A.cs,k.wy∈A.foot:=by unfold so.foot so.lists;exact⟨by simp,by simp,by simp,by simp,by simp,λk hk=>by simp;exact .inr (.inr (.inr (.inr (.inr (.inr (.inr ⟨k,hk,rfl⟩)))))),λk hk=>by simp;exact .inr (.inr (.inr (.inr (.inr (.inr (.inl ⟨k,hk,rfl⟩))))))⟩
def so.ny(A:so){x:Addr}(h:x∈A.lists):x∈A.foot:=by unfold so.foot;exact dC _ (dC _ (dW.mpr (.inl h)))
variable {M M1:Mp}{A:so}{V:pX}
def EE{α:Type}{l:List α}{i j:Nat}{x y:α}(h:(l.set i x)[j]?=some y):(j=i/\y=x/\i<l.length)\/(j≠i/\l[j]?=some y):=by
 by_cases z:j=i
 .subst z;by_cases hl:j<l.length
  .rw[eJ hl]at h;exact .inl ⟨rfl,(dh h).symm,hl⟩
  .rw[gw (by rw[ib];omega)]at h;cases h
 .rw[eP (dJ z)]at h;exact .inr ⟨z,h⟩
def Lc{α β:Type}{f:α->β}{l:List α}{i j:Nat}{x y:α}(nd:(l.map f).Nodup)(h1:l[i]?=some x)(h2:l[j]?=some y)(e:f x=f y):i=j:=by
 have e1:(l.map f)[i]?=some (f x):=by rw[dA,h1];rfl
 have e2:(l.map f)[j]?=some (f y):=by rw[dA,h2];rfl
 obtain⟨l1,q1⟩:=cV.mp e1;obtain⟨l2,q2⟩:=cV.mp e2;exact(lz nd).mp (q1.trans (e.trans q2.symm))
def pA.nw(h:pA a M A V):(A.cs.map (·.wy)).Nodup:=(dO.mp (dO.mp (dO.mp (dO.mp h.nl).2).2).2).2
def pA.oJ(h:pA a M A V):(A.cs.map (·.p)).Nodup/\∀k∈A.cs,k.p≠A.b:=⟨(dO.mp h.np).2,λk hk z=>(dO.mp h.np).1 (z ▸ dz.mpr ⟨k,hk,rfl⟩)⟩
def pA.nZ(h:pA a M A V){es:List Ev}:pA a (oZ M A.lo (.lst (es.map Ev.d))) A {V with log:=es}/\qE A M A (oZ M A.lo (.lst (es.map Ev.d))):=by have kp:rN A.lo M (oZ M A.lo (.lst (es.map Ev.d))):=.put;obtain⟨n1,n2,n3,n4,n5,n6,nw⟩:=h.ne;exact⟨⟨kp _ _ (dJ (pI h.lo h.at_)) h.at_,kp.lst n3 h.ca,kp.lst n5 h.le,kp.dk (uA h.nx h.lo) h.nx,kp.lst n6 h.on,o9,h.len,λi k c e1 e2=>(h.cs i k c e1 e2).nI kp h.lo h.oz.2.2.1 (nw k (qp e1)).2.2.2,h.nl,h.np,vZ h.fo⟩,.keep A.mI.2.2.2.2.1 kp⟩
def pA.nY(h:pA a M A V){es:List rE}:pA a (oZ M A.le (.lst (es.map rE.d))) A {V with mL:=es}/\qE A M A (oZ M A.le (.lst (es.map rE.d))):=by have kp:rN A.le M (oZ M A.le (.lst (es.map rE.d))):=.put;obtain⟨n1,n2,n3,n4,n5,n6,nw⟩:=h.ne;exact⟨⟨kp _ _ (dJ (pI h.le h.at_)) h.at_,kp.lst n1 h.ca,o9,kp.dk (uA h.nx h.le) h.nx,kp.lst (dJ n4) h.on,kp.lst (dJ n5) h.lo,h.len,λi k c e1 e2=>(h.cs i k c e1 e2).nI kp h.le h.oz.2.1 (nw k (qp e1)).2.1,h.nl,h.np,vZ h.fo⟩,.keep A.mI.2.2.2.1 kp⟩
def pA.oE(h:pA a M A V){bs:List Bool}:pA a (oZ M A.on (.lst (bs.map D.bl))) A {V with on:=bs}/\qE A M A (oZ M A.on (.lst (bs.map D.bl))):=by have kp:rN A.on M (oZ M A.on (.lst (bs.map D.bl))):=.put;obtain⟨n1,n2,n3,n4,n5,n6,nw⟩:=h.ne;exact⟨⟨kp _ _ (dJ (pI h.on h.at_)) h.at_,kp.lst n2 h.ca,kp.lst n4 h.le,kp.dk (uA h.nx h.on) h.nx,o9,kp.lst (dJ n6) h.lo,h.len,λi k c e1 e2=>(h.cs i k c e1 e2).nI kp h.on h.oz.2.2.2.2 (nw k (qp e1)).2.2.1,h.nl,h.np,vZ h.fo⟩,.keep (A.ny h.nP.2.2.2.2) kp⟩
def pA.oA(h:pA a M A V){ps:List (Str×Int)}:pA a (oZ M A.nx (.dk (sO ps))) A {V with ps:=ps}/\qE A M A (oZ M A.nx (.dk (sO ps))):=by have kp:rN A.nx M (oZ M A.nx (.dk (sO ps))):=.put;exact⟨⟨kp _ _ (dJ (Bc h.nx h.at_)) h.at_,kp.lst (dJ (uA h.nx h.ca)) h.ca,kp.lst (dJ (uA h.nx h.le)) h.le,BK pG,kp.lst (dJ (uA h.nx h.on)) h.on,kp.lst (dJ (uA h.nx h.lo)) h.lo,h.len,λi k c e1 e2=>(h.cs i k c e1 e2).oB kp h.nx,h.nl,h.np,vZ h.fo⟩,.keep A.mI.2.1 kp⟩
def pA.putT(h:pA a M A V){t:Int}:pA a (oZ M A.b (.ins a.c (sY (.ref V.p) V.h t A.ca A.le A.nx A.on A.lo))) A {V with t:=t}/\qE A M A (oZ M A.b (.ins a.c (sY (.ref V.p) V.h t A.ca A.le A.nx A.on A.lo))):=by have kp:rN A.b M (oZ M A.b (.ins a.c (sY (.ref V.p) V.h t A.ca A.le A.nx A.on A.lo))):=.put;exact⟨⟨pG,kp.lst (pI h.ca h.at_) h.ca,kp.lst (pI h.le h.at_) h.le,kp.dk (Bc h.nx h.at_) h.nx,kp.lst (pI h.on h.at_) h.on,kp.lst (pI h.lo h.at_) h.lo,h.len,λi k c e1 e2=>(h.cs i k c e1 e2).nN kp h.at_ (h.oJ.2 k (qp e1)),h.nl,h.np,vZ h.fo⟩,.keep A.mI.1 kp⟩
def pA.nR(h:pA a M A V){i:Nat}{k:qV}{c c':oW}{ad md:Addr}(e1:A.cs[i]?=some k)(e2:V.calls[i]?=some c)(ew:c'.way=c.way)(la:oy M ad=some (c'.at_.map D.str))(lm:oy M md=some (c'.ms.map D.str))(na:ad∉A.lists++V.fo)(nm:md∉A.lists++V.fo):
  pA a (oZ M k.p (.ins a.e (qS c' k.wy ad md))) A {V with calls:=V.calls.set i c'}/\qE A M A (oZ M k.p (.ins a.e (qS c' k.wy ad md))):=by
 have kp:rN k.p M (oZ M k.p (.ins a.e (qS c' k.wy ad md))):=.put;obtain⟨_,_,h1,h2,_⟩:=h.cs i k c e1 e2;refine⟨⟨kp _ _ (dJ (h.oJ.2 k (qp e1))) h.at_,kp.lst (pI h.ca h1) h.ca,kp.lst (pI h.le h1) h.le,kp.dk (Bc h.nx h1) h.nx,kp.lst (pI h.on h1) h.on,kp.lst (pI h.lo h1) h.lo,by rw[h.len,ib],λj k' d f1 f2=>?_,h.nl,h.np,vZ h.fo⟩,.keep (A.mI.2.2.2.2.2.1 k (qp e1)) kp⟩;rcases EE f2 with⟨rfl,rfl,_⟩|⟨hj,f2⟩
 .rw[e1]at f1;cases f1;exact⟨ad,md,pG,by rw[ew];exact kp.lst (pI h2 h1) h2,kp.lst (pI la h1) la,kp.lst (pI lm h1) lm,na,nm⟩
 .exact(h.cs j k' d f1 f2).nN kp h1 λz=>hj (Lc h.oJ.1 f1 e1 z)
def pA.nV(h:pA a M A V){i:Nat}{k:qV}{c:oW}{ws:List Str}(e1:A.cs[i]?=some k)(e2:V.calls[i]?=some c):
  pA a (oZ M k.wy (.lst (ws.map D.str))) A {V with calls:=V.calls.set i {c with way:=ws}}/\qE A M A (oZ M k.wy (.lst (ws.map D.str))):=by
 have kp:rN k.wy M (oZ M k.wy (.lst (ws.map D.str))):=.put;obtain⟨ad,md,h1,h2,h3,h4,h5,h6⟩:=h.cs i k c e1 e2;obtain⟨n1,n2,n3,n4,n5,n6,nw⟩:=h.ne;obtain⟨w1,w2,w3,w4⟩:=nw k (qp e1);have kL:=h.oz.2.2.2.1 k (qp e1);refine⟨⟨kp _ _ (dJ (pI h2 h.at_)) h.at_,kp.lst (dJ w1) h.ca,kp.lst (dJ w2) h.le,kp.dk (uA h.nx h2) h.nx,kp.lst (dJ w3) h.on,kp.lst (dJ w4) h.lo,by rw[h.len,ib],λj k' d f1 f2=>?_,h.nl,h.np,vZ h.fo⟩,.keep (A.mI.2.2.2.2.2.2 k (qp e1)) kp⟩;rcases EE f2 with⟨rfl,rfl,_⟩|⟨hj,f2⟩
 .rw[e1]at f1;cases f1;exact⟨ad,md,kp _ _ (dJ (pI h2 h1)) h1,o9,kp.lst (λz=>h5 (z ▸ kL)) h3,kp.lst (λz=>h6 (z ▸ kL)) h4,h5,h6⟩
 .exact(h.cs j k' d f1 f2).nI kp h2 kL λz=>hj (Lc h.nw f1 e1 z)
noncomputable def so.add(A:so)(k:qV):so:={A with cs:=A.cs++[k]}
def zA(A:so)(k:qV):(A.add k).lists=A.lists++[k.wy]:=by unfold so.add so.lists;rw[dP];rfl
def pA.ou(h:pA a M A V):(∀x∈A.lists,∃ds,oy M x=some ds)/\∀x∈A.foot,∃c,M x=some c:=by
 have hc:∀k∈A.cs,(∃ds,oy M k.wy=some ds)/\∃c,M k.p=some c:=λk hk=>by
  obtain⟨i,hi,e⟩:=gJ hk;have e1:A.cs[i]?=some k:=by rw[cW hi,e]
  have Xt:i<V.calls.length:=by rw[<-h.len];exact hi
  have e2:V.calls[i]?=some V.calls[i]:=cW Xt;obtain⟨ad,md,h1,h2,_⟩:=h.cs i k _ e1 e2;exact⟨⟨_,h2⟩,_,h1⟩
 have hl:∀x∈A.lists,∃ds,oy M x=some ds:=λx hx=>by
  unfold so.lists at hx;simp only[df,dz]at hx;rcases hx with rfl|rfl|rfl|rfl|⟨k,hk,rfl⟩
  .exact⟨_,h.ca⟩
  .exact⟨_,h.le⟩
  .exact⟨_,h.on⟩
  .exact⟨_,h.lo⟩
  .exact(hc k hk).1
 refine⟨hl,λx hx=>?_⟩;unfold so.foot at hx;simp only[df,dW,dz]at hx;rcases hx with rfl|rfl|hx|⟨k,hk,rfl⟩
 .exact⟨_,h.at_⟩
 .exact⟨_,xO h.nx⟩
 .obtain⟨ds,e⟩:=hl x hx;exact⟨_,pJ e⟩
 .exact(hc k hk).2
def pA.nM(h:pA a M A V){x:Addr}(hx:M x=none):x∉A.lists:=λz=>by obtain⟨ds,e⟩:=h.ou.1 x z;have:=pJ e;rw[hx]at this;cases this
def pA.mX(h:pA a M A V){x:Addr}(hx:M x=none):x∉A.lists++V.fo:=λz=>by
 rcases dW.mp z with z|z
 .exact h.nM hx z
 .obtain⟨c,e⟩:=h.fo x z;rw[hx]at e;cases e
def pA.nj(h:pA a M A V){x:Addr}(hx:M x=none):x∉A.foot:=λz=>by obtain⟨ds,e⟩:=h.ou.2 x z;rw[hx]at e;cases e
def pA.nS(h:pA a M A V)(s:qh M M1){p wy ad md:Addr}{c:oW}(hp:M p=none)(hw:M wy=none)(ha:M ad=none)(hm:M md=none)(h1:M1 p=some (.ins a.e (qS c wy ad md)))(h2:oy M1 wy=some (c.way.map D.str))(h3:oy M1 ad=some (c.at_.map D.str))(h4:oy M1 md=some (c.ms.map D.str))(n1:ad≠wy)(n2:md≠wy):
  pA a (oZ M1 A.ca (.lst ((A.cs.map λk=>D.ref k.p)++[.ref p]))) (A.add ⟨p,wy⟩) {V with calls:=V.calls++[c]}/\qE A M (A.add ⟨p,wy⟩) (oZ M1 A.ca (.lst ((A.cs.map λk=>D.ref k.p)++[.ref p]))):=by
 have h':=h.sub s;have kp:rN A.ca M1 (oZ M1 A.ca (.lst ((A.cs.map λk=>D.ref k.p)++[.ref p]))):=.put;obtain⟨m1,m2,m3,m4,m5,m6,nw⟩:=h.ne;have wL:wy∉A.lists:=h.nM hw;have cL:=h.oz.1;have nl':∀x,x∉A.lists++V.fo->x≠wy->x∉(A.add ⟨p,wy⟩).lists++V.fo:=λx h1 h2=>by
  rw[zA,dW,dW,dD]
  rintro ((z|z)|z)
  .exact h1 (fg _ z)
  .exact h2 z
  .exact h1 (dZ _ z)
 have old:∀x c,M x=some c->x≠wy:=λx c e z=>by rw[z,hw]at e;cases e
 refine⟨⟨kp _ _ (dJ (pI h'.ca h'.at_)) h'.at_,?_,kp.lst (dJ m1) h'.le,kp.dk (uA h'.nx h'.ca) h'.nx,kp.lst (dJ m2) h'.on,kp.lst (dJ m3) h'.lo,?_,λi k d e1 e2=>?_,?_,?_,vZ h'.fo⟩,λx d n e=>kp x d (λz=>n (z ▸ A.mI.2.2.1)) (s x d e),λx hx=>?_,λi k e=>by show(A.cs++[(⟨p,wy⟩:qV)])[i]?=some k;rw[eZ (cV.mp e).1];exact e,λx d e=>D8 (s x d e)⟩
 .show oy _ A.ca=some ((A.cs++[(⟨p,wy⟩:qV)]).map λk=>D.ref k.p);rw[dP];exact o9
 .show(A.cs++[(⟨p,wy⟩:qV)]).length=(V.calls++[c]).length;rw[cX,cX,h.len];rfl
 .have e1:(A.cs++[(⟨p,wy⟩:qV)])[i]?=some k:=e1;have e2:(V.calls++[c])[i]?=some d:=e2;by_cases hi:i<A.cs.length
  .rw[eZ hi]at e1;rw[eZ (by rw[<-h.len];exact hi)]at e2;obtain⟨ad',md',g1,g2,g3,g4,g5,g6⟩:=(h.cs i k d e1 e2);refine⟨ad',md',kp _ _ (λz=>by have:=s _ _ g1;rw[z,pJ h'.ca]at this;cases this) (s _ _ g1),kp.lst (nw k (qp e1)).1 (s.lst g2),kp.lst (λz=>g5 (z ▸ cL)) (s.lst g3),kp.lst (λz=>g6 (z ▸ cL)) (s.lst g4),nl' _ g5 (old _ _ (pJ g3)),nl' _ g6 (old _ _ (pJ g4))⟩
  .have Yk:i=A.cs.length:=by have:=(cV.mp e1).1;rw[cX,dQ]at this;omega
   subst Yk;rw[eS (dg _)]at e1;rw[h.len,eS (dg _)]at e2;simp only[hG,ir,jm]at e1 e2;subst e1 e2;have q1:p≠A.ca:=λz=>by rw[z,pJ h'.ca]at h1;cases h1
   have q2:wy≠A.ca:=λz=>wL (z ▸ h.nP.1);exact⟨ad,md,kp p _ q1 h1,kp.lst (a:=wy) q2 h2,kp.lst (λz=>h.mX ha (z ▸ cL)) h3,kp.lst (λz=>h.mX hm (z ▸ cL)) h4,nl' _ (h.mX ha) n1,nl' _ (h.mX hm) n2⟩
 .rw[zA];refine gh.mpr ⟨h.nl,dO.mpr ⟨dB,eG⟩,λx hx y hy=>?_⟩;rw[dD]at hy;subst hy;exact λz=>wL (z ▸ hx)
 .show(A.b::(A.cs++[(⟨p,wy⟩:qV)]).map (·.p)).Nodup;rw[dP,<-List.cons_append];refine gh.mpr ⟨h.np,dO.mpr ⟨dB,eG⟩,λx hx y hy=>?_⟩;rw[dS,iG,dD]at hy;subst hy;refine λz=>h.nj hp (z ▸ ?_);rcases df.mp hx with y|y
  .rw[y];exact A.mI.1
  .obtain⟨k,hk,rfl⟩:=dz.mp y;exact A.mI.2.2.2.2.2.1 k hk
 .unfold so.foot at hx;rw[zA]at hx;have hx:x∈A.b::A.nx::(A.lists++[wy]++(A.cs++[(⟨p,wy⟩:qV)]).map (·.p)):=hx;simp only[df,dW,dP,dS,iG,dB,eW]at hx;unfold so.foot;simp only[df,dW];rcases hx with z|z|(z|z)|(z|z)
  .exact .inl (.inl z)
  .exact .inl (.inr (.inl z))
  .exact .inl (.inr (.inr (.inl z)))
  .exact .inr (by rw[z];exact hw)
  .exact .inl (.inr (.inr (.inr z)))
  .exact .inr (by rw[z];exact hp)
def pA.nX{a:Ad}{M:Mp}{A:so}{V:pX}{p:Addr}{es:List rE}(h:pA a M A V)(hp:M p=none):
  pA a (oZ (oZ M p (.lst (es.map rE.d))) A.b (.ins a.c (sY (.ref V.p) V.h V.t A.ca p A.nx A.on A.lo))) {A with le:=p} {V with mL:=es}/\qE A M {A with le:=p} (oZ (oZ M p (.lst (es.map rE.d))) A.b (.ins a.c (sY (.ref V.p) V.h V.t A.ca p A.nx A.on A.lo))):=by
 have t:=qh.new (c:=.lst (es.map rE.d)) hp;have lp:=@o9 M p (es.map rE.d);have h1:=h.sub t;have np:p∉A.lists:=h.nM hp;have nf:p∉A.foot:=h.nj hp;have old:∀x c,M x=some c->x≠p:=λx c e z=>by rw[z,hp]at e;cases e
 generalize oZ M p (.lst (es.map rE.d))=M1 at t lp h1 ⊢;have kp:rN A.b M1 (oZ M1 A.b (.ins a.c (sY (.ref V.p) V.h V.t A.ca p A.nx A.on A.lo))):=.put;have sub:∀x,x∉A.lists++V.fo->x≠p->x∉({A with le:=p}:so).lists++V.fo:=λx h1 h2 z=>by
  rcases dW.mp z with z|z
  rotate_left
  .exact h1 (dZ _ z)
  have h1:x∉A.lists:=λy=>h1 (fg _ y);unfold so.lists at h1 z;simp only[df,fJ]at h1 z;rcases z with z|z|z|z|z
  .exact h1.1 z
  .exact h2 z
  .exact h1.2.2.1 z
  .exact h1.2.2.2.1 z
  .exact h1.2.2.2.2 z
 refine⟨⟨pG,kp.lst (pI h1.ca h1.at_) h1.ca,kp.lst (pI lp h1.at_) lp,kp.dk (Bc h1.nx h1.at_) h1.nx,kp.lst (pI h1.on h1.at_) h1.on,kp.lst (pI h1.lo h1.at_) h1.lo,h.len,λi k c e1 e2=>?_,?_,h.np,vZ h1.fo⟩,λx c n e=>kp x c (λz=>n (z ▸ A.mI.1)) (t x c e),λx hx=>?_,λi k e=>e,λx d e=>D8 (t x d e)⟩
 .obtain⟨ad,md,g1,g2,g3,g4,g5,g6⟩:=(h.cs i k c e1 e2);obtain⟨ad',md',f1,f2,f3,f4,f5⟩:=((h.cs i k c e1 e2).sub t).nN kp h1.at_ (h.oJ.2 k (qp e1));have q1:=kp _ _ (λz=>h.oJ.2 k (qp e1) z) (t _ _ g1);exact⟨ad,md,q1,f2,kp.lst (pI (t.lst g3) h1.at_) (t.lst g3),kp.lst (pI (t.lst g4) h1.at_) (t.lst g4),sub _ g5 (old _ _ (pJ g3)),sub _ g6 (old _ _ (pJ g4))⟩
 .have n:=h.nl;unfold so.lists at n np ⊢;simp only[df,fJ]at np;simp only[dO,df,fJ]at n ⊢;exact⟨⟨λz=>np.1 z.symm,n.1.2⟩,⟨np.2.2.1,np.2.2.2.1,np.2.2.2.2⟩,n.2.2⟩
 .by_cases z:x=p
  .exact .inr (z ▸ hp)
  .refine .inl ?_;unfold so.foot so.lists at hx ⊢;simp only[df,dW]at hx ⊢;rcases hx with y|y|(y|y|y|y|y)|y
   .exact .inl y
   .exact .inr (.inl y)
   .exact .inr (.inr (.inl (.inl y)))
   .exact absurd y z
   .exact .inr (.inr (.inl (.inr (.inr (.inl y)))))
   .exact .inr (.inr (.inl (.inr (.inr (.inr (.inl y))))))
   .exact .inr (.inr (.inl (.inr (.inr (.inr (.inr y))))))
   .exact .inr (.inr (.inr y))
def pA.frame{a:Ad}{M M':Mp}{A A1 A2:so}{V:pX}(h:pA a M A V)(st:qE A1 M A2 M')(h1:∀x∈A1.foot,x∉A.foot)(h2:∀x∈A1.foot,x∈V.fo\/M x=none):pA a M' A V:=by
 have hf:∀x∈A.foot,∀c,M x=some c->M' x=some c:=λx hx c e=>st.1 x c (λz=>h1 x z hx) e;have hl:∀{x:Addr} {ds:List D},x∈A.foot->oy M x=some ds->oy M' x=some ds:=λhx e=>rk (hf _ hx _ (pJ e));have ho:∀{x:Addr} {ds:List D},x∉A.lists++V.fo->oy M x=some ds->oy M' x=some ds:=λ{x ds} hx e=>rk (st.1 x _ (λz=>(h2 x z).elim (λy=>hx (dZ _ y)) λy=>by rw[pJ e]at y;cases y) (pJ e));obtain⟨f1,f2,f3,f4,f5,f6,f7⟩:=A.mI;exact⟨hf _ f1 _ h.at_,hl f3 h.ca,hl f4 h.le,BK (hf _ f2 _ (xO h.nx)),hl (A.ny h.nP.2.2.2.2) h.on,hl f5 h.lo,h.len,λi k c e1 e2=>by
  obtain⟨ad,md,g1,g2,g3,g4,g5,g6⟩:=h.cs i k c e1 e2;exact⟨ad,md,hf _ (f6 k (qp e1)) _ g1,hl (f7 k (qp e1)) g2,ho g5 g3,ho g6 g4,g5,g6⟩,h.nl,h.np,λx hx=>(h.fo x hx).elim λc e=>st.2.2.2 x c e⟩
def wO(x:D)(l:List D):vY (x::l) 0=some x:=by
 unfold vY;have:FL (x::l).length 0=some 0:=by unfold FL;rw[d6];simp
 rw[this];rfl
def xh(f:oW->Str->Bool)(a:Ad):qT:=λds M Q=>AU λL k c x=>ds=[.ref k.p,.str x]/\rm a M L k c/\Q (.bl (f c x)) M
abbrev GZ:=xh oW.hasB
abbrev yU:=xh oW.mJ
abbrev E6:=xh oW.mS
abbrev yu:=xh oW.mH
abbrev vt:=xh oW.mD
abbrev DZ:=xh oW.mK
abbrev wU:=xh oW.mU
noncomputable def LH(x:Str):D->Bool
 | .str y=>!(y==x)
 | _=>false
def vw(a:Ad):qT:=λds M Q=>Ij λL k c x y r=>ds=[.ref k.p,.str x]/\rm a M L k c/\c.ms.length<=100/\qQ c.ms x=y::r/\Q (.str y) M
def yN(ss:List Str)(x:Str):[]++(List.filter (LH x) (ss.map D.str)).map id=(qQ ss x).map D.str:=by rw[dX,iZ,gQ];rfl
def CV{M:Mp}{k:Addr}{ks:List Str}{c:Str}{K:DK}(hk:oy M k=some (ks.map D.str))(h:K (.bl (hasS ks c)) M):Q4 false (.str c) (.ref k) M K:=by refine i' hk ⟨rfl,qe ks,?_⟩;show K (.bl (inD (.str c) (ks.map D.str))) M;rw[rT];exact h
def VR(w x y:Str):inD (.str w) [.str x,.str y]=(w==x||w==y):=by rw[show[D.str x,D.str y]=[x,y].map D.str from rfl,rT,gg];simp only[fX,List.any_nil,iy,gP,fk];exact⟨λh=>h.imp lV lV,λh=>h.imp lV lV⟩
def QX(G:Gl K mg a):Fq P w K mg base 1 a.bH (GZ a):=by
 refine fq G.bH.toDG F0 (λr u=>⟨_,(oQ (pE (pb u (oX v0) oV)
 (oS (oY (Ia (pW u U1 (oX v0)) (sj (pW u U1 (oX v0))))))
 pk)
 (oQ (pE (pb u (oX v0) oV)
 (oS (oY (pW u U1 (oX v0))))
 pk)
 (oS (oY (sJ (pW u (oX v0) (pC (rB oV oV))) (sj (pW u U1 (oX v0)))))))),?_⟩)
 rintro ds M Q ⟨L,k,c,x,rfl,⟨ad,md,h1,h2,h3,h4,_⟩,q⟩
 unfold oW.hasB at q;refine oR h1 (i' rfl ?_);refine qr (c:=c.st=="rings") (λg=>?_) (λg=>?_)
 .rw[c9 g]at q;refine oR h1 (i' rfl (qr (c:=x==c.cr) (λg2=>?_) (λg2=>?_)))
  .rw[g2]at q;exact⟨M,.refl,q⟩
  .rw[show(x==c.cr)=false from dE.mpr g2,fC]at q;exact oR h1 (i' rfl (CV h3 ⟨M,.refl,q⟩))
 .rw[cY g]at q;refine oR h1 (i' rfl ?_);refine qr (c:=c.st=="waits") (λg2=>?_) (λg2=>?_)
  .rw[c9 g2]at q;exact oR h1 (i' rfl ⟨M,.refl,q⟩)
  .rw[cY g2]at q;refine oR h1 (i' rfl ⟨oO rfl,rfl,rfl,?_⟩);show if inD (.str c.st) [.str "talks",.str "held"]=true then _ else _
   rw[VR];refine qr (λg3=>?_) (λg3=>?_)
   .rw[g3,eI]at q;exact oR h1 (i' rfl (CV h4 ⟨M,.refl,q⟩))
   .rw[show(c.st=="talks"||c.st=="held")=false from dE.mpr g3,eR]at q;exact⟨M,.refl,q⟩
def vC(G:Gl K mg a):Fq P w K mg base 1 a.R (yU a):=by
 refine fq G.R.toDG yp (λr u=>⟨_,(oS (oY (sJ (pW u (oX v0) oV) (sj (pW u U1 (oX v0)))))),?_⟩)
 rintro ds M Q ⟨L,k,c,x,rfl,⟨ad,md,h1,h2,h3,h4,_⟩,q⟩
 unfold oW.mJ at q;refine oR h1 (i' rfl (qr (c:=c.st=="talks") (λg=>?_) (λg=>?_)))
 .rw[g,eI]at q;exact oR h1 (i' rfl (CV h4 ⟨M,.refl,q⟩))
 .rw[show(c.st=="talks")=false from dE.mpr g,eR]at q;exact⟨M,.refl,q⟩
def MM(G:Gl K mg a):Fq P w K mg base 2 a.bG (E6 a):=by
 refine fq G.bG.toDG CQ (λr u=>⟨_,(oQ (pE (pb u (oX v0) oV)
 (oS (oY (sJ (pW u U1 (oX v0)) (sj (pW u U1 (oX v0))))))
 pk)
 (oS (oY (pK v0 G.e.toCls G.R (vC G) r (pT U1))))),?_⟩)
 rintro ds M Q ⟨L,k,c,x,rfl,hc,q⟩
 obtain⟨ad,md,h1,h2,h3,h4,_⟩:=id hc;unfold oW.mS at q;refine oR h1 (i' rfl ?_);refine qr (c:=c.st=="held") (λg=>?_) (λg=>?_)
 .rw[c9 g]at q;refine oR h1 (i' rfl (i' h4 ⟨rfl,qe c.ms,?_⟩));show if inD (.str x) (c.ms.map D.str)=true then _ else _
  rw[rT];refine qr (c:=hasS c.ms x) (λg2=>?_) (λg2=>?_)
  .rw[g2,eI]at q;refine oR h1 (i' rfl ?_);cases e:c.hd with
   | none=>rw[e]at q;exact⟨M,.refl,q⟩
   | some y=>
    rw[e]at q;refine⟨M,.refl,?_⟩;rw[show(!(some y==some x))=!(x==y)from by
     show(!(y==x))=_;rw[lW]]at q
    exact q
  .rw[show hasS c.ms x=false from dE.mpr g2,eR]at q;exact⟨M,.refl,q⟩
 .rw[cY g]at q;exact oR h1 ⟨rfl,_,⟨rfl,rfl⟩,L,k,c,x,rfl,hc,M,.refl,q⟩
def Bu(G:Gl K mg a):Fq P w K mg base 1 a.U (yu a):=by
 refine fq G.U.toDG x8 (λr u=>⟨_,(oS (oY (sJ (pW u (oX v0) (pC (rB oV oV))) (sj (pW u U1 (oX v0)))))),?_⟩)
 rintro ds M Q ⟨L,k,c,x,rfl,⟨ad,md,h1,h2,h3,h4,_⟩,q⟩
 unfold oW.mH at q;refine oR h1 (i' rfl ⟨oO rfl,rfl,rfl,?_⟩);show if inD (.str c.st) [.str "rings",.str "waits"]=true then _ else _
 rw[VR];refine qr (λg3=>?_) (λg3=>?_)
 .rw[g3,eI]at q;exact oR h1 (i' rfl ⟨M,.refl,q⟩)
 .rw[show(c.st=="rings"||c.st=="waits")=false from dE.mpr g3,eR]at q;exact⟨M,.refl,q⟩
def Gz(G:Gl K mg a):Fq P w K mg base 1 a.ar (vt a):=by
 refine fq G.ar.toDG yx (λr u=>⟨_,(oS (oY (sJ (pW u (oX v0) oV) (sj (pW u U1 (oX v0)))))),?_⟩)
 rintro ds M Q ⟨L,k,c,x,rfl,⟨ad,md,h1,h2,h3,h4,_⟩,q⟩
 unfold oW.mD at q;refine oR h1 (i' rfl (qr (c:=c.st=="waits") (λg=>?_) (λg=>?_)))
 .rw[g,eI]at q;exact oR h1 (i' rfl (CV h3 ⟨M,.refl,q⟩))
 .rw[show(c.st=="waits")=false from dE.mpr g,eR]at q;exact⟨M,.refl,q⟩
def Lx(G:Gl K mg a):Fq P w K mg base 2 a.bF (wU a):=by
 refine fq G.bF.toDG wg (λr u=>⟨_,(oS (oY (Ia (pK v0 G.e.toCls G.U (Bu G) r (pT U1)) (Ia (pW u U1 (oX v0)) (sj (pW u U1 (oX v0))))))),?_⟩)
 rintro ds M Q ⟨L,k,c,x,rfl,hc,q⟩
 obtain⟨ad,md,h1,h2,h3,h4,_⟩:=id hc;unfold oW.mU at q;refine oR h1 ⟨rfl,_,⟨rfl,rfl⟩,L,k,c,x,rfl,hc,qr (c:=c.mH x) (λg=>?_) (λg=>?_)⟩
 .rw[g]at q;exact⟨M,.refl,q⟩
 .rw[show c.mH x=false from dE.mpr g,fC]at q;refine oR h1 (i' rfl (i' h3 ⟨rfl,qe c.at_,?_⟩));show if inD (.str x) (c.at_.map D.str)=true then _ else _
  rw[rT];refine qr (c:=hasS c.at_ x) (λg2=>?_) (λg2=>?_)
  .rw[g2]at q;exact⟨M,.refl,q⟩
  .rw[show hasS c.at_ x=false from dE.mpr g2,fC]at q;exact oR h1 (i' rfl (CV h4 ⟨M,.refl,q⟩))
def GA(G:Gl K mg a):Fq P w K mg base 2 a.av (DZ a):=by
 refine fq G.av.toDG Cw (λr u=>⟨_,(oS (oY (sJ (pK v0 G.e.toCls G.R (vC G) r (pT U1)) (sj (pW u (pH qk rfl G.g qc (pT (oX v0))) oU))))),?_⟩)
 rintro ds M Q ⟨L,k,c,x,rfl,hc,q⟩
 obtain⟨ad,md,h1,h2,h3,h4,_⟩:=id hc;unfold oW.mK at q;refine oR h1 ⟨rfl,_,⟨rfl,rfl⟩,L,k,c,x,rfl,hc,qr (c:=c.mJ x) (λg=>?_) (λg=>?_)⟩
 .rw[g,eI]at q;refine oR h1 (i' rfl (i' h4 ⟨M,.refl,?_⟩));rw[cT];have:(((c.ms.length:Nat):Int)==2)=(c.ms.length==2):=by rw[gg,fk,fk];omega
  show Q (.bl (((c.ms.length:Nat):Int)==2)) M;rw[this];exact q
 .rw[show c.mJ x=false from dE.mpr g,eR]at q;exact⟨M,.refl,q⟩
def Gj(G:Gl K mg a):Fq P w K mg base 1 a.au (vw a):=by
 refine fq G.au.toDG yr (λr u=>⟨_,(oS (oY (pz (qw rfl (xV (ix:=[none,some 1]) (N':=["member","phone"])) (qv (oX v0)) (qu 0) (uX (pb u v0 U1)) v0) oU))),?_⟩)
 rintro ds M Q ⟨L,k,c,x,y,r,rfl,hc,hl,e,q⟩
 have hz:=dM;obtain⟨ad,md,h1,h2,h3,h4,_⟩:=id hc;refine oR h1 (i' rfl (i' h4 (sv (f:=id) (t:=LH x) h4 _ [] _ (by rw[cT];simp only[dI];omega) (λd hd k0 hk=>?_) (λd hd _ k0 hk=>?_) λp hp=>?_)))
 .obtain⟨y,hy,rfl⟩:=dz.mp hd;exact hk
 .obtain⟨y,hy,rfl⟩:=dz.mp hd;exact hk
 rw[yN,e];exact i' o9 (i' (wO _ _) ⟨M,.new hp,q⟩)
theorem Bq:∀bs:List Bool,Ak (.bl true) (bs.map D.bl)=bs.findIdx? id
 | []=>rfl
 | b::r=>by rw[dS,List.findIdx?_cons];unfold Ak;rw[Bq r];cases b<;>rfl
theorem LF(x:D):∀ds:List D,(Ak x ds).isSome=ds.any λd=>PD d x
 | []=>rfl
 | d::r=>by
  unfold Ak;rw[fX];by_cases h:PD d x=true
  .rw[c9 h,h];rfl
  .rw[cY h,jl,LF x r,show PD d x=false from dE.mpr h,fC]
theorem BV:∀bs:List Bool,(bs.map D.bl).all uD=true
 | []=>rfl
 | _::r=>by rw[dS,ft,BV r];rfl
structure Rd(a:Ad)(M:Mp)(A:so)(V:pX)(l:pj):Prop where
 bd:pA a M A V
 k:V.calls.length<=1000000
 pl:rS a M V.p l
 ok:rf l
 on:V.on.length=l.mx.length
 ms:∀c∈V.calls,(∀x∈c.ms,x∈l.pn)/\c.ms.length<=100
def Rd.sub{a:Ad}{M M':Mp}{A:so}{V:pX}{l:pj}(h:Rd a M A V l)(s:qh M M'):Rd a M' A V l:=⟨h.bd.sub s,h.k,h.pl.sub s,h.ok,h.on,h.ms⟩
def KR:qT:=λds M Q=>B8 λr bs=>ds=[.ref r]/\oy M r=some (List.map D.bl bs)/\Q (OO (bs.findIdx? id)) M
def J4(f:pX->Str->D)(a:Ad):qT:=λds M Q=>CN λA V x=>ds=[.ref A.b,.str x]/\pA a M A V/\V.calls.length<=1000000/\Q (f V x) M
noncomputable def S9(V:pX)(x:Str):D:=.int (uH V x:Nat)
noncomputable def K1(V:pX)(x:Str):D:=OO (Ep V x)
noncomputable def Aa(V:pX)(x:Str):D:=OO (vh V x)
noncomputable def SM(V:pX)(x:Str):D:=OO (Il V x)
noncomputable def Tn(V:pX)(x:Str):D:=.bl (zV V x)
abbrev EV:=J4 S9
abbrev Cy:=J4 K1
abbrev Am:=J4 Aa
abbrev Aq:=J4 SM
abbrev zN:=J4 Tn
def wQ(a:Ad):qT:=λds M Q=>AU λA V l x=>ds=[.ref A.b,.str x]/\Rd a M A V l/\x∈l.pn/\Q (.bl (tF l V x)) M
def zQ(a:Ad):qT:=λds M Q=>GC λA V l c z=>ds=[.ref A.b,.str c,.str z]/\Rd a M A V l/\z∈l.nm/\∀q M',qh M M'->M q=none->oy M' q=some ((tQ l V c z).map D.str)->Q (.ref q) M'
def zt(a:Ad):qT:=λds M Q=>B8 λA V=>ds=[.ref A.b]/\pA a M A V/\Q (.int ((V.h+V.t) % 24)) M
def Pk(a:Ad):qT:=λds M Q=>GC λA V l c z=>ds=[.ref A.b,.str c,.str z]/\Rd a M A V l/\z∈l.nm/\Q (.bl (xj l V c z)) M
def Ih{a:Ad}{M:Mp}{A:so}{V:pX}(h:pA a M A V){pre post:List D}{d:D}(e:pre++d::post=A.cs.map λk=>D.ref k.p):∃k c,A.cs[pre.length]?=some k/\V.calls[pre.length]?=some c/\d=.ref k.p/\rm a M (A.lists++V.fo) k c/\V.calls.take (pre.length+1)=V.calls.take pre.length++[c]:=by
 have h1:(A.cs.map λk=>D.ref k.p)[pre.length]?=some d:=by rw[<-e];simp
 rw[dA]at h1;cases z:A.cs[pre.length]? with
 | none=>rw[z]at h1;cases h1
 | some k=>
  rw[z]at h1;have hi:pre.length<V.calls.length:=by rw[<-h.len];exact(cV.mp z).1
  have e2:V.calls[pre.length]?=some V.calls[pre.length]:=cW hi;refine⟨k,_,rfl,e2,(dh h1).symm,h.cs _ _ _ z e2,?_⟩;rw[gW,e2];rfl
def yj{l:pj}{x:Str}(h:x∈l.pn):∃v,l.mR x=some v:=by
 obtain⟨p,hp,rfl⟩:=dz.mp h;unfold pj.mR;cases e:l.my.find? λq=>decide (q.1=p.1)with
 | some v=>exact⟨v,rfl⟩
 | none=>exact absurd (gR.mp e p hp) (by simp)
def qG{ss:List Str}{x:Str}:hasS ss x=true↔x∈ss:=by unfold hasS;rw[gp];exact⟨λ⟨y,hy,e⟩=>eq_of_beq e ▸ hy,λh=>⟨x,h,eM _⟩⟩
def JE{ss:List Str}(h:we ss=true):ss.Nodup:=by
 have h:(su ss).length=ss.length:=by unfold we at h;have:=fk.mp h;omega
 suffices key:∀r:List Str,(su r.reverse).length=r.reverse.length->r.reverse.Nodup by have:=key ss.reverse;rw[List.reverse_reverse]at this;exact this h
 intro r;induction r with
 | nil=>intro _;exact eG
 | cons k r ih=>
  intro h;rw[List.reverse_cons]at h ⊢;generalize r.reverse=l at ih h ⊢;rw[xP]at h;split at h
  .have:=IA l;rw[cX,dQ]at h;omega
  .rename_i hk;rw[cX,cX,dQ]at h;have h1:=ih (by omega);rw[Le]at hk;refine gh.mpr ⟨h1,by simp,λx hx y hy=>?_⟩;rw[dD.mp hy];exact λz=>hk (z ▸ hx)
def HA{cs ks:List Str}{m:Int}(h:rW cs ks m=true):cs≠[]/\(cs.length:Int)<=m/\cs.Nodup/\∀x∈cs,x∈ks:=by unfold rW at h;simp only[dU,eB,eL]at h;obtain⟨h1,h2,h3,h4⟩:=h;refine⟨λz=>by rw[z]at h1;exact absurd h1 (by decide),h2,JE h3,λx hx=>qG.mp (h4 x hx)⟩
def rf.of{l:pj}(ok:rf l){z:Str}(hz:z∈l.nm):(l.mv z≠[]/\(l.mv z).length<=4/\(l.mv z).Nodup/\∀x∈l.mv z,x∈l.pn)/\(z∈l.pn->l.mv z=[z]/\l.mF z="one"):=by
 have hd:=gh.mp ok.nd;have h1:z∈l.pn->l.group z=none:=λh=>gR.mpr λg hg e=>hd.2.2 z h g.1 (dz.mpr ⟨g,hg,rfl⟩) (by simpa using e:g.1=z).symm;refine⟨?_,λh=>by unfold pj.mv pj.mF;rw[h1 h];exact⟨rfl,rfl⟩⟩;unfold pj.mv;cases e:l.group z with
 | none=>
  have hp:z∈l.pn:=by
   rcases dW.mp hz with h|h
   .exact h
   .obtain⟨g,hg,rfl⟩:=dz.mp h;exact absurd (gR.mp e g hg) (by simp)
  exact⟨fE _ _,by show 1<=4;decide,dO.mpr ⟨dB,eG⟩,λx hx=>by rw[dD.mp hx];exact hp⟩
 | some g=>obtain⟨c1,c2,c3,c4⟩:=HA (ok.go g (gD e)).mem;exact⟨c1,by show g.2.2.length<=4;omega,c3,c4⟩
def xM{a:Ad}{M:Mp}{A:so}{V:pX}{f:oW->Str->Bool}{m x:Str}{Q:DK}{ok:Mp->Prop}(bd:pA a M A V)(hk:V.calls.length<=1000000)(mG:ok M)(hm:∀c wy ad md,(qS c wy ad md).lookup m=none)(q:∀p,M p=none->Q (.ref p) (oZ M p (.lst ((V.calls.map λc=>f c x).map D.bl)))):
  uC (ud 0) B1 (Ab m (λC s=>C=a.e/\s=xh f a) (v3 0) (uP (v3 1) xF)) ok Q (A.cs.map λk=>D.ref k.p) [] [none,some (.str x)] M:=by
 have hz:=dM;refine EQ (A.cs.map λk=>D.ref k.p) (λpre acc δ M'=>M=M'/\acc=((V.calls.take pre.length).map λc=>f c x).map D.bl/\∃y,δ=[y,some (.str x)]) (λ_ _ _ M' j=>by rw[<-j.1];exact mG) _ [] [] _ _ rfl ?_ ⟨rfl,rfl,none,rfl⟩ ?_ ?_
 .rw[cT,bd.len];simp only[dI];omega
 .rintro pre d post e acc δ M' ⟨rfl,rfl,y,rfl⟩ k hk
  obtain⟨ka,c,e1,e2,rfl,hc,et⟩:=Ih bd e;obtain⟨_,_,g1,_⟩:=id hc;refine oR g1 ⟨hm _ _ _ _,_,⟨rfl,rfl⟩,_,ka,c,x,rfl,hc,hk _ _ _ ⟨rfl,?_,_,rfl⟩⟩;rw[cX,dQ,et,dP,dP];rfl
 .rintro acc δ M' ⟨rfl,rfl,y,rfl⟩ p hp
  rw[cT,bd.len,fN];exact q p hp
def BG(G:Gl K mg a):Fq P w K mg base 1 a.L KR:=by
 refine fq G.L.toDG zI (λr u=>⟨_,(oQ (pE (pb u yd v0)
 (oS (oY (xm v0 (pT yd))))
 pk)
 (oS (oY rF))),?_⟩)
 rintro ds M Q ⟨r,bs,rfl,hr,q⟩
 have ei:inD (.bl true) (bs.map D.bl)=(bs.findIdx? id).isSome:=by rw[<-Bq];exact(LF _ _).symm
 refine i' hr ⟨rfl,BV bs,?_⟩;show if inD (.bl true) (bs.map D.bl)=true then _ else _
 rw[ei];cases e:bs.findIdx? id with
 | none=>rw[e]at q;exact⟨M,.refl,q⟩
 | some j=>rw[e]at q;exact OI ⟨by show(oy M r).isSome=true;rw[hr];rfl,i' hr ⟨rfl,BV bs,i' ((Bq bs).trans e) ⟨M,.refl,q⟩⟩⟩
def Pv(G:Gl K mg a):Fq P w K mg base 2 a.bD (EV a):=by
 refine fq G.bD.toDG Cr (λr u=>⟨_,(oS (oY (pH qk rfl G.g qc (pT (qw rfl (xV (ix:=[none,some 1]) (N':=["call","phone"])) (qv (oX v0)) (qu 0) (uX (uS (pK v0 G.e.toCls G.bH (QX G) r (pT U1)))) v0))))),?_⟩)
 rintro ds M Q ⟨A,V,x,rfl,bd,WQ,q⟩
 have hz:=dM;refine oR bd.at_ (i' rfl (i' bd.ca ?_));refine xN (A.cs.map λk=>D.ref k.p) (λpre acc δ M'=>M=M'/\acc.length=((V.calls.take pre.length).filter (·.hasB x)).length/\∃y,δ=[y,some (.str x)]) (λ_ _ _ M' j=>by rw[<-j.1];exact bd.ca) _ [] [] _ _ rfl ?_ ⟨rfl,rfl,none,rfl⟩ ?_ ?_
 .rw[cT,bd.len];simp only[dI];omega
 .rintro pre d post e acc δ M' ⟨rfl,ha,y,rfl⟩ k k2 hk Yr
  obtain⟨ka,c,e1,e2,rfl,hc,et⟩:=Ih bd e;rw[cX,dQ,et,jf]at hk Yr;obtain⟨_,_,g1,_⟩:=id hc;refine oR g1 ⟨rfl,_,⟨rfl,rfl⟩,_,ka,c,x,rfl,hc,?_⟩;refine qr (c:=c.hasB x) (λg=>?_) (λg=>?_)
  .refine hk _ _ _ ⟨rfl,?_,_,rfl⟩;rw[cX,cX,ha,ip (by exact g)];rfl
  .refine Yr _ _ ⟨rfl,?_,_,rfl⟩;rw[cX,ha,iq (by exact g)];rfl
 .rintro acc δ M' ⟨rfl,ha,y,rfl⟩ p hp
  refine i' o9 ⟨M,.new hp,?_⟩;rw[cT,bd.len,fN]at ha;rw[ha];exact q
def L5(G:Gl K mg a):Fq P w K mg base 3 a.bB (Cy a):=by
 refine fq G.bB.toDG BW (λr u=>⟨_,(oS (oY (pq (BG G) r G.L (pT (qw rfl (xV (ix:=[none,some 1]) (N':=["call","phone"])) (qv (oX v0)) (qu 0) rC (pK v0 G.e.toCls G.bG (MM G) r (pT U1))))))),?_⟩)
 rintro ds M Q ⟨A,V,x,rfl,bd,WQ,q⟩
 refine oR bd.at_ (i' rfl (i' bd.ca (xM bd WQ bd.ca (λ_ _ _ _=>rfl) λp hp=>⟨p,_,rfl,o9,M,.new hp,?_⟩)));rw[gY];exact q
def G8(G:Gl K mg a):Fq P w K mg base 3 a.bC (Aq a):=by
 refine fq G.bC.toDG zG (λr u=>⟨_,(oS (oY (pq (BG G) r G.L (pT (qw rfl (xV (ix:=[none,some 1]) (N':=["call","phone"])) (qv (oX v0)) (qu 0) rC (pK v0 G.e.toCls G.U (Bu G) r (pT U1))))))),?_⟩)
 rintro ds M Q ⟨A,V,x,rfl,bd,WQ,q⟩
 refine oR bd.at_ (i' rfl (i' bd.ca (xM bd WQ bd.ca (λ_ _ _ _=>rfl) λp hp=>⟨p,_,rfl,o9,M,.new hp,?_⟩)));rw[gY];exact q
def yy(G:Gl K mg a):Fq P w K mg base 3 a.Q (Am a):=by
 refine fq G.Q.toDG zE (λr u=>⟨_,(oS (oY (pq (BG G) r G.L (pT (qw rfl (xV (ix:=[none,some 1]) (N':=["call","phone"])) (qv (oX v0)) (qu 0) rC (pK v0 G.e.toCls G.R (vC G) r (pT U1))))))),?_⟩)
 rintro ds M Q ⟨A,V,x,rfl,bd,WQ,q⟩
 refine oR bd.at_ (i' rfl (i' bd.ca (xM bd WQ bd.ca (λ_ _ _ _=>rfl) λp hp=>⟨p,_,rfl,o9,M,.new hp,?_⟩)));rw[gY];exact q
def F1(G:Gl K mg a):Fq P w K mg base 3 a.bK (zN a):=by
 refine fq G.bK.toDG zi (λr u=>⟨_,(oS (oY (pH (Rk rfl) rfl G.cG Rx (pT (qw rfl (xV (ix:=[none,some 1]) (N':=["call","phone"])) (qv (oX v0)) (qu 0) rC (pK v0 G.e.toCls G.ar (Gz G) r (pT U1))))))),?_⟩)
 rintro ds M Q ⟨A,V,x,rfl,bd,WQ,q⟩
 refine oR bd.at_ (i' rfl (i' bd.ca (xM bd WQ bd.ca (λ_ _ _ _=>rfl) λp hp=>i' o9 ?_)));rw[d9];refine i' (xQ _ _) ⟨M,.new hp,?_⟩;rw[jE];exact q
def Ge(G:Gl K mg a):Fq P w K mg base 1 a.bJ (zt a):=by
 refine fq G.bJ.toDG zm (λr u=>⟨_,(oS (oY (pM (pM (oX v0) (oX v0)) oU))),?_⟩)
 rintro ds M Q ⟨A,V,rfl,bd,q⟩
 exact oR bd.at_ (i' rfl (oR bd.at_ (i' rfl ⟨by decide,M,.refl,q⟩)))
def K3{l:pj}{x:Str}{v:ur}(h:l.mR x=some v):wx l x=v.2.1:=by unfold wx;rw[h];rfl
def yE(G:Gl K mg a):Fq P w K mg base 3 a.T (wQ a):=by
 refine fq G.T.toDG zx (λr u=>⟨_,(oS (oY (pW u (pK v0 G.c.toCls G.bD (Pv G) r (pT U1)) (pK (oX v0) G.h.toCls G.bE (Cz G) r (pT U1))))),?_⟩)
 rintro ds M Q ⟨A,V,l,x,rfl,rd,hx,q⟩
 obtain⟨ph,gr,ws,XS,pr,gd,rs,i1,_⟩:=rd.pl;obtain⟨v,hv⟩:=yj hx;refine oR rd.bd.at_ ⟨rfl,_,⟨rfl,rfl⟩,A,V,x,rfl,rd.bd,rd.k,?_⟩;refine oR rd.bd.at_ (i' rfl (oR i1 ⟨rfl,_,⟨rfl,rfl⟩,V.p,x,v,l,rfl,rd.pl,hv,?_⟩));unfold tF at q;rw[K3 hv]at q;exact⟨M,.refl,q⟩
def zW(G:Gl K mg a):Fq P w K mg base 4 a.aK (zQ a):=by
 refine fq G.aK.toDG zk (λr u=>⟨_,(oS (oY (qw rfl (xV (ix:=[none,some 1,some 0]) (N':=["phone","caller","self"])) (qv (pK (oX v0) G.h.toCls G.V (tT G) r (pT U2))) (qu 0) (uX (W3.b3 (vF (pb u v0 U1) (vj (uS (pK U2 G.c.toCls G.T (yE G) r (pT v0))))))) v0))),?_⟩)
 rintro ds M Q ⟨A,V,l,c,z,rfl,rd,Xl,q⟩
 obtain⟨ph,gr,ws,XS,pr,gd,rs,i1,_⟩:=rd.pl;obtain⟨⟨_,p4,_,pin⟩,_⟩:=rd.ok.of Xl;refine oR rd.bd.at_ (i' rfl (oR i1 ⟨rfl,_,⟨rfl,rfl⟩,V.p,z,l,rfl,rd.pl,λq1 Xk=>i' o9 ?_⟩));have s1:=qh.new (c:=.lst (List.map D.str (l.mv z))) Xk;have c1:=@o9 M q1 (List.map D.str (l.mv z));generalize oZ M q1 (.lst (List.map D.str (l.mv z)))=M1 at s1 c1 ⊢;have hz:=dM;have Yd:=rd.sub s1;refine sv (f:=id) (t:=λd=>match d with|.str x=>!(x==c)&&tF l V x|_=>false) c1 _ [] _ (by rw[cT];simp only[dI];omega) (λd hd k hk=>?_) (λd hd _ k hk=>?_) λq2 YH=>?_
 .obtain⟨x,hx,rfl⟩:=dz.mp hd;have hk:k (!(x==c)&&tF l V x) M1:=hk;cases e:x==c with
  | true=>rw[e]at hk;refine Nc (c:=!(x==c)) (by rw[e];rfl) hk
  | false=>rw[e]at hk;refine Av (c:=!(x==c)) (by rw[e];rfl) (oR Yd.bd.at_ ⟨rfl,_,⟨rfl,rfl⟩,A,V,l,x,rfl,Yd,pin x hx,hk⟩)
 .obtain⟨x,hx,rfl⟩:=dz.mp hd;exact hk
 .have ef:[]++(List.filter (λd=>match d with|.str x=>!(x==c)&&tF l V x|_=>false) ((l.mv z).map D.str)).map id=(tQ l V c z).map D.str:=by rw[dX,iZ,gQ];rfl
  rw[ef];have t2:=qh.new (c:=.lst ((tQ l V c z).map D.str)) YH;exact⟨_,.refl,q q2 _ (s1.trans t2) (s1.none YH) o9⟩
def Et(G:Gl K mg a):Fq P w K mg base 5 a.M (Pk a):=by
 refine fq G.M.toDG Hh (λr u=>⟨_,(oS (oY (pW u (pH qk rfl G.g qc (pT (pK v0 G.c.toCls G.aK (zW G) r (rB U1 U2)))) oU))),?_⟩)
 rintro ds M Q ⟨A,V,l,c,z,rfl,rd,tg,q⟩
 refine oR rd.bd.at_ ⟨rfl,_,⟨rfl,rfl⟩,A,V,l,c,z,rfl,rd,tg,λq1 M1 s1 Xk e1=>i' e1 ⟨M,s1,?_⟩⟩;have e:((((tQ l V c z).map D.str).length:Int)==0)=xj l V c z:=by unfold xj;rw[cT,gg,fk,List.isEmpty_iff,<-fL];omega
 show Q (.bl ((((tQ l V c z).map D.str).length:Int)==0)) M;rw[e];exact q
def wI(a:Ad)(v:Wi):qT:=λds M Q=>Ij λp A V l c z=>ds=[.ref p,.ref A.b,.str c,.str z]/\M p=some (.ins (v.cls a) v.nv)/\Rd a M A V l/\z∈l.nm/\Bp l.pn l.nm v/\Q (.bl (Aw l V c z v)) M
def Qa(a:Ad)(v:Wi):qT:=λds M Q=>AU λp L k c=>ds=[.ref p,.ref (qV.p k)]/\M p=some (.ins (v.cls a) v.nv)/\rm a M L k c/\Q (.bl (Fl c v)) M
def FX:qT:=λds M Q=>B8 λx y=>ds=[x,y]/\Q (.bl false) M
def KM(a:Ad):Addr->qT->Prop:=λC sp=>∃v:Wi,C=v.cls a/\sp=wI a v
noncomputable def Na(a:Ad):Wi->qT
 | .silent x y n=>Qa a (.silent x y n)
 | _=>FX
def Gs(a:Ad):Addr->qT->Prop:=λC sp=>∃v:Wi,C=v.cls a/\sp=Na a v
def zJ(a:Ad):qT:=λds M Q=>Ij λp x y f l h=>ds=[.ref p,.int h]/\M p=some (.ins a.n (Wi.night x y f l).nv)/\Q (.bl (D4 f l h)) M
def yZ(a:Ad):qT:=λds M Q=>Ij λp x q l r ms=>ds=[.ref p,.ref q,.ref r]/\M p=some (.ins a.o (Wi.breaks x).nv)/\rS a M q l/\oy M r=some (List.map D.str ms)/\ms.length<=100/\x∈l.pn/\(∀m∈ms,m∈l.pn)/\Q (.bl (Hq l x ms)) M
def Iq{l:pj}{x:Str}{v:ur}(h:l.mR x=some v):vp l x=v.2.2:=by unfold vp;rw[h];rfl
def qx{ks:List qV}{i:Nat}{k:qV}(h:ks[i]?=some k):vY (ks.map λk=>D.ref k.p) (i:Nat)=some (.ref k.p):=uJ (by rw[dA,h];rfl)
def LD(ds:List D):L3.tq ds (some (-1:Int)) none=ds.drop (ds.length - 1):=by
 unfold L3.tq;have e:HT.sG ds.length 0 (some (-1:Int))=ds.length - 1:=by show(if (-1:Int)<0 then((-1:Int)+(ds.length:Int)).toNat else min (-1:Int).toNat ds.length)=ds.length - 1;rw[c9 (by decide)];omega
 rw[e];show(ds.drop (ds.length - 1)).take (ds.length - (ds.length - 1))=_;exact gT (by rw[fY];exact dg _)
theorem Dn{α:Type}:∀w:List α,w.drop (w.length - 1)=w.getLast?.toList
 | []=>rfl
 | [_]=>rfl
 | _::z::r=>by rw[List.getLast?_cons_cons,<-Dn (z::r)];rfl
def Oh{M:Mp}{p q:Addr}{w:List Str}{x:Str}(h1:oy M p=some ((w.map D.str).drop ((w.map D.str).length - 1)))(h2:oy M q=some [D.str x]):yI M 9 (.ref p) (.ref q)=some (w.getLast?==some x):=by
 have e:(w.map D.str).drop ((w.map D.str).length - 1)=(w.getLast?.toList).map D.str:=by rw[cT,<-km];rw[Dn]
 rw[e]at h1;show(oy M p).bind (λi=>(oy M q).bind λj=>if i.length=j.length then rY (yI M 8) i j else some false)=_;rw[h1,h2];cases w.getLast? with
 | none=>rfl
 | some y=>show((some (y==x)).bind λp=>(some true).map λq=>p&&q)=some (some y==some x);show some ((y==x)&&true)=_;rw[Bool.and_true];rfl
def MY(G:Gl K mg a)(x:Str)(ns:List Str):Fq P w K mg base 6 a.aB (wI a (.bar x ns)):=by
 refine fq G.aB.toDG Gh (λr u=>⟨_,(oS (oY (sJ (pW u U2 (oX v0)) (sj (pW u U3 (oX v0)))))),?_⟩)
 rintro ds M Q ⟨p,A,V,l,c,z,rfl,hp,_,_,_,q⟩
 refine oR hp ?_;refine qr (c:=c==x) (λg=>oR hp ⟨rfl,qe ns,M,.refl,?_⟩) (λg=>⟨M,.refl,?_⟩)
 .show Q (.bl (inD (.str z) (ns.map D.str))) M;rw[rT];dsimp only[Aw]at q;rw[g,eI]at q;exact q
 .dsimp only[Aw]at q;rw[show(c==x)=false from dE.mpr g,eR]at q;exact q
def Nd(G:Gl K mg a)(x:Str)(ns:List Str):Fq P w K mg base 6 a.aC (wI a (.shut x ns)):=by
 refine fq G.aC.toDG Eg (λr u=>⟨_,(oS (oY (sJ (pW u U3 (oX v0)) (sj (pW u U2 (oX v0)))))),?_⟩)
 rintro ds M Q ⟨p,A,V,l,c,z,rfl,hp,_,_,_,q⟩
 refine oR hp ?_;refine qr (c:=z==x) (λg=>oR hp ⟨rfl,qe ns,M,.refl,?_⟩) (λg=>⟨M,.refl,?_⟩)
 .show Q (.bl (inD (.str c) (ns.map D.str))) M;rw[rT];dsimp only[Aw]at q;rw[g,eI]at q;exact q
 .dsimp only[Aw]at q;rw[show(z==x)=false from dE.mpr g,eR]at q;exact q
def LL(G:Gl K mg a)(x y:Str):Fq P w K mg base 6 a.aD (wI a (.always x y)):=by
 refine fq G.aD.toDG BP (λr u=>⟨_,(oS (oY (pW u U3 (oX v0)))),?_⟩)
 rintro ds M Q ⟨p,A,V,l,c,z,rfl,hp,_,_,_,q⟩
 exact oR hp ⟨M,.refl,q⟩
def Ft(G:Gl K mg a):Fq P w K mg base 1 a.bI (zJ a):=by
 refine fq G.bI.toDG yT (λr u=>⟨_,(oQ (pE (pb u (oX v0) (oX v0))
 (oS (oY (tR u (oX v0) U1 (oX v0))))
 pk)
 (oS (oY (Ia (pW u U1 (oX v0)) (sj (pW u U1 (oX v0))))))),?_⟩)
 rintro ds M Q ⟨p,x,y,f,l,h,rfl,hp,q⟩
 refine oR hp (oR hp ?_);show if (decide (f<l))=true then _ else _
 unfold D4 at q;by_cases z:f<l
 .rw[c9 z]at q;refine Av (dR z) (oR hp ?_);refine qr (c:=decide (f<=h)) (λg=>?_) (λg=>?_)
  .rw[g,eI]at q;exact oR hp ⟨M,.refl,q⟩
  .rw[show decide (f<=h)=false from dE.mpr g,eR]at q;exact⟨M,.refl,q⟩
 .rw[cY z]at q;refine Nc (eO z) (oR hp ?_);refine qr (c:=decide (h>=f)) (λg=>?_) (λg=>?_)
  .rw[g,gZ]at q;exact⟨M,.refl,q⟩
  .rw[show decide (h>=f)=false from dE.mpr g,fC]at q;exact oR hp ⟨M,.refl,q⟩
def Ln(G:Gl K mg a)(x y:Str)(f m:Int):Fq P w K mg base 6 a.aE (wI a (.night x y f m)):=by
 refine fq G.aE.toDG CH (λr u=>⟨_,(oS (oY (sJ (pW u U3 (oX v0)) (sj (pK v0 G.n.toCls G.bI (Ft G) r (pT (xX U1 G.c.toCls G.bJ (Ge G) r))))))),?_⟩)
 rintro ds M Q ⟨p,A,V,l,c,z,rfl,hp,rd,_,_,q⟩
 dsimp only[Aw]at q;refine oR hp ?_;refine qr (c:=z==x) (λg=>?_) (λg=>?_)
 .rw[g,eI]at q;exact oR hp ⟨rfl,_,⟨rfl,rfl⟩,oR rd.bd.at_ ⟨rfl,_,⟨rfl,rfl⟩,A,V,rfl,rd.bd,p,x,y,f,m,_,rfl,hp,M,.refl,q⟩⟩
 .rw[show(z==x)=false from dE.mpr g,eR]at q;exact⟨M,.refl,q⟩
def LW(G:Gl K mg a)(x y:Str):Fq P w K mg base 6 a.aF (wI a (.busy x y)):=by
 refine fq G.aF.toDG Ed (λr u=>⟨_,(oS (oY (sJ (pW u U3 (oX v0)) (sj (pq (Et G) r G.M (qN U1 U2 U3)))))),?_⟩)
 rintro ds M Q ⟨p,A,V,l,c,z,rfl,hp,rd,hz,_,q⟩
 dsimp only[Aw]at q;refine oR hp ?_;refine qr (c:=z==x) (λg=>?_) (λg=>?_)
 .rw[g,eI]at q;exact⟨A,V,l,c,z,rfl,rd,hz,M,.refl,q⟩
 .rw[show(z==x)=false from dE.mpr g,eR]at q;exact⟨M,.refl,q⟩
def KU(G:Gl K mg a)(x y:Str)(n:Int):Fq P w K mg base 6 a.aG (wI a (.silent x y n)):=by
 refine fq G.aG.toDG B9 (λr u=>⟨_,(oS (oY yd)),?_⟩)
 rintro ds M Q ⟨p,A,V,l,c,z,rfl,hp,rd,hz,_,q⟩
 exact⟨M,.refl,q⟩
def Kt(G:Gl K mg a)(x:Str):Fq P w K mg base 6 a.aH (wI a (.wait x)):=by
 refine fq G.aH.toDG DR (λr u=>⟨_,(oQ (pE (W3.b3 (xl (pb u U3 (oX v0)) (wH (pb u U2 (oX v0)))))
 (oS (oY yd))
 pk)
 (oS (oY (sJ (pq (Et G) r G.M (qN U1 U2 U3)) (sj (QW (pK U1 G.c.toCls G.bK (F1 G) r (pT U3)))))))),?_⟩)
 rintro ds M Q ⟨p,A,V,l,c,z,rfl,hp,rd,hz,_,q⟩
 dsimp only[Aw]at q;refine oR hp ?_;refine qr (c:=!(z==x)) (λg=>?_) (λg=>?_)
 .rw[g,gZ]at q;exact⟨M,.refl,q⟩
 rw[show(!(z==x))=false from dE.mpr g,fC]at q;refine oR hp ?_;refine qr (c:=c==x) (λg=>?_) (λg=>?_)
 .rw[g]at q;exact⟨M,.refl,q⟩
 rw[cY g]at q;refine⟨A,V,l,c,z,rfl,rd,hz,?_⟩;refine qr (c:=xj l V c z) (λg=>?_) (λg=>?_)
 .rw[g,eI]at q;exact oR rd.bd.at_ ⟨rfl,_,⟨rfl,rfl⟩,A,V,z,rfl,rd.bd,rd.k,M,.refl,q⟩
 .rw[show xj l V c z=false from dE.mpr g,eR]at q;exact⟨M,.refl,q⟩
def FT(G:Gl K mg a):Fq P w K mg base 2 a.bL (yZ a):=by
 refine fq G.bL.toDG vc (λr u=>⟨_,(oQ (pB 3 vc (pK U1 G.h.toCls G.aL (zb G) r (pT (oX v0))))
 (oS (oY (pH (E9 rfl) rfl G.bN DF (pT (qw rfl (xV (ix:=[none,some 1,some 3]) (N':=["member","plan","rank"])) (qv U2) (qu 0) rC (pW u (pK U1 G.h.toCls G.aL (zb G) r (pT v0)) U2))))))),?_⟩)
 rintro ds M Q ⟨p,x,q,l,r,ms,rfl,hp,pl,lr,h100,hx,hm,k⟩
 have hz:=dM;obtain⟨v,hv⟩:=yj hx;obtain⟨ph,gr,ws,XS,pr,gd,rs,i1,_⟩:=id pl;refine oR i1 ⟨rfl,_,⟨rfl,rfl⟩,oR hp (i' rfl ⟨q,x,v,l,rfl,pl,hv,?_⟩)⟩;refine i' lr (qM (f:=λd=>match d with|.str m=>.bl (decide (vp l m<vp l x))|_=>.mC) lr _ [] _ (by rw[cT];show 0+ms.length<=sizeLine;omega) (λd hd k0 hk=>?_) λp1 Yo=>?_)
 .obtain⟨m,hmm,rfl⟩:=dz.mp hd;obtain⟨u,hu⟩:=yj (hm m hmm);have hk:k0 (.bl (decide (vp l m<vp l x))) M:=hk;rw[Iq hu,Iq hv]at hk;exact oR i1 ⟨rfl,_,⟨rfl,rfl⟩,q,m,u,l,rfl,pl,hu,hk⟩
 .have em:[]++(ms.map D.str).map (λd=>match d with|.str m=>.bl (decide (vp l m<vp l x))|_=>.mC)=ms.map λm=>D.bl (decide (vp l m<vp l x)):=by rw[dX,d9];rfl
  rw[em];refine i' o9 (i' (xQ (λm=>decide (vp l m<vp l x)) ms) ⟨M,.new Yo,?_⟩);unfold Hq at k;rw[yO];exact k
def Kp(G:Gl K mg a)(x:Str):Fq P w K mg base 6 a.aI (wI a (.breaks x)):=by
 refine fq G.aI.toDG uR (λr u=>⟨_,(oQ (pE (W3.b3 (xl (pb u U2 (oX v0)) (wH (pb u U3 (oX v0)))))
 (oS (oY yd))
 pk)
 (oQ (pE (W3.b3 (xl (pb u U3 (xX (oX U1) G.h.toCls G.S (tj G) r)) (wH (yz (uS (pq (Et G) r G.M (qN U1 U2 U3)))))))
 (oS (oY yd))
 pk)
 (oQ (pB 4 uR (pK U1 G.c.toCls G.Q (yy G) r (pT U3)))
 (oQ (pE (pb u v4 rF)
 (oS (oY yd))
 pk)
 (oQ (pB 5 uR (oX (pz (oX U1) v4)))
 (oS (oY (sJ (pW u (pH qk rfl G.g qc (pT v5)) oU) (sj (pK v0 G.o.toCls G.bL (FT G) r (rB (oX U1) v5))))))))))),?_⟩)
 rintro ds M Q ⟨p,A,V,l,c,z,rfl,hp,rd,Xl,hx,q⟩
 have hx:x∈l.pn:=qG.mp hx;obtain⟨ph,gr,ws,XS,pr,gd,rs,i1,_⟩:=rd.pl;have p8:=rd.ok.p8;dsimp only[Aw,GG]at q;refine oR hp ?_;refine qr (c:=!(c==x)) (λh1=>?_) (λh1=>?_)
 .rw[h1,gZ]at q;exact⟨M,.refl,q⟩
 rw[show(!(c==x))=false from dE.mpr h1,fC]at q;refine oR hp ?_;refine qr (c:=z==x) (λh2=>?_) (λh2=>?_)
 .rw[h2]at q;exact⟨M,.refl,q⟩
 rw[cY h2]at q;refine oR rd.bd.at_ (i' rfl (oR i1 ⟨rfl,_,⟨rfl,rfl⟩,V.p,l,rfl,rd.pl,by omega,λq1 Xk=>i' o9 ⟨rfl,qe _,?_⟩⟩));have t:=qh.new (c:=.lst (l.pn.map D.str)) Xk;have WR:=rd.sub t;generalize oZ M q1 (.lst (l.pn.map D.str))=M1 at t WR ⊢;show if (!(inD (.str z) (l.pn.map D.str)))=true then _ else _
 rw[rT];refine qr (c:=!(hasS l.pn z)) (λh3=>?_) (λh3=>?_)
 .rw[h3,gZ]at q;exact⟨M,t,q⟩
 rw[show(!(hasS l.pn z))=false from dE.mpr h3,fC]at q;refine⟨A,V,l,c,z,rfl,WR,Xl,?_⟩;refine qr (c:=!(xj l V c z)) (λh4=>?_) (λh4=>?_)
 .rw[h4]at q;exact⟨M,t,q⟩
 rw[cY h4]at q;refine oR WR.bd.at_ ⟨rfl,_,⟨rfl,rfl⟩,A,V,z,rfl,WR.bd,WR.k,?_⟩;cases e:vh V z with
 | none=>rw[e]at q;rw[show Aa V z=.mC from by unfold Aa;rw[e];rfl];exact⟨M,t,q⟩
 | some j=>
  rw[show Aa V z=.int (j:Nat)from by unfold Aa;rw[e];rfl];have hj:j<V.calls.length:=(iw.mp e).1;have e2:V.calls[j]?=some V.calls[j]:=cW hj;rw[e]at q;generalize V.calls[j]=k at e2;have q:Q (.bl (((V.calls[j]?).elim false λk=>(k.ms.length==2)&&Hq l x k.ms))) M:=q;rw[e2]at q;have hj:j<A.cs.length:=by rw[rd.bd.len];exact hj
  have ek:A.cs[j]?=some A.cs[j]:=cW hj;obtain⟨ad,md,f1,f2,f3,f4,_⟩:=WR.bd.cs j _ k ek e2;refine oR WR.bd.at_ (i' rfl (i' rfl (i' WR.bd.ca (i' (qx ek) (oR f1 (i' rfl ?_))))));refine i' f4 ?_;have el:((((k.ms.map D.str).length:Nat):Int)==2)=(k.ms.length==2):=by rw[cT,gg,fk,fk];omega
  show if ((((k.ms.map D.str).length:Nat):Int)==2)=true then _ else _
  rw[el];have q:Q (.bl ((k.ms.length==2)&&Hq l x k.ms)) M:=q;refine qr (c:=k.ms.length==2) (λh5=>?_) (λh5=>?_)
  .rw[h5,eI]at q;have hm:=rd.ms k (qp e2);refine oR (t _ _ hp) ⟨rfl,_,⟨rfl,rfl⟩,oR WR.bd.at_ (i' rfl ⟨p,x,V.p,l,md,k.ms,rfl,t _ _ hp,WR.pl,f4,hm.2,hx,hm.1,M,t,q⟩)⟩
  .rw[show(k.ms.length==2)=false from dE.mpr h5,eR]at q;exact⟨M,t,q⟩
def Kj(G:Gl K mg a):Fq P w K mg base 1 a.q FX:=by
 refine fq G.q.toDG Bv (λr u=>⟨_,(oS (oY yd)),?_⟩)
 rintro ds M Q ⟨x,y,rfl,q⟩
 exact⟨M,.refl,q⟩
def Sq(G:Gl K mg a)(x y:Str)(n:Int):Fq P w K mg base 1 a.aw (Qa a (.silent x y n)):=by
 refine fq G.aw.toDG zU (λr u=>⟨_,(oS (oY (sJ (pW u (rR (oX U1) (se (Fe oU)) sV) (qm (pT (oX v0)))) (sj (pW u (oX v0) (oX U1)))))),?_⟩)
 rintro ds M Q ⟨p,L,k,c,rfl,hp,⟨ad,md,h1,h2,h3,h4,_⟩,q⟩
 refine oR h1 (i' rfl (i' h2 λp1 Yo=>?_));have t1:=qh.new (c:=.lst (L3.tq (c.way.map D.str) (some (-1:Int)) none)) Yo;have l1:oy (oZ M p1 (.lst (L3.tq (c.way.map D.str) (some (-1:Int)) none))) p1=some ((c.way.map D.str).drop ((c.way.map D.str).length - 1)):=by rw[o9,LD]
 show zS (oZ M p1 (.lst (L3.tq (c.way.map D.str) (some (-1:Int)) none)) p) _;generalize oZ M p1 (.lst (L3.tq (c.way.map D.str) (some (-1:Int)) none))=M1 at t1 l1 ⊢;refine oR (t1 _ _ hp) ⟨oO rfl,λp2 Ww=>?_⟩;have t2:=qh.new (c:=.lst [D.str x]) Ww;have l2:=@o9 M1 p2 [D.str x];show Option.elim (yI (oZ M1 p2 (.lst [D.str x])) 9 (.ref p1) (.ref p2)) False _;generalize oZ M1 p2 (.lst [D.str x])=M2 at t2 l2 ⊢;have s2:=t1.trans t2;refine i' (Oh (t2.lst l1) l2) ?_;dsimp only[Fl]at q;refine qr (c:=c.way.getLast?==some x) (λg=>?_) (λg=>?_)
 .rw[g,eI]at q;exact oR (s2 _ _ hp) (oR (s2 _ _ h1) ⟨M,s2,q⟩)
 .rw[show(c.way.getLast?==some x)=false from dE.mpr g,eR]at q;exact⟨M,s2,q⟩
def Qw(G:Gl K mg a):∀C sp,KM a C sp->xk P w K mg base 6 "fits" C (Ng K sp):=by
 rintro C sp ⟨v,rfl,rfl⟩
 cases v with
 | bar x ns=>exact⟨G.r.toCls,_,_,_,G.aB.mW,MY G x ns,G.aB.b⟩
 | shut x ns=>exact⟨G.t.toCls,_,_,_,G.aC.mW,Nd G x ns,G.aC.b⟩
 | always x y=>exact⟨G.w.toCls,_,_,_,G.aD.mW,LL G x y,G.aD.b⟩
 | night x y f m=>exact⟨G.n.toCls,_,_,_,G.aE.mW,Ln G x y f m,G.aE.b⟩
 | busy x y=>exact⟨G.x.toCls,_,_,_,G.aF.mW,LW G x y,G.aF.b⟩
 | silent x y n=>exact⟨G.u.toCls,_,_,_,G.aG.mW,KU G x y n,G.aG.b⟩
 | wait x=>exact⟨G.v.toCls,_,_,_,G.aH.mW,Kt G x,G.aH.b⟩
 | breaks x=>exact⟨G.o.toCls,_,_,_,G.aI.mW,Kp G x,G.aI.b⟩
def Uo(G:Gl K mg a):∀C sp,Gs a C sp->xk P w K mg base 1 "is_due" C (Ng K sp):=by
 rintro C sp ⟨v,rfl,rfl⟩
 have F:=Kj (P:=P) (w:=w) (base:=base) G;cases v with
 | silent x y n=>exact⟨G.u.toCls,_,_,_,G.aw.mW,Sq G x y n,G.aw.b⟩
 | bar _ _=>exact⟨G.r.toCls,_,_,_,G.cg,F,G.q.b⟩
 | shut _ _=>exact⟨G.t.toCls,_,_,_,G.ch,F,G.q.b⟩
 | always _ _=>exact⟨G.w.toCls,_,_,_,G.ci,F,G.q.b⟩
 | night _ _ _ _=>exact⟨G.n.toCls,_,_,_,G.cj,F,G.q.b⟩
 | busy _ _=>exact⟨G.x.toCls,_,_,_,G.ck,F,G.q.b⟩
 | wait _=>exact⟨G.v.toCls,_,_,_,G.cl,F,G.q.b⟩
 | breaks _=>exact⟨G.o.toCls,_,_,_,G.cm,F,G.q.b⟩
def IJ{es pre post:List D}{d:D}(e:pre++d::post=uh 0 es):∃x,es[pre.length]?=some x/\d=.tup [.int (pre.length:Nat),x]:=by
 have h:(uh 0 es)[pre.length]?=some d:=by rw[<-e];simp
 rw[zp]at h;cases q:es[pre.length]? with
 | none=>rw[q]at h;cases h
 | some x=>rw[q]at h;refine⟨x,rfl,?_⟩;have:=(dh h).symm;rw[ma]at this;exact this
def uZ(n:Nat):∀es:List D,(uh n es).length=es.length:=λes=>by
 have h:∀i:Nat,(uh n es)[i]?=none↔es[i]?=none:=λi=>by rw[zp];cases es[i]?<;>simp
 have a:=(h es.length).mpr (gw (dg _));have b:=(h (uh n es).length).mp (gw (dg _));rw[List.getElem?_eq_none_iff]at a b;omega
def HZ{l:pj}{V:pX}{f:Wi->Bool}{tt:Ac}{ok:Mp->Prop}{Q:DK}{M:Mp}{rest:List (Option D)}(hl:V.on.length=l.mx.length)(h16:l.mx.length<=16)(mG:ok M) (ht:∀(i:Nat) (w:uW),l.mx[i]?=some w->∀(y:Option D) (k:Bool->Mp->Prop),k (f w.2) M->tt (some (.int (i:Nat))::y::rest) M k) (q:∀p,M p=none->Q (.ref p) (oZ M p (.lst ((GL l V f).map λn=>D.int (n:Nat))))):
  uC (Qo 2 (zR (ud 0) (zR (ud 1) Fs))) (OE (b3 (v3 1)) tt) (v3 0) ok Q (uh 0 (V.on.map D.bl)) [] (none::none::rest) M:=by
 have hz:=dM;refine xN (uh 0 (V.on.map D.bl)) (λpre acc δ M'=>M=M'/\acc=((List.range pre.length).filter λi=>V.on.getD i false&&(l.mx[i]?).elim false λw=>f w.2).map (λn=>D.int (n:Nat))/\∃y1 y2,δ=y1::y2::rest) (λ_ _ _ M' j=>by rw[<-j.1];exact mG) _ [] [] _ _ rfl ?_ ⟨rfl,rfl,none,none,rfl⟩ ?_ ?_
 .rw[uZ,cT,hl];simp only[dI];omega
 .rintro pre d post e acc δ M' ⟨rfl,rfl,y1,y2,rfl⟩ k k2 hk Yr
  obtain⟨x,hx,rfl⟩:=IJ e;rw[cX,dQ,jO,jf]at hk Yr;rw[dA]at hx;cases eo:V.on[pre.length]? with
  | none=>rw[eo]at hx;cases hx
  | some b=>
   rw[eo]at hx;have hx:D.bl b=x:=dh hx;subst hx;have hi:pre.length<l.mx.length:=by rw[<-hl];exact(cV.mp eo).1
   have ew:l.mx[pre.length]?=some l.mx[pre.length]:=cW hi;generalize l.mx[pre.length]=w0 at ew;have eg:V.on.getD pre.length false=b:=by rw[gy,eo];rfl
   have no:(b&&f w0.2)=false->k2 (some (.int (pre.length:Nat))::some (.bl b)::rest) M:=λg=>by refine Yr _ _ ⟨rfl,?_,_,_,rfl⟩;rw[iq (by rw[eg,ew];show ¬(b&&f w0.2)=true;rw[g];exact dw),iL,eY]
   refine⟨rfl,?_⟩;show if b=true then _ else _
   cases b with
   | false=>exact GN (no rfl)
   | true=>
    refine OI (ht _ _ ew _ _ ?_);cases g:f w0.2 with
    | false=>exact GN (no (by rw[g];rfl))
    | true=>refine OI (hk _ _ _ ⟨rfl,?_,_,_,rfl⟩);rw[ip (by rw[eg,ew];show(true&&f w0.2)=true;rw[g];rfl),iL,dP];rfl
 .rintro acc δ M' ⟨rfl,rfl,y1,y2,rfl⟩ p hp
  rw[uZ,cT];exact q p hp
def AR{a:Ad}{M:Mp}{rs:List Addr}{ws:List uW}(h:r6 a M rs ws){i:Nat}{w:uW}(e:ws[i]?=some w):∃r,vY (rs.map D.ref) (i:Nat)=some (.ref r)/\M r=some (.ins (w.2.cls a) w.2.nv):=by
 have hi:i<rs.length:=by rw[h.1];exact(cV.mp e).1
 exact⟨rs[i],uJ (by rw[dA,cW hi];rfl),h.2 i _ w (cW hi) e⟩
def MN(ds:List D)(m:Nat):L3.tq ds none (some (m:Int))=ds.take m:=by
 unfold L3.tq;rw[HT.A5,HT.Ie,iX,kM];by_cases h:m<=ds.length
 .rw[lU h]
 .rw[Nat.min_eq_right (by omega),fN,gT (by omega)]
def Hs(ds:List D)(m:Nat)(h:m<=ds.length):L3.tq ds (some (m:Int)) none=ds.drop m:=by unfold L3.tq;rw[HT.A5,HT.Ie,lU h];exact gT (by rw[fY];exact dg _)
def uq(l:pj)(V:pX):Prop:=∀z∈l.nm,(l.mF z=="turns")=true->∃v,V.ps.find? (λp=>decide (p.1=z))=some v/\0<=v.2/\v.2<=((l.mv z).length:Int)
def MQ{l:pj}{V:pX}(h:uq l V){z:Str}(hz:z∈l.nm)(e:(l.mF z=="turns")=true):ve (sO V.ps) (.inr z)=some (.int (zg V z:Nat))/\zg V z<=(l.mv z).length:=by
 obtain⟨v,e1,e2,e3⟩:=h z hz e;have h1:zg V z=v.2.toNat:=by unfold zg;rw[e1];rfl
 have h2:ve (sO V.ps) (.inr z)=(V.ps.find? λp=>decide (p.1=z)).map λp=>D.int p.2:=xU (λp:Str×Int=>p.1) (λp=>D.int p.2) z V.ps;rw[h2,e1,h1];exact⟨by show some (D.int v.2)=some (.int (v.2.toNat:Nat));rw[Int.toNat_of_nonneg e2],by omega⟩
def Hx(a:Ad):qT:=λds M Q=>GC λA V l c z=>ds=[.ref A.b,.str c,.str z]/\Rd a M A V l/\z∈l.nm/\Q (vQ (De l V c z)) M
def NI(a:Ad):qT:=λds M Q=>GC λA V l c z=>ds=[.ref A.b,.str c,.str z]/\Rd a M A V l/\z∈l.nm/\uq l V/\Q (names (xi l V c z)) M
def Me(a:Ad):qT:=λds M Q=>GC λA V l c z=>ds=[.ref A.b,.str c,.str z]/\Rd a M A V l/\z∈l.nm/\uq l V/\Q (GT l V c z).d M
def J8:qT:=λds M Q=>CN λx r z=>ds=[.tup (.str x::r),.str z]/\Q (if (x=="wait")=true then(vW.waits z).d else if (x=="break")=true then(vW.breaks z).d else vW.barred.d) M
noncomputable def qU(st:sZ):List D:=st.map λs=>.tup [.str s.1,vQ s.2]
def MW(a:Ad):qT:=λds M Q=>Su λA V l c z r way=>ds=[.ref A.b,.str c,.str z,.ref r]/\Rd a M A V l/\z∈l.nm/\uq l V/\oy M r=some (List.map D.str way)/\way.length<=8000000/\∀q M',qh M M'->M q=none->oy M' q=some (qU (uG l V c z way).2)->Q (.tup [(uG l V c z way).1.d,.ref q]) M'
def EY{l:pj}{V:pX}{f:Wi->Bool}{i:Nat}(h:i∈GL l V f):∃w,l.mx[i]?=some w/\f w.2=true:=by
 have h:=(fG.mp h).2;rw[dU]at h;cases e:l.mx[i]? with
 | none=>rw[e]at h;cases h.2
 | some w=>rw[e]at h;exact⟨w,rfl,h.2⟩
noncomputable def HH(l:pj)(way:List Str):Nat:=(l.nm.filter λx=>!(hasS way x)).length
def AL{l:pj}{way:List Str}{z:Str}(hz:z∈l.nm)(h:hasS way z=false):HH l (way++[z])<HH l way:=by
 unfold HH;have e:(l.nm.filter λx=>!(hasS (way++[z]) x))=(l.nm.filter λx=>!(hasS way x)).filter λx=>!(x==z):=by rw[List.filter_filter];refine List.filter_congr λx _=>?_;unfold hasS;rw[lT];show(!(way.any (·==x)||((z==x)||false)))=_;rw[iy,Bool.not_or,Bool.and_comm,lW]
 rw[e];refine Nat.lt_of_le_of_ne (gx _ _) λg=>?_;have:=ky.mp (List.Sublist.eq_of_length fV g) z (fG.mpr ⟨hz,by rw[h];rfl⟩);simp at this
def BZ{l:pj}(ok:rf l){w:uW}(hw:w∈l.mx){z y:Str}(h:HY z w.2=.inr y):y∈l.nm:=by
 have o:=ok.wo w hw;cases e:w.2 with
 | bar _ _=>rw[e]at h;cases h
 | shut _ _=>rw[e]at h;cases h
 | always x u=>rw[e]at h o;cases h;exact qG.mp o.2.1
 | night x u f m=>rw[e]at h o;cases h;exact qG.mp o.2.1
 | busy x u=>rw[e]at h o;cases h;exact qG.mp o.2.1
 | silent x u n=>rw[e]at h o;cases h;exact qG.mp o.2.1
 | wait _=>rw[e]at h;cases h
 | breaks _=>rw[e]at h;cases h
theorem EF(x:Str):∀ss:List Str,x∈ss->Ak (.str x) (ss.map D.str)=some (ss.findIdx (·==x))
 | [],h=>by cases h
 | y::r,h=>by
  rw[dS,List.findIdx_cons];unfold Ak;show(if (y==x)=true then some 0 else(Ak (.str x) (r.map D.str)).map (·+1))=_;cases e:y==x with
  | true=>rfl
  | false=>
   rw[cY dw];have hr:x∈r:=by
    rcases df.mp h with g|g
    .rw[g,eM]at e;cases e
    .exact g
   rw[EF x r hr];rfl
def G'(G:Gl K mg a):Fq P w K mg base 7 a.aP (Hx a):=by
 refine fq G.aP.toDG A7 (λr u=>⟨_,(oQ (pB 3 A7 (oX (oX v0)))
 (oS (oY (qg tS rfl G.H tW (pT (qw rfl (xV (ix:=[none,none,some 3,some 0,some 1,some 2]) (N':=["i","on","wishes","board","caller","target"])) (wA rfl G.bT (pT (oX v0))) (uT (n:=2) rfl (ql (qu 0) (ql (qu 1) tK))) (uX (W3.b3 (vF (uS U1) (vj (uS (El (R:=KM a) (pz U2 v0) (Qw G) (r.mono (by first|decide|omega)) (qN U3 v4 v5))))))) v0)))))),?_⟩)
 rintro ds M Q ⟨A,V,l,c,z,rfl,rd,hz,q⟩
 obtain⟨ph,gr,ws,XS,pr,gd,rs,i1,i2,i3,i4,i5,i6,i7,i8⟩:=rd.pl;refine oR rd.bd.at_ (i' rfl (oR i1 (i' rfl ?_)));refine oR rd.bd.at_ (i' rfl (i' rd.bd.on ?_));refine HZ (rest:=[some (.ref ws),some (.ref A.b),some (.str c),some (.str z)]) rd.on rd.ok.w16 rd.bd.on (λi w0 ew y k hk=>?_) λp hp=>i' o9 ⟨M,.new hp,q⟩;obtain⟨r,e1,e2⟩:=AR i8 ew;refine i' i4 (i' e1 (oR e2 ⟨by cases w0.2<;>rfl,_,⟨w0.2,rfl,rfl⟩,r,A,V,l,c,z,rfl,e2,rd,hz,rd.ok.wo w0 (qp ew),hk⟩))
def O8(G:Gl K mg a):Fq P w K mg base 5 a.aQ (NI a):=by
 refine fq G.aQ.toDG sL (λr u=>⟨_,(oQ (pB 3 sL (pK v0 G.c.toCls G.aK (zW G) r (rB U1 U2)))
 (oQ (pE (pb u (pK (oX v0) G.h.toCls G.aJ (xE G) r (pT U2)) oV)
 (oS (oY (qg tS rfl G.H tW (pT U3))))
 pk)
 (oQ (pB 4 sL (pK (oX v0) G.h.toCls G.V (tT G) r (pT U2)))
 (oQ (pB 5 sL (zc u (oX v0) U2))
 (oQ (uQ (i:=6) sL.nd rfl (Or.inl rfl) rfl (xV (ix:=[none,some 3]) (N':=["phone","free"])) (qv (pM (rR v4 (se v5) sV) (rR v4 sV (se v5)))) (qu 0) (uX (pb u v0 U1)) v0)
 (oS (oY (qg tS rfl G.H tW (pT (rR v6 sV (se oU))))))))))),?_⟩)
 rintro ds M Q ⟨A,V,l,c,z,rfl,rd,Xl,nx,q⟩
 have hz:=dM;have bd:=rd.bd;have pl:=rd.pl;obtain⟨ph,gr,ws,XS,pr,gd,rs,i1,_⟩:=rd.pl;obtain⟨⟨_,tf,_⟩,_⟩:=rd.ok.of Xl;refine oR bd.at_ ⟨rfl,_,⟨rfl,rfl⟩,A,V,l,c,z,rfl,rd,Xl,λq1 M1 s1 Xk e1=>?_⟩;refine oR (s1 _ _ bd.at_) (i' rfl (oR (s1 _ _ i1) ⟨rfl,_,⟨rfl,rfl⟩,V.p,z,l,rfl,pl.sub s1,?_⟩));unfold xi at q;cases e:l.mF z=="turns" with
 | false=>rw[e]at q;exact Av (c:=!(l.mF z=="turns")) (by rw[e];rfl) (i' e1 ⟨M,s1,q⟩)
 | true=>
  obtain⟨hn,nl⟩:=MQ nx Xl e;generalize zg V z=n at hn nl q;rw[e,c9 rfl]at q;refine Nc (c:=!(l.mF z=="turns")) (by rw[e];rfl) ?_;refine oR (s1 _ _ bd.at_) (i' rfl (oR (s1 _ _ i1) ⟨rfl,_,⟨rfl,rfl⟩,V.p,z,l,rfl,pl.sub s1,λq2 YH=>?_⟩));have s2:=s1.trans (qh.new (c:=.lst ((l.mv z).map D.str)) YH);have c2:=@o9 M1 q2 ((l.mv z).map D.str);have e2:=(qh.new (c:=.lst ((l.mv z).map D.str)) YH).lst e1;generalize oZ M1 q2 (.lst ((l.mv z).map D.str))=M2 at s2 c2 e2 ⊢;refine oR (s2 _ _ bd.at_) (i' rfl (i' rfl (i' (s2.dk bd.nx) (i' hn ?_))));refine i' c2 λq3 hq3=>?_;rw[Hs _ n (by rw[cT];exact nl),<-km];have t3:=qh.new (c:=.lst (((l.mv z).drop n).map D.str)) hq3;have c3':=@o9 M2 q3 (((l.mv z).drop n).map D.str);generalize oZ M2 q3 (.lst (((l.mv z).drop n).map D.str))=M3 at t3 c3' ⊢;refine i' (t3.lst c2) λq4 hq4=>?_;rw[MN,<-lX];have t4:=qh.new (c:=.lst (((l.mv z).take n).map D.str)) hq4;have c4:=@o9 M3 q4 (((l.mv z).take n).map D.str);generalize oZ M3 q4 (.lst (((l.mv z).take n).map D.str))=M4 at t4 c4 ⊢;refine i' (t4.lst c3') (i' c4 ?_);refine⟨by rw[cT,cT,fY,fM];omega,λq5 hq5=>i' o9 ?_⟩;rw[<-dP];have t5:=qh.new (c:=.lst ((uE (l.mv z) n).map D.str)) hq5;have c5:=@o9 M4 q5 ((uE (l.mv z) n).map D.str);show uC _ _ _ _ _ ((uE (l.mv z) n).map D.str) _ _ (oZ M4 q5 (.lst ((uE (l.mv z) n).map D.str)));generalize oZ M4 q5 (.lst ((uE (l.mv z) n).map D.str))=M5 at t5 c5 ⊢;have s5:=t3.trans (t4.trans t5);have e5:=s5.lst e2;have tl:(uE (l.mv z) n).length<=200:=by unfold uE;rw[cX,fY,fM];omega
  refine sv (f:=id) (t:=λd=>inD d ((tQ l V c z).map D.str)) c5 _ [] _ (by rw[cT];simp only[dI];omega) (λd hd k hk=>?_) (λd hd _ k hk=>?_) λq6 hq6=>?_
  .obtain⟨x,hx,rfl⟩:=dz.mp hd;exact i' e5 ⟨rfl,qe _,hk⟩
  .obtain⟨x,hx,rfl⟩:=dz.mp hd;exact hk
  .have ef:[]++(List.filter (λd=>inD d ((tQ l V c z).map D.str)) ((uE (l.mv z) n).map D.str)).map id=((uE (l.mv z) n).filter λx=>hasS (tQ l V c z) x).map D.str:=by
    rw[dX,iZ,gQ];have:((λd=>inD d ((tQ l V c z).map D.str))∘D.str)=λx=>hasS (tQ l V c z) x:=by funext x;exact rT _ _
    rw[this]
   rw[ef];refine i' o9 λq7 hq7=>i' o9 ?_;rw[show L3.tq (((uE (l.mv z) n).filter λx=>hasS (tQ l V c z) x).map D.str) none (some (1:Int))=(((uE (l.mv z) n).filter λx=>hasS (tQ l V c z) x).take 1).map D.str from(MN _ 1).trans (lX).symm];exact⟨M,s2.trans (s5.trans ((qh.new hq6).trans (.new hq7))),q⟩
def Ku(G:Gl K mg a):Fq P w K mg base 6 a.aR (Me a):=by
 refine fq G.aR.toDG uF (λr u=>⟨_,(oQ (pB 3 uF (pq (O8 G) r G.aQ (qN v0 U1 U2)))
 (oQ (pE (pb u (pH qk rfl G.g qc (pT U3)) oU)
 (oS (oY (pC (rB oV U2))))
 pk)
 (oS (oY (pC (qN oV U2 U3)))))),?_⟩)
 rintro ds M Q ⟨A,V,l,c,z,rfl,rd,hz,nx,q⟩
 refine⟨A,V,l,c,z,rfl,rd,hz,nx,?_⟩;unfold GT at q;cases e:xi l V c z with
 | nil=>rw[e]at q;exact⟨oO rfl,M,.refl,q⟩
 | cons x r=>rw[e]at q;exact⟨oO rfl,M,.refl,q⟩
def J'(G:Gl K mg a):Fq P w K mg base 1 a.aS J8:=by
 refine fq G.aS.toDG zT (λr u=>⟨_,(oQ (pE (pb u (pz v0 oU) oV)
 (oS (oY (pC (rB oV U1))))
 pk)
 (oQ (pE (pb u (pz v0 oU) oV)
 (oS (oY (pC (rB oV U1))))
 pk)
 (oS (oY (pC (pT oV)))))),?_⟩)
 rintro ds M Q ⟨x,r,z,rfl,q⟩
 refine i' (wO _ _) (qr (c:=x=="wait") (λg=>?_) (λg=>?_))
 .rw[c9 g]at q;exact⟨oO rfl,M,.refl,q⟩
 rw[cY g]at q;refine i' (wO _ _) (qr (c:=x=="break") (λg=>?_) (λg=>?_))
 .rw[c9 g]at q;exact⟨oO rfl,M,.refl,q⟩
 rw[cY g]at q;exact⟨oO rfl,M,.refl,q⟩
def Mf(G:Gl K mg a):Fq P w K mg base 8 a.aT (MW a):=by
 refine fq G.aT.toDG vT (λr u=>⟨_,(oQ (pB 4 vT (qg tH rfl G.y tI (pT U3)))
 (oQ (pB 5 vT (qm sC))
 (oQ (Ks fu (pb u U2 v4)
 (oQ (pD (rA v4 (pT U2)))
 (oQ (pB 6 vT (pq (G' G) r G.aP (qN v0 U1 U2)))
 (oQ (pD (rA v5 (pT (pC (rB U2 v6)))))
 (oQ (pE (pb u (pH qk rfl G.g qc (pT v6)) oU)
 (oS (oY (pC (rB (pq (Ku G) r G.aR (qN v0 U1 U2)) v5))))
 pk)
 (oQ (pB 7 vT (BE (R:=IP a) (pz (oX (oX v0)) (pz v6 oU)) (O0 G) (r.mono (by first|decide|omega))))
 (oQ (pE (pb u (pz v7 oU) oV)
 (oS (oY (pC (rB (pq (J' G) r G.aS (rB v7 U2)) v5))))
 pk)
 (oS (pB 2 vT (pz v7 oU))))))))))
 (oS (oY (pC (rB (pC (rB oV (qg tS rfl G.H tW (pT (rR v4 (se (xm v4 (pT U2))) sV))))) v5))))))),?_⟩)
 rintro ds M Q ⟨A,V,l,c,z0,r,XA,rfl,rd,hz0,nx,Zx,hw0,q⟩
 have hz:=dM;have p8:=rd.ok.p8;have g3:=rd.ok.g3;have nl:l.nm.length<=11:=by unfold pj.nm pj.pn pj.gn;rw[cX,cT,cT];omega
 refine i' Zx λp1 Yo=>⟨oO rfl,λp2 Ww=>?_⟩;have t1:=qh.new (c:=.lst (XA.map D.str)) Yo;have t2:=qh.new (c:=.lst []) Ww;have c1:oy (oZ (oZ M p1 (.lst (XA.map D.str))) p2 (.lst [])) p1=some (XA.map D.str):=t2.lst o9;have c2:=@o9 (oZ M p1 (.lst (XA.map D.str))) p2 [];have n12:p2≠p1:=λy=>by rw[y,pG]at Ww;cases Ww
 have m2:M p2=none:=t1.none Ww;have s2:=t1.trans t2;generalize oZ (oZ M p1 (.lst (XA.map D.str))) p2 (.lst [])=M2 at c1 c2 s2 ⊢;refine⟨λm δ M'=>∃z way st,qh M M'/\oy M' p1=some (List.map D.str way)/\oy M' p2=some (qU st)/\z∈l.nm/\HH l way<m/\way.length+m<=8000012/\st.length+m<=100/\wu l V c m z way st=uG l V c z0 XA/\∃y6 y7,δ=[some (.ref A.b),some (.str c),some (.str z),some (.ref r),some (.ref p1),some (.ref p2),y6,y7],⟨l.nm.length+1,z0,XA,[],s2,c1,c2,hz0,Nat.lt_succ_of_le (gx _ _),by omega,by show 0+(l.nm.length+1)<=100;omega,rfl,none,none,rfl⟩,?_⟩
 rintro m δ M' ⟨z,way,st,sM,l1,l2,Xl,Wx,hwl,Yj,er,y6,y7,rfl⟩
 obtain⟨m,rfl⟩:∃k,m=k+1:=⟨m - 1,by omega⟩;have q2:∀Wq,qh M Wq->oy Wq p2=some (qU (wu l V c (m+1) z way st).2)->Q (.tup [(wu l V c (m+1) z way st).1.d,.ref p2]) Wq:=λWq s ll=>by rw[er]at ll ⊢;exact q p2 Wq s m2 ll
 clear q;unfold wu at er q2;refine i' l1 ⟨rfl,qe way,?_⟩;show if (!(inD (.str z) (way.map D.str)))=true then _ else _
 rw[rT];refine qr (c:=!(hasS way z)) (λh1=>?_) (λh1=>?_)
 rotate_left
 .
  have h1:hasS way z=true:=by simpa using h1
  rw[c9 h1]at q2;refine⟨by show(oy M' p1).isSome=true;rw[l1];rfl,i' l1 ⟨rfl,qe _,i' (EF z way (qG.mp h1)) (i' l1 λp3 hp3=>?_)⟩⟩;have Zt:way.findIdx (·==z)<=(way.map D.str).length:=by rw[cT];exact List.findIdx_le_length
  rw[Hs _ _ Zt,<-km];refine i' o9 ⟨oO rfl,oO rfl,_,.refl,q2 _ (sM.trans (.new hp3)) ((qh.new hp3).lst l2)⟩
 have h1:hasS way z=false:=by simpa using h1
 rw[h1,cY dw]at er q2;refine⟨by show(oy M' p1).isSome=true;rw[l1];rfl,i' l1 ⟨by rw[cT];omega,?_⟩⟩;have k3:rN p1 M' (oZ M' p1 (.lst (way.map D.str++[D.str z]))):=.put;have s3:qh M (oZ M' p1 (.lst (way.map D.str++[D.str z]))):=λx d hx=>by rw[ua (Qe hx Yo)];exact sM x d hx
 have c3:=k3.lst n12 l2;have l3:oy (oZ M' p1 (.lst (way.map D.str++[D.str z]))) p1=some ((way++[z]).map D.str):=by rw[o9,dP];rfl
 generalize oZ M' p1 (.lst (way.map D.str++[D.str z]))=M3 at s3 c3 l3 ⊢;refine⟨A,V,l,c,z,rfl,rd.sub s3,Xl,?_⟩;generalize hf:De l V c z=fs at er q2 ⊢;refine⟨by show(oy M3 p2).isSome=true;rw[c3];rfl,oO rfl,i' c3 ⟨by unfold qU;rw[cT];omega,?_⟩⟩;have es:qU st++[.tup [.str z,vQ fs]]=qU (st++[(z,fs)]):=by unfold qU;rw[dP];rfl
 rw[es];have s4:qh M (oZ M3 p2 (.lst (qU (st++[(z,fs)])))):=λx d hx=>by rw[ua (Qe hx m2)];exact s3 x d hx
 have c4:=@o9 M3 p2 (qU (st++[(z,fs)]));have l4:oy (oZ M3 p2 (.lst (qU (st++[(z,fs)])))) p1=some ((way++[z]).map D.str):=rN.lst .put (dJ n12) l3;generalize oZ M3 p2 (.lst (qU (st++[(z,fs)])))=M4 at s4 c4 l4 ⊢;cases fs with
 | nil=>exact⟨A,V,l,c,z,rfl,rd.sub s4,Xl,nx,oO rfl,M4,.refl,q2 M4 s4 c4⟩
 | cons i fr=>
  obtain⟨w0,ew,_⟩:=EY (l:=l) (V:=V) (f:=Aw l V c z) (i:=i) (by show i∈De l V c z;rw[hf];exact dN);dsimp only at er q2;rw[ew]at er q2;dsimp only[Option.elim]at er q2;obtain⟨ph,gr,ws,XS,pr,gd,rs,i1,i2,i3,i4,i5,i6,i7,i8⟩:=(rd.sub s4).pl;obtain⟨YZ,e1,e2⟩:=AR i8 ew;have hwo:=rd.ok.wo w0 (qp ew);have Y0:∀y,HY z w0.2=.inr y->y∈l.nm:=λy h=>BZ rd.ok (qp ew) h;refine oR (s4 _ _ rd.bd.at_) (i' rfl (oR i1 (i' rfl (i' (wO _ _) (i' i4 (i' e1 ?_))))));cases hv:w0.2 with
  | bar x ns=>rw[hv]at q2 e2;exact oR e2 ⟨rfl,_,.inl ⟨.inl rfl,rfl⟩,YZ,rfl,⟨"end",[],z,rfl,oO rfl,M4,.refl,q2 M4 s4 c4⟩⟩
  | shut x ns=>rw[hv]at q2 e2;exact oR e2 ⟨rfl,_,.inl ⟨.inr rfl,rfl⟩,YZ,rfl,⟨"end",[],z,rfl,oO rfl,M4,.refl,q2 M4 s4 c4⟩⟩
  | wait x=>rw[hv]at q2 e2;exact oR e2 ⟨rfl,_,.inr (.inr (.inl ⟨rfl,rfl⟩)),YZ,_,_,_,rfl,e2,rfl,⟨"wait",_,z,rfl,oO rfl,M4,.refl,q2 M4 s4 c4⟩⟩
  | breaks x=>rw[hv]at q2 e2;exact oR e2 ⟨rfl,_,.inr (.inr (.inr ⟨rfl,rfl⟩)),YZ,rfl,⟨"break",_,z,rfl,oO rfl,M4,.refl,q2 M4 s4 c4⟩⟩
  | always x y=>rw[hv]at er e2 Y0;exact oR e2 ⟨rfl,_,.inr (.inl ⟨.inl rfl,rfl⟩),YZ,_,_,_,rfl,e2,rfl,⟨m,fv _,y,way++[z],st++[(z,i::fr)],s4,l4,c4,Y0 y rfl,by have:=AL Xl h1;omega,by rw[cX];show way.length+1+m<=_;omega,by rw[cX];show st.length+1+m<=_;omega,er,_,_,rfl⟩⟩
  | night x y f mm=>rw[hv]at er e2 Y0;exact oR e2 ⟨rfl,_,.inr (.inl ⟨.inr (.inl rfl),rfl⟩),YZ,_,_,_,rfl,e2,rfl,⟨m,fv _,y,way++[z],st++[(z,i::fr)],s4,l4,c4,Y0 y rfl,by have:=AL Xl h1;omega,by rw[cX];show way.length+1+m<=_;omega,by rw[cX];show st.length+1+m<=_;omega,er,_,_,rfl⟩⟩
  | busy x y=>rw[hv]at er e2 Y0;exact oR e2 ⟨rfl,_,.inr (.inl ⟨.inr (.inr (.inl rfl)),rfl⟩),YZ,_,_,_,rfl,e2,rfl,⟨m,fv _,y,way++[z],st++[(z,i::fr)],s4,l4,c4,Y0 y rfl,by have:=AL Xl h1;omega,by rw[cX];show way.length+1+m<=_;omega,by rw[cX];show st.length+1+m<=_;omega,er,_,_,rfl⟩⟩
  | silent x y n=>rw[hv]at er e2 Y0;exact oR e2 ⟨rfl,_,.inr (.inl ⟨.inr (.inr (.inr rfl)),rfl⟩),YZ,_,_,_,rfl,e2,rfl,⟨m,fv _,y,way++[z],st++[(z,i::fr)],s4,l4,c4,Y0 y rfl,by have:=AL Xl h1;omega,by rw[cX];show way.length+1+m<=_;omega,by rw[cX];show st.length+1+m<=_;omega,er,_,_,rfl⟩⟩
noncomputable def yH(V:pX)(i:Nat)(c:oW):pX:={V with calls:=V.calls.set i c}
def rG(V:pX)(i:Nat)(c d:oW):yH (yH V i c) i d=yH V i d:=by unfold yH;rw[iK]
structure CI(a:Ad)(M:Mp)(A:so)(V:pX)(i:Nat)(k:qV)(c:oW):Prop where
 bd:pA a M A V
 e1:A.cs[i]?=some k
 e2:V.calls[i]?=some c
noncomputable def cF(x:Str)(wy ad md:Addr)(k:Nat):List (Str×D):=List.take (α:=Str×D) k [("state",.str "rings"),("caller",.str x),("way",.ref wy),("at",.ref ad),("members",.ref md),("holder",.mC),("since",.int 0)]
variable {M':Mp}{i:Nat}{k:qV}
section
variable {c:oW}
def CI.cell(h:CI a M A V i k c):rm a M (A.lists++V.fo) k c:=h.bd.cs i k c h.e1 h.e2
def CI.sub(h:CI a M A V i k c)(s:qh M M'):CI a M' A V i k c:=⟨h.bd.sub s,h.e1,h.e2⟩
def CI.put(h:CI a M A V i k c)(c':oW){ad md:Addr}(ew:c'.way=c.way)(la:oy M ad=some (c'.at_.map D.str))(lm:oy M md=some (c'.ms.map D.str))(na:ad∉A.lists++V.fo)(nm:md∉A.lists++V.fo):
  CI a (oZ M k.p (.ins a.e (qS c' k.wy ad md))) A (yH V i c') i k c'/\qE A M A (oZ M k.p (.ins a.e (qS c' k.wy ad md))):=by
 obtain⟨b,s⟩:=h.bd.nR h.e1 h.e2 ew la lm na nm;refine⟨⟨b,h.e1,?_⟩,s⟩;show(V.calls.set i c')[i]?=some c';rw[eJ (cV.mp h.e2).1]
end
inductive Qk(i:Nat)(c:oW):Ev->oW->Prop
 | rings (ps:List Str):Qk i c (.rings i ps) (c.ring ps)
 | quiet:Qk i c (.quiet i) c.nz
 | waits (x:Str):Qk i c (.waits i x) (c.wait x)
 | talks (ms:List Str):Qk i c (.talks i ms) (c.nk ms)
 | held (x:Str):Qk i c (.held i x) (c.hold x)
 | leaves (x:Str):Qk i c (.leaves i x) (c.drop x)
 | over (w:Str):Qk i c (.over i w) (c.over w)
def FN(a:Ad):qT:=λds M Q=>B8 λp x=>ds=[.ref p,.str x]/\M p=some (.ins a.e [])/\∀M' wy ad md,rN p M M'->M wy=none->M ad=none->M md=none->ad≠wy->md≠wy->M' p=some (.ins a.e (qS (yF x) wy ad md))->oy M' wy=some []->oy M' ad=some []->oy M' md=some []->Q .mC M'
def Pr(a:Ad):qT:=λds M Q=>Ij λA V i k c w=>ds=[.ref k.p,.str w]/\CI a M A V i k c/\∀M',qE A M A M'->pA a M' A (yH V i (c.over w))->Q .mC M'
def Mz(a:Ad):qT:=λds M Q=>Ij λA V i k c x=>ds=[.ref k.p,.str x]/\CI a M A V i k c/\c.at_.length<=100/\c.ms.length<=100/\∀M',qE A M A M'->pA a M' A (yH V i (c.drop x))->Q .mC M'
def JN(a:Ad):qT:=λds M Q=>Su λA V i k c e c'=>ds=[.ref k.p,Ev.d e]/\CI a M A V i k c/\c.at_.length<=100/\c.ms.length<=100/\Qk i c e c'/\∀M',qE A M A M'->pA a M' A (yH V i c')->Q .mC M'
def Ny(G:Gl K mg a):Fq P w K mg base 1 a.ak (FN a):=by
 refine fq G.ak.toDG DD (λr u=>⟨_,(oQ (pQ v0 oV)
 (oQ (pQ v0 U1)
 (oQ (pQ v0 (qm sC))
 (oQ (pQ v0 (qm sC))
 (oQ (pQ v0 (qm sC))
 (oQ (pQ v0 rF)
 (oQ (pQ v0 oU)
 (oS (pQ v0 rF))))))))),?_⟩)
 rintro ds M Q ⟨p,x,rfl,hb,q⟩
 refine oR hb ⟨(G.j "state" rfl),by show 0<1000;decide,?_⟩;have k1:rN p M (oZ M p (.ins a.e [("state",.str "rings")])):=.put;have b1:oZ M p (.ins a.e [("state",.str "rings")]) p=some (.ins a.e [("state",.str "rings")]):=pG;show ug _ _ _ _ (oZ M p (.ins a.e [("state",.str "rings")]));generalize oZ M p (.ins a.e [("state",.str "rings")])=N1 at k1 b1 ⊢;refine oR b1 ⟨(G.j "caller" rfl),by show 1<1000;decide,?_⟩;have k2:=k1.trans (rN.put (p:=p) (c:=.ins a.e [("state",.str "rings"),("caller",.str x)]));have b2:oZ N1 p (.ins a.e [("state",.str "rings"),("caller",.str x)]) p=some (.ins a.e [("state",.str "rings"),("caller",.str x)]):=pG;show ug _ _ _ _ (oZ N1 p (.ins a.e [("state",.str "rings"),("caller",.str x)]));generalize oZ N1 p (.ins a.e [("state",.str "rings"),("caller",.str x)])=N2 at k2 b2 ⊢;refine⟨oO rfl,λwy hwy=>?_⟩;obtain⟨n3,e3,k3,c3,b3⟩:=sD (fs':=(cF x wy 0 0 3)) (c:=.lst []) b2 hwy;refine oR e3 ⟨(G.j "way" rfl),by show 2<1000;decide,?_⟩;show ug _ _ _ _ (oZ (oZ N2 wy (.lst [])) p (.ins a.e (cF x wy 0 0 3)));generalize oZ (oZ N2 wy (.lst [])) p (.ins a.e (cF x wy 0 0 3))=N3 at k3 c3 b3 ⊢;have z1:M wy=none:=ra k2 b2 hwy;have kk3:=k2.trans k3;have l3:oy N3 wy=some []:=rk c3;refine⟨oO rfl,λad YG=>?_⟩;obtain⟨n4,e4,k4,c4,b4⟩:=sD (fs':=(cF x wy ad 0 4)) (c:=.lst []) b3 YG;refine oR e4 ⟨(G.j "at" rfl),by show 3<1000;decide,?_⟩;show ug _ _ _ _ (oZ (oZ N3 ad (.lst [])) p (.ins a.e (cF x wy ad 0 4)));generalize oZ (oZ N3 ad (.lst [])) p (.ins a.e (cF x wy ad 0 4))=N4 at k4 c4 b4 ⊢;have z2:M ad=none:=ra kk3 b3 YG;have Yp:=kk3.trans k4;have naw:ad≠wy:=λz=>by rw[z,c3]at YG;cases YG
 have l4:=k4.lst (pI l3 b3) l3;have m4:oy N4 ad=some []:=rk c4;refine⟨oO rfl,λmd hmd=>?_⟩;obtain⟨n5,e5,k5,c5,b5⟩:=sD (fs':=(cF x wy ad md 5)) (c:=.lst []) b4 hmd;refine oR e5 ⟨(G.j "members" rfl),by show 4<1000;decide,?_⟩;show ug _ _ _ _ (oZ (oZ N4 md (.lst [])) p (.ins a.e (cF x wy ad md 5)));generalize oZ (oZ N4 md (.lst [])) p (.ins a.e (cF x wy ad md 5))=N5 at k5 c5 b5 ⊢;have z3:M md=none:=ra Yp b4 hmd;have Yq:=Yp.trans k5;have nmw:md≠wy:=λz=>by rw[z,pJ l4]at hmd;cases hmd
 have l5:=k5.lst (pI l4 b4) l4;have m5:=k5.lst (pI m4 b4) m4;have o5:oy N5 md=some []:=rk c5;refine oR b5 ⟨(G.j "holder" rfl),by show 5<1000;decide,?_⟩;have k6:rN p N5 (oZ N5 p (.ins a.e (cF x wy ad md 6))):=.put;have b6:oZ N5 p (.ins a.e (cF x wy ad md 6)) p=some (.ins a.e (cF x wy ad md 6)):=pG;show ug _ _ _ _ (oZ N5 p (.ins a.e (cF x wy ad md 6)));generalize oZ N5 p (.ins a.e (cF x wy ad md 6))=N6 at k6 b6 ⊢;refine oR b6 ⟨(G.j "since" rfl),by show 6<1000;decide,?_⟩;have k7:=k6.trans (rN.put (p:=p) (c:=.ins a.e (cF x wy ad md 7)));have b7:oZ N6 p (.ins a.e (cF x wy ad md 7)) p=some (.ins a.e (cF x wy ad md 7)):=pG;rw[show vI "since" (.int 0) (cF x wy ad md 6)=(cF x wy ad md 7)from rfl];generalize oZ N6 p (.ins a.e (cF x wy ad md 7))=N7 at k7 b7 ⊢;refine oR b7 ⟨(G.j "word" rfl),by show 7<1000;decide,_,.refl,?_⟩;have k8:=k7.trans (rN.put (p:=p) (c:=.ins a.e (qS (yF x) wy ad md)));exact q _ wy ad md (Yq.trans k8) z1 z2 z3 naw nmw pG (k8.lst (pI l5 b5) l5) (k8.lst (pI m5 b5) m5) (k8.lst (pI o5 b5) o5)
def IS(G:Gl K mg a):Fq P w K mg base 1 a.ab (Pr a):=by
 refine fq G.ab.toDG Gf (λr u=>⟨_,(oQ (pQ v0 oV)
 (oQ (pQ v0 U1)
 (oQ (pQ v0 (qm sC))
 (oQ (pQ v0 (qm sC))
 (oS (pQ v0 rF)))))),?_⟩)
 rintro ds M Q ⟨A,V,i,k,c,w0,rfl,h,q⟩
 obtain⟨ad,md,h1,h2,h3,h4,n1,n2⟩:=h.cell;refine oR h1 ⟨(G.j "state" rfl),by show 8<1000;decide,?_⟩;obtain⟨g1,s1⟩:=h.put {c with st:="over"} rfl h3 h4 n1 n2;show ug _ _ _ _ (oZ M k.p (.ins a.e (qS {c with st:="over"} k.wy ad md)));generalize oZ M k.p (.ins a.e (qS {c with st:="over"} k.wy ad md))=M1 at g1 s1 ⊢;clear h1 h2 h3 h4 n1 n2;obtain⟨ad,md,h1,h2,h3,h4,n1,n2⟩:=g1.cell;refine oR h1 ⟨(G.j "word" rfl),by show 8<1000;decide,?_⟩;obtain⟨g2,s2⟩:=g1.put {c with st:="over",wd:=some w0} rfl h3 h4 n1 n2;show ug _ _ _ _ (oZ M1 k.p (.ins a.e (qS {c with st:="over",wd:=some w0} k.wy ad md)));generalize oZ M1 k.p (.ins a.e (qS {c with st:="over",wd:=some w0} k.wy ad md))=M2 at g2 s2 ⊢;clear h1 h2 h3 h4 n1 n2;refine⟨oO rfl,λp hp=>?_⟩;have t3:=qh.new (c:=.lst []) hp;have lp:=@o9 M2 p [];have np:=g2.bd.mX hp;have YJ:=g2.sub t3;have s2':=s2.trans (.sub t3);generalize oZ M2 p (.lst [])=M2' at t3 lp YJ s2' ⊢;obtain⟨ad,md,h1,h2,h3,h4,n1,n2⟩:=YJ.cell;refine oR h1 ⟨(G.j "at" rfl),by show 8<1000;decide,?_⟩;obtain⟨g3,s3⟩:=YJ.put {c with st:="over",wd:=some w0,at_:=[]} rfl lp h4 np n2;show ug _ _ _ _ (oZ M2' k.p (.ins a.e (qS {c with st:="over",wd:=some w0,at_:=[]} k.wy p md)));generalize oZ M2' k.p (.ins a.e (qS {c with st:="over",wd:=some w0,at_:=[]} k.wy p md))=M3 at g3 s3 ⊢;clear h1 h2 h3 h4 n1 n2 lp t3 np g2 YJ;refine⟨oO rfl,λp2 Ww=>?_⟩;have t4:=qh.new (c:=.lst []) Ww;have lp:=@o9 M3 p2 [];have np:=g3.bd.mX Ww;have Y1:=g3.sub t4;have s3':=s3.trans (.sub t4);generalize oZ M3 p2 (.lst [])=M3' at t4 lp Y1 s3' ⊢;obtain⟨ad,md,h1,h2,h3,h4,n1,n2⟩:=Y1.cell;refine oR h1 ⟨(G.j "members" rfl),by show 8<1000;decide,?_⟩;obtain⟨g4,s4⟩:=Y1.put {c with st:="over",wd:=some w0,at_:=[],ms:=[]} rfl h3 lp n1 np;rw[show vI "members" (.ref p2) (qS {c with st:="over",wd:=some w0,at_:=[]} k.wy ad md)=qS {c with st:="over",wd:=some w0,at_:=[],ms:=[]} k.wy ad p2 from rfl];generalize oZ M3' k.p (.ins a.e (qS {c with st:="over",wd:=some w0,at_:=[],ms:=[]} k.wy ad p2))=M4 at g4 s4 ⊢;clear h1 h2 h3 h4 n1 n2 lp t4 np g3 Y1;obtain⟨ad,md,h1,h2,h3,h4,n1,n2⟩:=g4.cell;refine oR h1 ⟨(G.j "holder" rfl),by show 8<1000;decide,_,.refl,?_⟩;obtain⟨g5,s5⟩:=g4.put (c.over w0) rfl h3 h4 n1 n2;refine q _ ((s1.trans s2').trans (s3'.trans (s4.trans s5))) ?_;have:=g5.bd;rw[rG,rG,rG,rG]at this;exact this
def Kq(G:Gl K mg a):Fq P w K mg base 1 a.ba (Mz a):=by
 refine fq G.ba.toDG Cf (λr u=>⟨_,(oQ (pQ v0 (qw rfl (xV (ix:=[none,some 1]) (N':=["other","phone"])) (qv (oX v0)) (qu 0) (uX (pb u v0 U1)) v0))
 (oS (pQ v0 (qw rfl (xV (ix:=[none,some 1]) (N':=["other","phone"])) (qv (oX v0)) (qu 0) (uX (pb u v0 U1)) v0)))),?_⟩)
 rintro ds M Q ⟨A,V,i,k,c,x,rfl,h,la,lm,q⟩
 have hz:=dM;obtain⟨ad,md,h1,h2,h3,h4,n1,n2⟩:=h.cell;refine oR h1 (i' rfl (i' h3 (sv (f:=id) (t:=LH x) h3 _ [] _ (by rw[cT];simp only[dI];omega) (λd hd k0 hk=>?_) (λd hd _ k0 hk=>?_) λp hp=>?_)))
 .obtain⟨y,hy,rfl⟩:=dz.mp hd;exact hk
 .obtain⟨y,hy,rfl⟩:=dz.mp hd;exact hk
 rw[yN];have t1:=qh.new (c:=.lst ((qQ c.at_ x).map D.str)) hp;have lp:=@o9 M p ((qQ c.at_ x).map D.str);have np:=h.bd.mX hp;have h':=h.sub t1;have s1:qE A M A (oZ M p (.lst ((qQ c.at_ x).map D.str))):=.sub t1;generalize oZ M p (.lst ((qQ c.at_ x).map D.str))=M1 at t1 lp h' s1 ⊢;clear h1 h2 h3 h4 n1 n2;obtain⟨ad,md,h1,h2,h3,h4,n1,n2⟩:=h'.cell;refine oR h1 ⟨(G.j "at" rfl),by show 8<1000;decide,?_⟩;obtain⟨g2,s2⟩:=h'.put {c with at_:=qQ c.at_ x} rfl lp h4 np n2;rw[show vI "at" (.ref p) (qS c k.wy ad md)=qS {c with at_:=qQ c.at_ x} k.wy p md from rfl];generalize oZ M1 k.p (.ins a.e (qS {c with at_:=qQ c.at_ x} k.wy p md))=M2 at g2 s2 ⊢;clear h1 h2 h3 h4 n1 n2 lp np;obtain⟨ad,md,h1,h2,h3,h4,n1,n2⟩:=g2.cell;refine oR h1 (i' rfl (i' h4 (sv (f:=id) (t:=LH x) h4 _ [] _ (by rw[cT];simp only[dI];show 0+c.ms.length<=sizeLine;omega) (λd hd k0 hk=>?_) (λd hd _ k0 hk=>?_) λp2 Ww=>?_)))
 .obtain⟨y,hy,rfl⟩:=dz.mp hd;exact hk
 .obtain⟨y,hy,rfl⟩:=dz.mp hd;exact hk
 rw[yN];have t3:=qh.new (c:=.lst ((qQ c.ms x).map D.str)) Ww;have lp:=@o9 M2 p2 ((qQ c.ms x).map D.str);have np:=g2.bd.mX Ww;have YJ:=g2.sub t3;have s3:qE A M2 A (oZ M2 p2 (.lst ((qQ c.ms x).map D.str))):=.sub t3;generalize oZ M2 p2 (.lst ((qQ c.ms x).map D.str))=M3 at t3 lp YJ s3 ⊢;clear h1 h2 h3 h4 n1 n2;obtain⟨ad,md,h1,h2,h3,h4,n1,n2⟩:=YJ.cell;refine oR h1 ⟨(G.j "members" rfl),by show 8<1000;decide,_,.refl,?_⟩;obtain⟨g4,s4⟩:=YJ.put (c.drop x) rfl h3 lp n1 np;refine q _ ((s1.trans s2).trans (s3.trans s4)) ?_;have:=g4.bd;rw[rG]at this;exact this
def Ka(G:Gl K mg a):Fq P w K mg base 2 a.bb (JN a):=by
 refine fq G.bb.toDG xo (λr u=>⟨_,(oQ (pB 2 xo (pz U1 oU))
 (oS (pE (pb u U2 oV)
 (oQ (pQ v0 oV)
 (oQ (pQ v0 (qg tH rfl G.y tI (pT (pz U1 oU))))
 (oS (pQ v0 oU))))
 (oS (pE (pb u U2 oV)
 (oS (pQ v0 (qm sC)))
 (oS (pE (pb u U2 oV)
 (oQ (pQ v0 oV)
 (oS (pQ v0 (qm (pT (pz U1 oU))))))
 (oS (pE (pb u U2 oV)
 (oQ (pQ v0 oV)
 (oQ (pQ v0 (qg tH rfl G.y tI (pT (pz U1 oU))))
 (oQ (pQ v0 (qm sC))
 (oS (pQ v0 rF)))))
 (oS (pE (pb u U2 oV)
 (oQ (pQ v0 oV)
 (oS (pQ v0 (pz U1 oU))))
 (oS (pE (pb u U2 oV)
 (oS (pD (pq (Kq G) r G.ba (rB v0 (pz U1 oU)))))
 (oS (pE (pb u U2 oV)
 (oS (pD (pq (IS G) r G.ab (rB v0 (pz U1 oU)))))
 pk))))))))))))))),?_⟩)
 rintro ds M Q ⟨A,V,i,k,c,e,c',rfl,h,la,lm,hc,q⟩
 cases hc with
 | over w0=>exact⟨A,V,i,k,c,w0,rfl,h,λM' s b=>⟨M',.refl,q M' s b⟩⟩
 | leaves x=>exact⟨A,V,i,k,c,x,rfl,h,la,lm,λM' s b=>⟨M',.refl,q M' s b⟩⟩
 | quiet=>refine⟨oO rfl,λp hp=>?_⟩;have t3:=qh.new (c:=.lst []) hp;have lp:=@o9 M p [];have np:=h.bd.mX hp;have g1:=h.sub t3;generalize oZ M p (.lst [])=M1 at t3 lp g1 ⊢;obtain⟨ad,md,h1,h2,h3,h4,n1,n2⟩:=g1.cell;refine oR h1 ⟨(G.j "at" rfl),by show 8<1000;decide,_,.refl,?_⟩;obtain⟨g5,s5⟩:=g1.put c.nz rfl lp h4 np n2;exact q _ ((qE.sub t3).trans s5) g5.bd
 | waits x=>obtain⟨ad,md,h1,h2,h3,h4,n1,n2⟩:=h.cell;refine oR h1 ⟨(G.j "state" rfl),by show 8<1000;decide,?_⟩;obtain⟨g1,s1⟩:=h.put {c with st:="waits"} rfl h3 h4 n1 n2;show ug _ _ _ _ (oZ M k.p (.ins a.e (qS {c with st:="waits"} k.wy ad md)));generalize oZ M k.p (.ins a.e (qS {c with st:="waits"} k.wy ad md))=M1 at g1 s1 ⊢;clear h1 h2 h3 h4 n1 n2;refine⟨oO rfl,λp hp=>?_⟩;have t3:=qh.new (c:=.lst [D.str x]) hp;have lp:=@o9 M1 p [D.str x];have np:=g1.bd.mX hp;have Ye:=g1.sub t3;generalize oZ M1 p (.lst [D.str x])=M1' at t3 lp Ye ⊢;obtain⟨ad,md,h1,h2,h3,h4,n1,n2⟩:=Ye.cell;refine oR h1 ⟨(G.j "at" rfl),by show 8<1000;decide,_,.refl,?_⟩;obtain⟨g5,s5⟩:=Ye.put (c.wait x) rfl lp h4 np n2;refine q _ (s1.trans ((qE.sub t3).trans s5)) ?_;have:=g5.bd;rw[rG]at this;exact this
 | held x=>obtain⟨ad,md,h1,h2,h3,h4,n1,n2⟩:=h.cell;refine oR h1 ⟨(G.j "state" rfl),by show 8<1000;decide,?_⟩;obtain⟨g1,s1⟩:=h.put {c with st:="held"} rfl h3 h4 n1 n2;show ug _ _ _ _ (oZ M k.p (.ins a.e (qS {c with st:="held"} k.wy ad md)));generalize oZ M k.p (.ins a.e (qS {c with st:="held"} k.wy ad md))=M1 at g1 s1 ⊢;clear h1 h2 h3 h4 n1 n2;obtain⟨ad,md,h1,h2,h3,h4,n1,n2⟩:=g1.cell;refine oR h1 ⟨(G.j "holder" rfl),by show 8<1000;decide,_,.refl,?_⟩;obtain⟨g5,s5⟩:=g1.put (c.hold x) rfl h3 h4 n1 n2;refine q _ (s1.trans s5) ?_;have:=g5.bd;rw[rG]at this;exact this
 | rings ps=>obtain⟨ad,md,h1,h2,h3,h4,n1,n2⟩:=h.cell;refine oR h1 ⟨(G.j "state" rfl),by show 8<1000;decide,?_⟩;obtain⟨g1,s1⟩:=h.put {c with st:="rings"} rfl h3 h4 n1 n2;show ug _ _ _ _ (oZ M k.p (.ins a.e (qS {c with st:="rings"} k.wy ad md)));generalize oZ M k.p (.ins a.e (qS {c with st:="rings"} k.wy ad md))=M1 at g1 s1 ⊢;clear h1 h2 h3 h4 n1 n2;refine λp hp=>?_;have t3:=qh.new (c:=.lst (ps.map D.str)) hp;have lp:=@o9 M1 p (ps.map D.str);have np:=g1.bd.mX hp;have Ye:=g1.sub t3;have s1':=s1.trans (.sub t3);generalize oZ M1 p (.lst (ps.map D.str))=M1' at t3 lp Ye s1' ⊢;obtain⟨ad,md,h1,h2,h3,h4,n1,n2⟩:=Ye.cell;refine oR h1 ⟨(G.j "at" rfl),by show 8<1000;decide,?_⟩;obtain⟨g3,s3⟩:=Ye.put {c with st:="rings",at_:=ps} rfl lp h4 np n2;rw[show vI "at" (.ref p) (qS {c with st:="rings"} k.wy ad md)=qS {c with st:="rings",at_:=ps} k.wy p md from rfl];generalize oZ M1' k.p (.ins a.e (qS {c with st:="rings",at_:=ps} k.wy p md))=M3 at g3 s3 ⊢;clear h1 h2 h3 h4 n1 n2 lp t3 np;obtain⟨ad,md,h1,h2,h3,h4,n1,n2⟩:=g3.cell;refine oR h1 ⟨(G.j "since" rfl),by show 8<1000;decide,_,.refl,?_⟩;obtain⟨g5,s5⟩:=g3.put (c.ring ps) rfl h3 h4 n1 n2;refine q _ (s1'.trans (s3.trans s5)) ?_;have:=g5.bd;rw[rG,rG]at this;exact this
 | talks ms=>obtain⟨ad,md,h1,h2,h3,h4,n1,n2⟩:=h.cell;refine oR h1 ⟨(G.j "state" rfl),by show 8<1000;decide,?_⟩;obtain⟨g1,s1⟩:=h.put {c with st:="talks"} rfl h3 h4 n1 n2;show ug _ _ _ _ (oZ M k.p (.ins a.e (qS {c with st:="talks"} k.wy ad md)));generalize oZ M k.p (.ins a.e (qS {c with st:="talks"} k.wy ad md))=M1 at g1 s1 ⊢;clear h1 h2 h3 h4 n1 n2;refine λp hp=>?_;have t3:=qh.new (c:=.lst (ms.map D.str)) hp;have lp:=@o9 M1 p (ms.map D.str);have np:=g1.bd.mX hp;have Ye:=g1.sub t3;have s1':=s1.trans (.sub t3);generalize oZ M1 p (.lst (ms.map D.str))=M1' at t3 lp Ye s1' ⊢;obtain⟨ad,md,h1,h2,h3,h4,n1,n2⟩:=Ye.cell;refine oR h1 ⟨(G.j "members" rfl),by show 8<1000;decide,?_⟩;obtain⟨g3,s3⟩:=Ye.put {c with st:="talks",ms:=ms} rfl h3 lp n1 np;show ug _ _ _ _ (oZ M1' k.p (.ins a.e (qS {c with st:="talks",ms:=ms} k.wy ad p)));generalize oZ M1' k.p (.ins a.e (qS {c with st:="talks",ms:=ms} k.wy ad p))=M3 at g3 s3 ⊢;clear h1 h2 h3 h4 n1 n2 lp t3 np;refine⟨oO rfl,λp2 Ww=>?_⟩;have t4:=qh.new (c:=.lst []) Ww;have lp:=@o9 M3 p2 [];have np:=g3.bd.mX Ww;have Y1:=g3.sub t4;have s3':=s3.trans (.sub t4);generalize oZ M3 p2 (.lst [])=M3' at t4 lp Y1 s3' ⊢;obtain⟨ad,md,h1,h2,h3,h4,n1,n2⟩:=Y1.cell;refine oR h1 ⟨(G.j "at" rfl),by show 8<1000;decide,?_⟩;obtain⟨g4,s4⟩:=Y1.put {c with st:="talks",ms:=ms,at_:=[]} rfl lp h4 np n2;rw[show vI "at" (.ref p2) (qS {c with st:="talks",ms:=ms} k.wy ad md)=qS {c with st:="talks",ms:=ms,at_:=[]} k.wy p2 md from rfl];generalize oZ M3' k.p (.ins a.e (qS {c with st:="talks",ms:=ms,at_:=[]} k.wy p2 md))=M4 at g4 s4 ⊢;clear h1 h2 h3 h4 n1 n2 lp t4 np;obtain⟨ad,md,h1,h2,h3,h4,n1,n2⟩:=g4.cell;refine oR h1 ⟨(G.j "holder" rfl),by show 8<1000;decide,_,.refl,?_⟩;obtain⟨g5,s5⟩:=g4.put (c.nk ms) rfl h3 h4 n1 n2;refine q _ (s1'.trans (s3'.trans (s4.trans s5))) ?_;have:=g5.bd;rw[rG,rG,rG]at this;exact this
theorem sU{α:Type}{f:α->α}:∀{l:List α} {i:Nat} {c:α},l[i]?=some c->l.modify i f=l.set i (f c)
 | [],_,_,h=>by simp at h
 | _::_,0,_,h=>by cases h;rfl
 | x::r,i+1,c,h=>by rw[List.modify_succ_cons,kS,sU (l:=r) (by simpa using h)]
def G2(ps:List (Str×Int))(z:Str)(n:Int):BR (sO ps) (.inr z) (.int n)=sO (DA ps z n):=by
 have ea:((sO ps).any λkv=>decide (kv.1=(Sum.inr z:qR)))=ps.any λp=>decide (p.1=z):=by unfold sO;rw[jE];congr 1;funext p;have:((Sum.inr p.1:qR)=Sum.inr z)=(p.1=z):=propext ⟨λh=>jP h,λh=>by rw[h]⟩;simp only[Function.comp,this]
 unfold BR DA;rw[ea];by_cases h:(ps.any λp=>decide (p.1=z))=true
 .rw[c9 h,c9 h];unfold sO;rw[d9,d9];refine gK λp _=>?_;by_cases hp:p.1=z
  .simp[hp]
  .have:¬(Sum.inr p.1:qR)=Sum.inr z:=λy=>hp (jP y);simp[hp]
 .rw[cY h,cY h];unfold sO;rw[dP];rfl
def F6{α:Type}{l:List α}{i:Nat}{x:α}(h:l[i]?=some x):l.set i x=l:=by obtain⟨hi,e⟩:=cV.mp h;rw[<-e,List.set_getElem_self]
structure VW(V:pX):Prop where
 lo:V.log.length<10000000
 le:V.mL.length<10000000
 ca:V.calls.length<=1000000
 ps:V.ps.length<10000000
 cs:∀c∈V.calls,c.way.length<10000000/\c.at_.length<=100/\c.ms.length<=100
def AA(a:Ad):qT:=λds M Q=>GC λA V k c v=>ds=[.ref A.b,rE.d v]/\CI a M A V v.i k c/\V.mL.length<10000000/\c.way.length<10000000/\∀M',qE A M A M'->pA a M' A {yH V v.i (c.go v.g)with mL:=V.mL++[v]}->Q .mC M'
def Cn(a:Ad):qT:=λds M Q=>Sy λA V i j ki ci cj ms=>ds=[.ref A.b,.int (i:Nat),.int (j:Nat),names ms]/\CI a M A V i ki ci/\V.calls[j]?=some cj/\i≠j/\V.mL.length<10000000/\∀M' A',A'.b=A.b->qE A M A' M'->pA a M' A' {yH (yH V i (ci.over "merged")) j (cj.mem ms)with mL:=V.mL.map (rE.to i j)}->Q .mC M'
def y9(a:Ad):qT:=λds M Q=>B8 λA V=>ds=[.ref A.b]/\pA a M A V/\∀M',qE A M A M'->pA a M' A {V with t:=V.t+1,calls:=V.calls.map oW.tick}->Q .mC M'
def vB(a:Ad):qT:=λds M Q=>AU λb A V e=>ds=[.ref b,Ev.d e]/\A.b=b/\pA a M A V/\VW V/\e.ok V/\∀M' A',A'.b=A.b->qE A M A' M'->pA a M' A' (pO V e)->Q .mC M'
noncomputable def R7(m k:Nat):D->D
 | .tup (.int i::r)=>if i=(m:Int)then .tup (.int (k:Nat)::r)else .tup (.int i::r)
 | d=>d
def RI(m k:Nat)(v:rE):R7 m k v.d=(v.to m k).d:=by
 show(if ((v.i:Nat):Int)=(m:Int)then _ else _)=_;unfold rE.to;by_cases h:v.i=m
 .rw[c9 h,c9 (by rw[h])];rfl
 .rw[cY h,cY (by omega)];rfl
def Hk(G:Gl K mg a):Fq P w K mg base 1 a.bw (AA a):=by
 refine fq G.bw.toDG zF (λr u=>⟨_,(oQ (pD (rA (oX v0) (pT U1)))
 (oS (pD (rA (oX (pz (oX v0) (pz U1 oU))) (pT (pz U1 oU)))))),?_⟩)
 rintro ds M Q ⟨A,V,k,c,v,rfl,ci,l1,l2,q⟩
 have hz:=dM;have bd:=ci.bd;refine oR bd.at_ (i' rfl ⟨by show(oy M A.le).isSome=true;rw[bd.le];rfl,i' bd.le ⟨by rw[cT];omega,?_⟩⟩);obtain⟨b1,s1⟩:=bd.nY (es:=V.mL++[v]);rw[dP]at b1 s1;have b1:pA a (oZ M A.le (.lst (V.mL.map rE.d++[v.d]))) A {V with mL:=V.mL++[v]}:=b1;have s1:qE A M A (oZ M A.le (.lst (V.mL.map rE.d++[v.d]))):=s1;generalize oZ M A.le (.lst (V.mL.map rE.d++[v.d]))=M1 at b1 s1 ⊢;obtain⟨ad,md,h1,h2,h3,h4,n1,n2⟩:=b1.cs v.i k c ci.e1 ci.e2;refine oR b1.at_ (i' rfl (i' b1.ca (i' (qx ci.e1) (oR h1 (i' rfl ⟨by show(oy M1 k.wy).isSome=true;rw[h2];rfl,i' h2 ⟨by rw[cT];omega,?_⟩⟩)))));obtain⟨b2,s2⟩:=b1.nV (ws:=c.way++[v.g]) ci.e1 ci.e2;rw[dP]at b2 s2;exact⟨_,.refl,q _ (s1.trans s2) b2⟩
def Mn(G:Gl K mg a):Fq P w K mg base 2 a.bx (Cn a):=by
 refine fq G.bx.toDG w9 (λr u=>⟨_,(oQ (pD (pq (IS G) r G.ab (rB (pz (oX v0) U1) oV)))
 (oQ (pQ v0 (qw rfl (xV (ix:=[none,some 1,some 2]) (N':=["leg","merged","kept"])) (qv (oX v0)) (qu 0) rC (Qf (pb u (pz v0 oU) U1) (pM (pC (pT U2)) (rR v0 (se oU) sV)) v0)))
 (oQ (pB 4 w9 (pz (oX v0) U2))
 (oS (pQ v4 (qg tH rfl G.y tI (pT U3))))))),?_⟩)
 rintro ds M Q ⟨A,V,i,j,ki,ci,cj,ms,rfl,hi,hj,Xf,l1,q⟩
 have hz:=dM;refine oR hi.bd.at_ (i' rfl (i' rfl (i' hi.bd.ca (i' (qx hi.e1) ⟨A,V,i,ki,ci,"merged",rfl,hi,λM1 s1 b1=>?_⟩))));have hj1:(yH V i (ci.over "merged")).calls[j]?=some cj:=by show(V.calls.set i _)[j]?=_;rw[eP Xf];exact hj
 have le1:oy M1 A.le=some (V.mL.map rE.d):=b1.le;refine oR b1.at_ (i' rfl (i' le1 (qM (f:=R7 i j) le1 _ [] _ (by rw[cT];simp only[dI];omega) (λd hd k hk=>?_) λp hp=>?_)))
 .obtain⟨v,_,rfl⟩:=dz.mp hd;refine i' rfl ?_;have hk:k (if ((v.i:Nat):Int)=(i:Int)then .tup [.int (j:Nat),.str v.f,.str v.g,.str v.y]else .tup [.int (v.i:Nat),.str v.f,.str v.g,.str v.y]) M1:=hk;refine qr (c:=((v.i:Nat):Int)==(i:Nat)) (λz=>?_) (λz=>?_)
  .rw[c9 (eq_of_beq z)]at hk;exact⟨oO rfl,fE _ _,by show 1+3<=sizeLine;omega,hk⟩
  .rw[cY (λy=>z (by rw[y];exact eM _))]at hk;exact hk
 have em:[]++(V.mL.map rE.d).map (R7 i j)=(V.mL.map (rE.to i j)).map rE.d:=by rw[dX,d9,d9];exact gK λv _=>RI i j v
 rw[em];obtain⟨b2,s2⟩:=b1.nX (es:=V.mL.map (rE.to i j)) hp;have t:=qh.new (c:=.lst ((V.mL.map (rE.to i j)).map rE.d)) hp;refine oR (t _ _ b1.at_) ⟨(G.C "legs" rfl),by show 8<1000;decide,?_⟩;show ug _ _ _ _ (oZ (oZ M1 p (.lst ((V.mL.map (rE.to i j)).map rE.d))) A.b (.ins a.c (sY (.ref V.p) V.h V.t A.ca p A.nx A.on A.lo)));have b2:pA a (oZ (oZ M1 p (.lst ((V.mL.map (rE.to i j)).map rE.d))) A.b (.ins a.c (sY (.ref V.p) V.h V.t A.ca p A.nx A.on A.lo))) {A with le:=p} {yH V i (ci.over "merged")with mL:=V.mL.map (rE.to i j)}:=b2;have s2:qE A M1 {A with le:=p} (oZ (oZ M1 p (.lst ((V.mL.map (rE.to i j)).map rE.d))) A.b (.ins a.c (sY (.ref V.p) V.h V.t A.ca p A.nx A.on A.lo))):=s2;generalize oZ (oZ M1 p (.lst ((V.mL.map (rE.to i j)).map rE.d))) A.b (.ins a.c (sY (.ref V.p) V.h V.t A.ca p A.nx A.on A.lo))=M2 at b2 s2 ⊢;have hjk:j<A.cs.length:=by rw[hi.bd.len];exact(cV.mp hj).1
 have ej:A.cs[j]?=some A.cs[j]:=cW hjk;generalize A.cs[j]=kj at ej;have cj2:CI a M2 {A with le:=p} _ j kj cj:=⟨b2,ej,hj1⟩;refine oR b2.at_ (i' rfl (i' rfl (i' b2.ca (i' (qx ej) ?_))));refine λr Zx=>?_;have t3:=qh.new (c:=.lst (ms.map D.str)) Zx;have lr:=@o9 M2 r (ms.map D.str);have nr:=b2.mX Zx;have cj3:=cj2.sub t3;generalize oZ M2 r (.lst (ms.map D.str))=M3 at t3 lr cj3 ⊢;obtain⟨ad,md,h1,h2,h3,h4,n1,n2⟩:=cj3.cell;refine oR h1 ⟨(G.j "members" rfl),by show 8<1000;decide,_,.refl,?_⟩;obtain⟨g5,s5⟩:=cj3.put (cj.mem ms) rfl h3 lr n1 nr;exact q _ {A with le:=p} rfl (s1.trans (s2.trans ((qE.sub t3).trans s5))) g5.bd
def Eo(G:Gl K mg a):Fq P w K mg base 1 a.bz (y9 a):=by
 refine fq G.bz.toDG uO (λr u=>⟨_,(oQ (C6 v0 oU)
 (oS (uB fu rfl (qv (oX v0)) (rg 1 uO)
 (oS (pE (pb u (oX U1) oV)
 (oS (C6 U1 oU))
 pk))))),?_⟩)
 rintro ds M Q ⟨A,V,rfl,bd,q⟩
 refine oR bd.at_ ⟨(G.C "turn" rfl),i' rfl (i' rfl (oR bd.at_ ⟨rfl,by show 8<1000;decide,?_⟩))⟩;obtain⟨b1,s1⟩:=bd.putT (t:=V.t+1);rw[show vI "turn" (.int (V.t+1)) (sY (.ref V.p) V.h V.t A.ca A.le A.nx A.on A.lo)=sY (.ref V.p) V.h (V.t+1) A.ca A.le A.nx A.on A.lo from rfl];generalize oZ M A.b (.ins a.c (sY (.ref V.p) V.h (V.t+1) A.ca A.le A.nx A.on A.lo))=M1 at b1 s1 ⊢;refine oR b1.at_ (i' rfl (i' b1.ca ?_));refine wm (A.cs.map λk=>D.ref k.p) (λpre δ M'=>pA a M' A {V with t:=V.t+1,calls:=(V.calls.take pre.length).map oW.tick++V.calls.drop pre.length}/\qE A M A M'/\∃y,δ=[some (.ref A.b),y]) (λ_ _ M' j=>j.1.ca) _ [] _ _ rfl ⟨b1,s1,none,rfl⟩ ?_ ?_
 .rintro pre d post e δ M' ⟨b2,s2,y,rfl⟩ nx Wy
  have hd:(A.cs.map λk=>D.ref k.p)[pre.length]?=some d:=by rw[<-e];simp
  rw[dA]at hd;cases ek:A.cs[pre.length]? with
  | none=>rw[ek]at hd;cases hd
  | some k=>
   rw[ek]at hd;have hd:D.ref k.p=d:=dh hd;subst hd;have hi:pre.length<V.calls.length:=by rw[<-bd.len];exact(cV.mp ek).1
   have ec:V.calls[pre.length]?=some V.calls[pre.length]:=cW hi;have ed:V.calls.drop pre.length=V.calls[pre.length]::V.calls.drop (pre.length+1):=gc hi;have et:V.calls.take (pre.length+1)=V.calls.take pre.length++[V.calls[pre.length]]:=by rw[gW,ec];rfl
   generalize V.calls[pre.length]=c at ec ed et;have hl:((V.calls.take pre.length).map oW.tick).length=pre.length:=by rw[cT,fM];omega
   have ec2:((V.calls.take pre.length).map oW.tick++V.calls.drop pre.length)[pre.length]?=some c:=by rw[eS (by rw[hl];exact dg _),hl,hG,ed];rfl
   rw[cX,dQ,et]at Wy;have en:((V.calls.take pre.length).map oW.tick++V.calls.drop pre.length).set pre.length c.tick=(V.calls.take pre.length++[c]).map oW.tick++V.calls.drop (pre.length+1):=by rw[j4 _ _ (by rw[hl];exact dg _),hl,hG,ed,dP,fj];rfl
   have ci:CI a M' A _ pre.length k c:=⟨b2,ek,ec2⟩;obtain⟨ad,md,h1,h2,h3,h4,n1,n2⟩:=ci.cell;refine oR h1 (i' rfl ?_);have ht:c.tick=if (c.st=="rings")=true then{c with si:=c.si+1}else c:=rfl;refine qr (c:=c.st=="rings") (λg=>?_) (λg=>?_)
   .rw[c9 g]at ht;refine oR h1 ⟨(G.j "since" rfl),i' rfl (i' rfl (oR h1 ⟨rfl,by show 8<1000;decide,?_⟩))⟩;obtain⟨g5,s5⟩:=ci.put c.tick (by rw[ht]) (by rw[ht];exact h3) (by rw[ht];exact h4) n1 n2;have b5:=g5.bd;unfold yH at b5;rw[en]at b5;rw[ht]at b5 s5;exact Wy _ _ ⟨b5,s2.trans s5,_,rfl⟩
   .rw[cY g]at ht;rw[ht,F6 ec2]at en;rw[en]at b2;exact Wy _ _ ⟨b2,s2,_,rfl⟩
 .rintro δ M' ⟨b2,s2,y,rfl⟩
  rw[cT,bd.len,fN,jB,eY]at b2;exact⟨M',.refl,q M' s2 b2⟩
def qH(G:Gl K mg a):Fq P w K mg base 3 a.k (vB a):=by
 refine fq G.k.toDG xD (λr u=>⟨_,(oQ (pD (rA (oX v0) (pT U1)))
 (oQ (pB 2 xD (pz U1 oU))
 (oS (pE (pb u U2 oV)
 (oS (pD (rA (oX v0) (pT (uV (Ny G) r G.e G.b7 G.ak.toDG (pT (pz U1 oU)))))))
 (oS (pE (pb u U2 oV)
 (oS (pD (pK v0 G.c.toCls G.bw (Hk G) r (pT (rR U1 (se oU) sV)))))
 (oS (pE (pb u U2 oV)
 (oS (PH u (oX v0) (pz U1 oU) (pz U1 oU)))
 (oS (pE (pb u U2 oV)
 (oS (pD (pK v0 G.c.toCls G.bx (Mn G) r (qN (pz U1 oU) (pz U1 oU) (pz U1 oU)))))
 (oS (pE (pb u U2 oV)
 (oS (pD (xX v0 G.c.toCls G.bz (Eo G) r)))
 (oS (pE (pb u U2 (pC (rB oV oV)))
 (oS (GD (pW u U2 oV) (Sn (oX v0) (pz U1 oU))))
 (oS (pE (pb u U2 oV)
 (oS (pD (pq (Ka G) r G.bb (rB (pz (oX v0) (pz U1 oU)) U1))))
 pk)))))))))))))))),?_⟩)
 rintro ds M Q ⟨_,A,V,e,rfl,rfl,bd,lim,ev,q⟩
 have hz:=dM;have ll:=lim.lo;have lc:=lim.ca;have lp:=lim.ps;refine oR bd.at_ (i' rfl ⟨by show(oy M A.lo).isSome=true;rw[bd.lo];rfl,i' bd.lo ⟨by rw[cT];omega,?_⟩⟩);have hb:=bd.nZ (es:=V.log++[e]);rw[dP]at hb;obtain⟨b1,s1⟩:pA a (oZ M A.lo (.lst (V.log.map Ev.d++[e.d]))) A (qB V e)/\qE A M A (oZ M A.lo (.lst (V.log.map Ev.d++[e.d]))):=hb;show ug _ _ _ _ (oZ M A.lo (.lst (V.log.map Ev.d++[e.d])));generalize oZ M A.lo (.lst (V.log.map Ev.d++[e.d]))=M1 at b1 s1 ⊢;have Ys:∀i,i<V.calls.length->∃k c,A.cs[i]?=some k/\V.calls[i]?=some c/\c∈V.calls:=λi hi=>by
  have Xt:i<A.cs.length:=by rw[bd.len];exact hi
  exact⟨_,_,cW Xt,cW hi,hZ hi⟩
 have Zy:∀(i:Nat) (k:qV) (c:oW) (c':oW) (f:oW->oW),A.cs[i]?=some k->V.calls[i]?=some c->f c=c'->pO V e=xC (qB V e) i f->∀(M2:Mp),qE A M1 A M2->pA a M2 A (yH (qB V e) i c')->∃Wq,qh Wq M2/\Q .mC Wq:=λi k c c' f e1 e2 e3 e4 M2 s2 b2=>⟨M2,.refl,q M2 A rfl (s1.trans s2) (by
  rw[e4];unfold xC;rw[show(qB V e).calls=V.calls from rfl,sU e2,e3];exact b2)⟩
 cases e with
 | new n x=>refine oR b1.at_ (i' rfl ⟨by show(oy M1 A.ca).isSome=true;rw[b1.ca];rfl,λp hp=>⟨p,x,rfl,pG,λM2 wy ad md kp z1 z2 z3 n1 n2 h1 h2 h3 h4=>⟨rfl,?_⟩⟩⟩);have sp:=qh.new (c:=.ins a.e []) hp;have s2:qh M1 M2:=λy d hy=>kp y d (Qe hy hp) (sp y d hy);refine i' (s2.lst b1.ca) ⟨by rw[cT,b1.len];show V.calls.length<sizeLine;omega,?_⟩;obtain⟨b3,s3⟩:=b1.nS s2 (c:=yF x) hp (sp.none z1) (sp.none z2) (sp.none z3) h1 h2 h3 h4 n1 n2;exact⟨_,.refl,q _ (A.add ⟨p,wy⟩) rfl (s1.trans s3) b3⟩
 | leg v=>obtain⟨k,c,ek,ec,hc⟩:=Ys v.i ev;refine oR b1.at_ ⟨rfl,_,⟨rfl,rfl⟩,A,qB V (.leg v),k,c,v,rfl,⟨b1,ek,ec⟩,lim.le,(lim.cs c hc).1,λM2 s2 b2=>⟨M2,.refl,q M2 A rfl (s1.trans s2) ?_⟩⟩;show pA a M2 A {qB V (.leg v)with mL:=V.mL++[v],calls:=V.calls.modify v.i (·.go v.g)};rw[sU ec];exact b2
 | next z n=>refine oR b1.at_ (i' rfl (i' b1.nx ⟨by show(sO V.ps).length<sizeLine;unfold sO;rw[cT];omega,?_⟩));rw[G2];obtain⟨b2,s2⟩:=b1.oA (ps:=DA V.ps z n);exact⟨_,.refl,q _ A rfl (s1.trans s2) b2⟩
 | merge i j ms=>obtain⟨hi,hj,hij,_⟩:=ev;obtain⟨ki,ci,eki,eci,hci⟩:=Ys i hi;obtain⟨kj,cj,ekj,ecj,hcj⟩:=Ys j hj;refine oR b1.at_ ⟨rfl,_,⟨rfl,rfl⟩,A,qB V (.merge i j ms),i,j,ki,ci,cj,ms,rfl,⟨b1,eki,eci⟩,ecj,hij,lim.le,λM2 A2 eb s2 b2=>⟨M2,.refl,q M2 A2 eb (s1.trans s2) ?_⟩⟩;show pA a M2 A2 {qB V (.merge i j ms)with calls:=(V.calls.modify i (·.over "merged")).modify j (·.mem ms),mL:=V.mL.map (rE.to i j)};rw[sU eci,sU (show(V.calls.set i _)[j]?=some cj by rw[eP hij];exact ecj)];exact b2
 | asks i z ns=>exact⟨oO rfl,rfl,rfl,M1,.refl,q M1 A rfl s1 b1⟩
 | turn=>exact oR b1.at_ ⟨rfl,_,⟨rfl,rfl⟩,A,qB V .turn,rfl,b1,λM2 s2 b2=>⟨M2,.refl,q M2 A rfl (s1.trans s2) b2⟩⟩
 | sw b i=>
  have hi:i<V.on.length:=ev;obtain⟨b2,s2⟩:=b1.oE (bs:=V.on.set i b);have es:(V.on.map D.bl).set i (.bl b)=(V.on.set i b).map D.bl:=(me).symm;have ix:FL (V.on.map D.bl).length (i:Nat)=some i:=by rw[cT];unfold FL;simp[hi]
  have Wp:∃Wq,qh Wq (oZ M1 A.on (.lst ((V.on.map D.bl).set i (.bl b))))/\Q .mC Wq:=by rw[es];exact⟨_,.refl,q _ A rfl (s1.trans s2) b2⟩
  cases b with
  | true=>exact⟨oO rfl,rfl,rfl,oR b1.at_ (i' rfl (i' b1.on (i' ix Wp)))⟩
  | false=>exact⟨oO rfl,rfl,rfl,oR b1.at_ (i' rfl (i' b1.on (i' ix Wp)))⟩
 | rings i ps=>obtain⟨k,c,ek,ec,hc⟩:=Ys i ev.1;exact⟨oO rfl,rfl,rfl,oR b1.at_ (i' rfl (i' b1.ca (i' (qx ek) ⟨A,qB V _,i,k,c,_,_,rfl,⟨b1,ek,ec⟩,(lim.cs c hc).2.1,(lim.cs c hc).2.2,.rings ps,Zy i k c _ _ ek ec rfl rfl⟩)))⟩
 | quiet i=>obtain⟨k,c,ek,ec,hc⟩:=Ys i ev;exact⟨oO rfl,rfl,rfl,oR b1.at_ (i' rfl (i' b1.ca (i' (qx ek) ⟨A,qB V _,i,k,c,_,_,rfl,⟨b1,ek,ec⟩,(lim.cs c hc).2.1,(lim.cs c hc).2.2,.quiet,Zy i k c _ _ ek ec rfl rfl⟩)))⟩
 | waits i x=>obtain⟨k,c,ek,ec,hc⟩:=Ys i ev;exact⟨oO rfl,rfl,rfl,oR b1.at_ (i' rfl (i' b1.ca (i' (qx ek) ⟨A,qB V _,i,k,c,_,_,rfl,⟨b1,ek,ec⟩,(lim.cs c hc).2.1,(lim.cs c hc).2.2,.waits x,Zy i k c _ _ ek ec rfl rfl⟩)))⟩
 | talks i ms=>obtain⟨k,c,ek,ec,hc⟩:=Ys i ev.1;exact⟨oO rfl,rfl,rfl,oR b1.at_ (i' rfl (i' b1.ca (i' (qx ek) ⟨A,qB V _,i,k,c,_,_,rfl,⟨b1,ek,ec⟩,(lim.cs c hc).2.1,(lim.cs c hc).2.2,.talks ms,Zy i k c _ _ ek ec rfl rfl⟩)))⟩
 | held i x=>obtain⟨k,c,ek,ec,hc⟩:=Ys i ev;exact⟨oO rfl,rfl,rfl,oR b1.at_ (i' rfl (i' b1.ca (i' (qx ek) ⟨A,qB V _,i,k,c,_,_,rfl,⟨b1,ek,ec⟩,(lim.cs c hc).2.1,(lim.cs c hc).2.2,.held x,Zy i k c _ _ ek ec rfl rfl⟩)))⟩
 | leaves i x=>obtain⟨k,c,ek,ec,hc⟩:=Ys i ev;exact⟨oO rfl,rfl,rfl,oR b1.at_ (i' rfl (i' b1.ca (i' (qx ek) ⟨A,qB V _,i,k,c,_,_,rfl,⟨b1,ek,ec⟩,(lim.cs c hc).2.1,(lim.cs c hc).2.2,.leaves x,Zy i k c _ _ ek ec rfl rfl⟩)))⟩
 | over i w0=>obtain⟨k,c,ek,ec,hc⟩:=Ys i ev;exact⟨oO rfl,rfl,rfl,oR b1.at_ (i' rfl (i' b1.ca (i' (qx ek) ⟨A,qB V _,i,k,c,_,_,rfl,⟨b1,ek,ec⟩,(lim.cs c hc).2.1,(lim.cs c hc).2.2,.over w0,Zy i k c _ _ ek ec rfl rfl⟩)))⟩
noncomputable def K6:List Str:=["barred","ring","engaged","left","refused","done","merged"]
def MH(o:Bool)(c:oW):Prop:=(c.st="rings"/\c.ms=[]/\c.hd=none/\c.wd=none/\(o=true->c.at_=[])/\(o=false->c.at_≠[]))\/(o=false/\((c.st="waits"/\c.ms=[]/\c.hd=none/\c.wd=none/\c.at_.length=1)\/(c.st="talks"/\(c.ms.length=2\/c.ms.length=3)/\c.hd=none/\c.wd=none/\c.at_=[])\/
 (∃x,c.st="held"/\c.ms.length=2/\c.hd=some x/\x∈c.ms/\c.wd=none/\c.at_=[])\/(c.st="over"/\c.ms=[]/\c.hd=none/\c.at_=[]/\∃w∈K6,c.wd=some w)))
structure uU(l:pj)(o:Bool)(c:oW):Prop where
 sh:MH o c
 cr:c.cr∈l.pn
 at_:∀x∈c.at_,x∈l.pn
 ms:∀x∈c.ms,x∈l.pn
 an:c.at_.Nodup
 mn:c.ms.Nodup
 ca:c.cr∉c.at_
 wy:c.way≠[]/\∀z∈c.way,z∈l.nm
def AK(c:oW)(x:Str):Prop:=c.mS x=true\/c.mH x=true
structure zq(l:pj)(V:pX)(o:Option Nat):Prop where
 ok:∀(i:Nat) c,V.calls[i]?=some c->uU l (o==some i) c
 un:∀(i j:Nat) ci cj x,V.calls[i]?=some ci->V.calls[j]?=some cj->AK ci x->AK cj x->i=j
 ln:∀x∈l.pn,(uH V x:Int)<=wx l x
 wt:∀(i j:Nat) ci cj x,V.calls[i]?=some ci->V.calls[j]?=some cj->ci.mD x=true->cj.mD x=true->i=j
 nx:uq l V
abbrev WF(l:pj)(V:pX):Prop:=zq l V none
structure Sz(V:pX)(c n:Nat):Prop where
 lo:V.log.length<=n
 le:V.mL.length<=n
 ca:V.calls.length<=c
 ps:V.ps.length<=n
 cs:∀k∈V.calls,k.way.length<=n/\k.at_.length<=100/\k.ms.length<=100
def Sz.mono{V:pX}{c n c' n':Nat}(h:Sz V c n)(hc:c<=c')(hn:n<=n'):Sz V c' n':=⟨dY h.lo hn,dY h.le hn,dY h.ca hc,dY h.ps hn,λk hk=>⟨dY (h.cs k hk).1 hn,(h.cs k hk).2⟩⟩
noncomputable def Ev.nw:Ev->Nat
 | .new _ _=>1
 | _=>0
def Mq(ps:List (Str×Int))(z:Str)(n:Int):(DA ps z n).length<=ps.length+1:=by
 unfold DA;split
 .rw[cT];omega
 .rw[cX];exact dg _
def Ib(ss:List Str)(x:Str):(qQ ss x).length<=ss.length:=gx _ _
def Er{α:Type}{f:α->α}{l:List α}{i:Nat}{x:α}(h:x∈l.modify i f):x∈l\/∃y∈l,x=f y:=by
 cases e:l[i]? with
 | none=>rw[kz (by simpa using e)]at h;exact .inl h
 | some c=>
  rw[sU e]at h;rcases List.mem_or_eq_of_mem_set h with g|g
  .exact .inl g
  .exact .inr ⟨c,fQ e,g⟩
def Sz.step{V:pX}{c n:Nat}{e:Ev}(h:Sz V c n)(ok:e.ok V):Sz (pO V e) (c+e.nw) (n+1):=by
 have h1:Sz (qB V e) c (n+1):=⟨by show(V.log++[e]).length<=n+1;rw[cX];exact h9 h.lo,jn h.le,h.ca,jn h.ps,λk hk=>⟨jn (h.cs k hk).1,(h.cs k hk).2⟩⟩;have md:∀(i:Nat) (f:oW->oW),(∀k∈V.calls,(f k).way=k.way/\(f k).at_.length<=100/\(f k).ms.length<=100)->Sz (xC (qB V e) i f) c (n+1):=λi f hf=>⟨h1.lo,h1.le,by show(V.calls.modify i f).length<=c;rw[eU];exact h.ca,h1.ps,λk hk=>by
  rcases Er hk with g|⟨y,hy,rfl⟩
  .exact h1.cs k g
  .obtain⟨a1,a2,a3⟩:=hf y hy;exact⟨by rw[a1];exact(h1.cs y hy).1,a2,a3⟩⟩
 cases e with
 | new m x=>
  refine⟨h1.lo,h1.le,by show(V.calls++[yF x]).length<=c+1;rw[cX];exact h9 h.ca,h1.ps,λk hk=>?_⟩;rcases dW.mp hk with g|g
  .exact h1.cs k g
  .rw[dD.mp g];exact⟨eX _,eX _,eX _⟩
 | leg v=>
  refine⟨h1.lo,by show(V.mL++[v]).length<=n+1;rw[cX];exact h9 h.le,by show(V.calls.modify v.i _).length<=c;rw[eU];exact h.ca,h1.ps,λk hk=>?_⟩;rcases Er (l:=V.calls) hk with g|⟨y,hy,rfl⟩
  .exact h1.cs k g
  .exact⟨by show(y.way++[v.g]).length<=n+1;rw[cX];exact h9 (h.cs y hy).1,(h.cs y hy).2⟩
 | asks i z ns=>exact h1
 | next z m=>exact⟨h1.lo,h1.le,h1.ca,dY (Mq _ _ _) (h9 h.ps),h1.cs⟩
 | merge i j ms=>
  have m1:=md i (·.over "merged") λk hk=>⟨rfl,eX _,eX _⟩;refine⟨h1.lo,by show(V.mL.map _).length<=n+1;rw[cT];exact h1.le,by show((V.calls.modify i _).modify j _).length<=c;rw[eU,eU];exact h.ca,h1.ps,λk hk=>?_⟩;rcases Er (l:=V.calls.modify i (·.over "merged")) hk with g|⟨y,hy,rfl⟩
  .exact m1.cs k g
  .exact⟨(m1.cs y hy).1,(m1.cs y hy).2.1,ok.2.2.2⟩
 | turn=>
  refine⟨h1.lo,h1.le,by show(V.calls.map oW.tick).length<=c;rw[cT];exact h.ca,h1.ps,λk hk=>?_⟩;obtain⟨y,hy,rfl⟩:=dz.mp hk;have e:y.tick.way=y.way/\y.tick.at_=y.at_/\y.tick.ms=y.ms:=by unfold oW.tick;split<;>exact⟨rfl,rfl,rfl⟩
  rw[e.1,e.2.1,e.2.2];exact h1.cs y hy
 | sw b i=>exact⟨h1.lo,h1.le,h1.ca,h1.ps,h1.cs⟩
 | rings i ps=>exact md i _ λk hk=>⟨rfl,ok.2,(h.cs k hk).2.2⟩
 | quiet i=>exact md i _ λk hk=>⟨rfl,eX _,(h.cs k hk).2.2⟩
 | waits i x=>exact md i _ λk hk=>⟨rfl,by show 1<=100;decide,(h.cs k hk).2.2⟩
 | talks i ms=>exact md i _ λk hk=>⟨rfl,eX _,ok.2⟩
 | held i x=>exact md i _ λk hk=>⟨rfl,(h.cs k hk).2.1,(h.cs k hk).2.2⟩
 | leaves i x=>exact md i _ λk hk=>⟨rfl,dY (Ib _ _) (h.cs k hk).2.1,dY (Ib _ _) (h.cs k hk).2.2⟩
 | over i w=>exact md i _ λk hk=>⟨rfl,eX _,eX _⟩
def HS(V:pX)(e:Ev):(pO V e).fo=V.fo:=by cases e<;>rfl
def QL(V:pX)(e:Ev):(pO V e).p=V.p/\(pO V e).h=V.h/\(pO V e).on.length=V.on.length:=by cases e<;>first|exact⟨rfl,rfl,rfl⟩|exact⟨rfl,rfl,ib⟩
structure tw(a:Ad)(M0 M:Mp)(b:Addr)(A:so)(V:pX)(l:pj)(c n:Nat):Prop where
 bd:pA a M A V
 oi:rS a M0 V.p l
 s0:qh M0 M
 fr:∀x∈A.foot,M0 x=none
 b:A.b=b
 sz:Sz V c n
 ok:rf l
 on:V.on.length=l.mx.length
variable {M0:Mp}{b:Addr}{A':so}{V':pX}{l:pj}{n:Nat}
section
variable {c:Nat}
def tw.at_(h:tw a M0 M b A V l c n):M b=some (.ins a.c (sY (.ref V.p) V.h V.t A.ca A.le A.nx A.on A.lo)):=h.b ▸ h.bd.at_
def tw.sub(h:tw a M0 M b A V l c n)(s:qh M M'):tw a M0 M' b A V l c n:=⟨h.bd.sub s,h.oi,h.s0.trans s,h.fr,h.b,h.sz,h.ok,h.on⟩
def tw.pl(h:tw a M0 M b A V l c n):rS a M V.p l:=h.oi.sub h.s0
def tw.mono(h:tw a M0 M b A V l c n){c' n':Nat}(hc:c<=c')(hn:n<=n'):tw a M0 M b A V l c' n':=⟨h.bd,h.oi,h.s0,h.fr,h.b,h.sz.mono hc hn,h.ok,h.on⟩
def tw.lim(h:tw a M0 M b A V l c n)(hc:c<=1000000)(hn:n<9000000):VW V:=⟨io h.sz.lo (by omega),io h.sz.le (by omega),dY h.sz.ca hc,io h.sz.ps (by omega),λk hk=>⟨io (h.sz.cs k hk).1 (by omega),(h.sz.cs k hk).2⟩⟩
def tw.rd(h:tw a M0 M b A V l c n)(hc:c<=1000000){o:Option Nat}(wf:zq l V o):Rd a M A V l:=⟨h.bd,dY h.sz.ca hc,h.pl,h.ok,h.on,λk hk=>by
 obtain⟨i,hi,e⟩:=gJ hk;exact⟨(wf.ok i k (by rw[cW hi,e])).ms,(h.sz.cs k hk).2.2⟩⟩
def tw.call(h:tw a M0 M b A V l c n){i:Nat}{v:oW}(e:V.calls[i]?=some v):∃k,CI a M A V i k v:=by
 have hi:i<A.cs.length:=by rw[h.bd.len];exact(cV.mp e).1
 exact⟨A.cs[i],h.bd,cW hi,e⟩
def tw.after(h:tw a M0 M b A V l c n){e:Ev}(ok:e.ok V)(eb:A'.b=A.b)(st:qE A M A' M')(bd:pA a M' A' (pO V e)):tw a M0 M' b A' (pO V e) l (c+e.nw) (n+1):=by
 obtain⟨p1,p2,p3⟩:=QL V e;refine⟨bd,p1 ▸ h.oi,λx d hx=>st.1 x d (λz=>?_) (h.s0 x d hx),λx hx=>?_,eb.trans h.b,h.sz.step ok,h.ok,p3.trans h.on⟩
 .rw[h.fr x z]at hx;cases hx
 .rcases st.2.1 x hx with z|z
  .exact h.fr x z
  .exact h.s0.none z
end
def Fx(l:pj)(V:pX)(c:Str):vW->Prop
 | .rings z ps=>z∈l.nm/\ps≠[]/\ps=xi l V c z
 | .breaks z=>∃x,x=c/\GG l V x c z=true
 | .waits z=>z∈l.pn/\z≠c/\zV V z=false
 | .ring ns=>ns≠[]
 | _=>True
def Gm{l:pj}{V:pX}{c z:Str}:(∀x∈xi l V c z,x∈tQ l V c z/\x∈l.mv z)/\(xi l V c z).length<=(l.mv z).length:=by
 have hr:∀x∈tQ l V c z,x∈l.mv z:=λx hx=>(fG.mp hx).1;unfold xi;split
 .refine⟨λx hx=>?_,?_⟩
  .have hx:=(fG.mp (iM hx)).2;have hx:=qG.mp hx;exact⟨hx,hr x hx⟩
  .cases e:(uE (l.mv z) (zg V z)).filter λx=>hasS (tQ l V c z) x with
   | nil=>exact eX _
   | cons y r=>
    have hy:y∈uE (l.mv z) (zg V z):=(fG.mp (by rw[e];exact dN)).1;have hy:y∈l.mv z:=by
     unfold uE at hy;rcases dW.mp hy with q|q
     .exact iN q
     .exact iM q
    rw[fM];have:=List.length_pos_of_mem hy;omega
 .exact⟨λx hx=>⟨hx,hr x hx⟩,gx _ _⟩
def OM{l:pj}{V:pX}{c z:Str}(hz:z∈l.nm):Fx l V c (GT l V c z):=by
 unfold GT;split
 .trivial
 .rename_i x r e;exact⟨hz,fE _ _,e.symm⟩
structure xI(l:pj)(V:pX)(c:Str)(n:Nat)(st:sZ)(r:vW×sZ):Prop where
 e:Fx l V c r.1
 len:r.2.length<=st.length+n
 nm:∀s∈r.2,s∈st\/s.1∈l.nm
 wy:∀ns,r.1=.ring ns->∀z∈ns,z∈l.nm
theorem zh{l:pj}{V:pX}{c:Str}(ok:rf l):∀(n:Nat) (z:Str) (way:List Str) (st:sZ),z∈l.nm->(∀x∈way,x∈l.nm)->xI l V c n st (wu l V c n z way st)
 | 0,z,way,st,_,_=>⟨trivial,dg _,λs hs=>.inl hs,λns h=>by cases h⟩
 | n+1,z,way,st,hz,hw=>by
  unfold wu;by_cases h:hasS way z=true
  .rw[c9 h];refine⟨?_,by show st.length<=_;omega,λs hs=>.inl hs,λns e y hy=>?_⟩
   .have h1:way.findIdx (·==z)<way.length:=List.findIdx_lt_length_of_exists ⟨z,qG.mp h,eM z⟩;show way.drop _≠[];intro g;have:=eE List.length g;rw[fY]at this;simp only[dI]at this;omega
   .cases e;exact hw y (iN hy)
  rw[cY h];have sn:∀(fs:List Nat),∀s∈st++[(z,fs)],s∈st\/s.1∈l.nm:=λfs s hs=>by
   rcases dW.mp hs with g|g
   .exact .inl g
   .rw[dD.mp g];exact .inr hz
  have sl:∀fs:List Nat,(st++[(z,fs)]).length=st.length+1:=λfs=>by rw[cX];rfl
  cases hf:De l V c z with
  | nil=>refine⟨OM hz,by show(st++[(z,[])]).length<=_;rw[sl];omega,sn [],λns e=>?_⟩;have e:GT l V c z=.ring ns:=e;unfold GT at e;split at e<;>cases e
  | cons i r=>
   obtain⟨w,ew,WU⟩:=EY (l:=l) (V:=V) (f:=Aw l V c z) (i:=i) (by show i∈De l V c z;rw[hf];exact dN);dsimp only;rw[ew];dsimp only[Option.elim];have stop:∀e:vW,Fx l V c e->(∀ns,e≠.ring ns)->xI l V c (n+1) st (e,st++[(z,i::r)]):=λe he WK=>⟨he,by show(st++[(z,i::r)]).length<=_;rw[sl];omega,sn _,λns g=>absurd g (WK ns)⟩
   have YK:∀y,HY z w.2=.inr y->xI l V c (n+1) st (wu l V c n y (way++[z]) (st++[(z,i::r)])):=λy hy=>by
    have hr:=zh (V:=V) (c:=c) ok n y (way++[z]) (st++[(z,i::r)]) (BZ ok (qp ew) hy) λx hx=>by
     rcases dW.mp hx with g|g
     .exact hw x g
     .rw[dD.mp g];exact hz
    refine⟨hr.e,by have:=hr.len;rw[sl]at this;omega,λs hs=>?_,hr.wy⟩;rcases hr.nm s hs with g|g
    .exact sn _ s g
    .exact .inr g
   cases hv:w.2 with
   | bar x ns=>exact stop _ trivial λns g=>by cases g
   | shut x ns=>exact stop _ trivial λns g=>by cases g
   | wait x=>
    rw[hv]at WU;have hf2:(if (!(z==x)||(c==x))=true then false else xj l V c z&&!(zV V z))=true:=WU;have hx:xB l.pn x:=by have:=ok.wo w (qp ew);rw[hv]at this;exact this
    by_cases g:(!(z==x)||(c==x))=true
    .rw[c9 g]at hf2;cases hf2
    rw[cY g]at hf2;simp only[gP,gB,fJ,jo,dU]at g hf2;have ezx:=eq_of_beq g.1;subst ezx;exact stop _ ⟨qG.mp hx,λy=>g.2 (by rw[y];exact eM _),hf2.2⟩ λns g=>by cases g
   | breaks x=>
    rw[hv]at WU;refine stop _ ⟨x,?_,?_⟩ λns g=>by cases g
    .have WU:GG l V x c z=true:=WU;unfold GG at WU;by_cases g:(!(c==x)||(z==x))=true
     .rw[c9 g]at WU;cases WU
     .simp only[gP,gB,fJ,jo]at g;exact(eq_of_beq g.1).symm
    .exact WU
   | always x y=>exact YK y (by rw[hv];rfl)
   | night x y f m=>exact YK y (by rw[hv];rfl)
   | busy x y=>exact YK y (by rw[hv];rfl)
   | silent x y m=>exact YK y (by rw[hv];rfl)
def Gp{l:pj}{V:pX}{x c z:Str}(h:GG l V x c z=true):∃j k,vh V z=some j/\V.calls[j]?=some k/\k.st="talks"/\z∈k.ms/\k.ms.length=2/\z≠c:=by
 unfold GG at h;by_cases g:(!(c==x)||(z==x))=true
 .rw[c9 g]at h;cases h
 rw[cY g]at h;simp only[gP,gB,fJ,jo]at g;by_cases g2:(!(hasS l.pn z)||!(xj l V c z))=true
 .rw[c9 g2]at h;cases h
 rw[cY g2]at h;cases e:vh V z with
 | none=>rw[e]at h;cases h
 | some j=>obtain⟨hj,ht,_⟩:=iw.mp e;rw[e]at h;have h:((V.calls[j]?).elim false λk=>(k.ms.length==2)&&Hq l x k.ms)=true:=h;rw[cW hj]at h;have h:((V.calls[j].ms.length==2)&&Hq l x V.calls[j].ms)=true:=h;unfold oW.mJ at ht;rw[dU]at h ht;refine⟨j,V.calls[j],rfl,cW hj,eq_of_beq ht.1,qG.mp ht.2,eq_of_beq h.1,λy=>?_⟩;rw[y]at g;have:=eq_of_beq g.1;rw[this,eM]at g;exact absurd rfl g.2
noncomputable def oW.bare(c:oW):oW:={c with way:=[]}
def sW(V V':pX):Prop:=V'.calls.map oW.bare=V.calls.map oW.bare
def sW.at_{V V':pX}(h:sW V V'){i:Nat}{c:oW}(e:V.calls[i]?=some c):∃c',V'.calls[i]?=some c'/\c'.bare=c.bare:=by
 have:=eE (·[i]?) h;simp only[dA,e]at this;cases e':V'.calls[i]? with
 | none=>rw[e']at this;cases this
 | some c'=>rw[e']at this;exact⟨c',rfl,dh this⟩
def yQ(f:oW->Bool)(hf:∀c,f c.bare=f c)(cs:List oW):(cs.map oW.bare).findIdx? f=cs.findIdx? f:=by rw[gY];congr 1;funext c;exact hf c
def sW.nk{V V':pX}(h:sW V V')(z:Str):vh V' z=vh V z:=by unfold vh;rw[<-yQ _ (λ_=>rfl) V'.calls,h,yQ _ (λ_=>rfl)]
def sW.ends{l:pj}{V V':pX}(h:sW V V')(i:Nat)(e:vW):sA l V' i e=sA l V i e:=by
 cases e with
 | breaks z=>
  unfold sA;dsimp only;rw[h.nk];have key:∀j:Nat,(V'.calls[j]?).map oW.bare=(V.calls[j]?).map oW.bare:=λj=>by
   have:=eE (·[j]?) h
   simpa only [dA]using this
  have ki:=key i;cases vh V z with
  | none=>rfl
  | some j=>
   have kj:=key j;cases e1:V.calls[i]? with
   | none=>rw[e1]at ki;rw[show V'.calls[i]?=none by cases q:V'.calls[i]? with|none=>rfl|some _=>rw[q]at ki;cases ki]
   | some c=>
    rw[e1]at ki;cases e2:V'.calls[i]? with
    | none=>rw[e2]at ki;cases ki
    | some c'=>
     rw[e2]at ki;have k1:c'.cr=c.cr:=by have kb:c'.bare=c.bare:=dh ki;exact show c'.bare.cr=c.bare.cr by rw[kb]
     have k2:(V'.calls[j]?).elim [] oW.ms=(V.calls[j]?).elim [] oW.ms:=by
      cases e3:V.calls[j]? with
      | none=>rw[e3]at kj;rw[show V'.calls[j]?=none by cases q:V'.calls[j]? with|none=>rfl|some _=>rw[q]at kj;cases kj]
      | some d=>
       rw[e3]at kj;cases e4:V'.calls[j]? with
       | none=>rw[e4]at kj;cases kj
       | some d'=>rw[e4]at kj;exact show d'.bare.ms=d.bare.ms by rw[show d'.bare=d.bare from dh kj]
     dsimp only;rw[k1,k2]
 | _=>rfl
def sW.trans{V V1 V2:pX}(h:sW V V1)(g:sW V1 V2):sW V V2:=Eq.trans g h
def yR(V:pX)(v:rE):sW V (pO V (.leg v)):=by
 show(V.calls.modify v.i (·.go v.g)).map oW.bare=V.calls.map oW.bare;cases e:V.calls[v.i]? with
 | none=>rw[kz (by simpa using e)]
 | some c=>rw[sU e,me,show(c.go v.g).bare=c.bare from rfl,F6 (by rw[dA,e];rfl)]
def C7(V:pX)(i:Nat)(z:Str)(ns:List Nat):sW V (pO V (.asks i z ns)):=rfl
def sW.len{V V':pX}(h:sW V V'):V'.calls.length=V.calls.length:=by
 have:=eE List.length h
 rwa [cT,cT]at this
noncomputable def Gi:Option Str->sZ->Option Str
 | o,[]=>o
 | _,(z,_)::r=>Gi (some z) r
noncomputable def Uc(i:Nat)(z:Str)(fs:List Nat):Option Str->List Ev
 | none=>[.asks i z fs]
 | some y=>[.leg ⟨i,y,z,y⟩,.asks i z fs]
theorem yD(i:Nat)(z:Str)(fs:List Nat):∀(st:sZ) (o:Option Str),rQ i o (st++[(z,fs)])=rQ i o st++Uc i z fs (Gi o st)
 | [],none=>rfl
 | [],some _=>rfl
 | (y,gs)::r,none=>by show .asks i y gs::rQ i (some y) (r++[(z,fs)])=_;rw[yD i z fs r];rfl
 | (y,gs)::r,some u=>by show .leg ⟨i,u,y,u⟩::.asks i y gs::rQ i (some y) (r++[(z,fs)])=_;rw[yD i z fs r];rfl
theorem BX(z:Str)(fs:List Nat):∀(st:sZ) (o:Option Str),Gi o (st++[(z,fs)])=some z
 | [],_=>rfl
 | _::r,_=>BX z fs r _
theorem uo(i:Nat):∀(st:sZ) (o:Option Str) (V:pX),sW V (qz V (rQ i o st))
 | [],_,V=>rfl
 | (y,gs)::r,none,V=>(C7 V i y gs).trans (uo i r (some y) _)
 | (y,gs)::r,some u,V=>((yR V ⟨i,u,y,u⟩).trans (C7 _ i y gs)).trans (uo i r (some y) _)
def NU(a:Ad):qT:=λds M Q=>Mr λM0 b A V l c n i st r=>ds=[.ref b,.int ((i:Nat):Int),.ref r]/\tw a M0 M b A V l c n/\c<=1000000/\n<=8000000/\st.length<=100/\i<V.calls.length/\oy M r=some (qU st)/\r∉A.foot/\∀M' A',tw a M0 M' b A' (qz V (rQ i none st)) l c (n+2*st.length)->qE A M A' M'->Q .mC M'
def KB(a:Ad):qT:=λds M Q=>Mr λM0 b A V l c n i z ps=>ds=[.ref b,.int ((i:Nat):Int),.str z,names ps]/\tw a M0 M b A V l c n/\c<=1000000/\n<=8000000/\i<V.calls.length/\z∈l.nm/\ps≠[]/\(∀x∈ps,x∈l.mv z)/\ps.length<=100/\∀M' A',tw a M0 M' b A' (qz V (sA l V i (.rings z ps))) l c (n+2)->qE A M A' M'->Q .mC M'
def F9(l:pj)(V:pX)(i:Nat):vW->Prop
 | .rings z ps=>z∈l.nm/\ps≠[]/\(∀x∈ps,x∈l.mv z)/\ps.length<=100
 | .breaks z=>∃j k,vh V z=some j/\V.calls[j]?=some k/\i≠j/\k.ms.length=2
 | _=>True
def MU(a:Ad):qT:=λds M Q=>TJ λM0 b A V l c n i z=>ds=[.ref b,.int ((i:Nat):Int),.str z]/\tw a M0 M b A V l c n/\c<=1000000/\n<=8000000/\i<V.calls.length/\F9 l V i (.breaks z)/\∀M' A',tw a M0 M' b A' (qz V (sA l V i (.breaks z))) l c (n+2)->qE A M A' M'->Q .mC M'
def Ja(a:Ad):qT:=λds M Q=>TJ λM0 b A V l c n i e=>ds=[.ref b,.int ((i:Nat):Int),vW.d e]/\tw a M0 M b A V l c n/\c<=1000000/\n<=8000000/\i<V.calls.length/\F9 l V i e/\∀M' A',tw a M0 M' b A' (qz V (sA l V i e)) l c (n+2)->qE A M A' M'->Q .mC M'
def Oy(a:Ad):qT:=λds M Q=>TJ λM0 b A V l c n i k=>ds=[.ref b,.int ((i:Nat):Int)]/\tw a M0 M b A V l c n/\c<=1000000/\n<=7000000/\zq l V (some i)/\V.calls[i]?=some k/\∀M' A',tw a M0 M' b A' (qz V (xg l V i)) l c (n+30)->qE A M A' M'->Q .mC M'
def KH(a:Ad):qT:=λds M Q=>TJ λM0 b A V l c n y z=>ds=[.ref b,.str y,.str z]/\tw a M0 M b A V l c n/\c<1000000/\n<=6000000/\zq l (qz V [.new V.calls.length y,.leg ⟨V.calls.length,y,z,y⟩]) (some V.calls.length)/\∀M' A',tw a M0 M' b A' (qz V (EU l V y z)) l (c+1) (n+32)->qE A M A' M'->Q .mC M'
def Lv{st:sZ}{pre post:List D}{d:D}(e:pre++d::post=qU st):∃z fs,st[pre.length]?=some (z,fs)/\d=.tup [.str z,vQ fs]/\st.take (pre.length+1)=st.take pre.length++[(z,fs)]:=by
 have h:(qU st)[pre.length]?=some d:=by rw[<-e];simp
 unfold qU at h;rw[dA]at h;cases q:st[pre.length]? with
 | none=>rw[q]at h;cases h
 | some s=>rw[q]at h;refine⟨s.1,s.2,rfl,(dh h).symm,?_⟩;rw[gW,q];rfl
noncomputable def UL:Option Str->D
 | none=>.mC
 | some x=>.str x
def Og{ss:List Str}{x:Str}(h:ss.getLast?=some x):vY (ss.map D.str) (-1)=some (.str x):=by
 have hp:0<ss.length:=by cases ss with|nil=>cases h|cons _ _=>exact mf _
 unfold vY;have e:FL (ss.map D.str).length (-1)=some (ss.length - 1):=by
  rw[cT];unfold FL;have:¬((-1:Int)>=0):=by decide
  simp;omega
 rw[e];show(ss.map D.str)[ss.length - 1]?=_;rw[dA,<-jt,h];rfl
def KL(ds:List D):L3.tq ds none (some (-1:Int))=ds.dropLast:=by
 unfold L3.tq;have e:HT.sG ds.length ds.length (some (-1:Int))=ds.length - 1:=by show(if (-1:Int)<0 then((-1:Int)+(ds.length:Int)).toNat else min (-1:Int).toNat ds.length)=ds.length - 1;rw[c9 (by decide)];omega
 rw[e,HT.A5,iX,kM,List.dropLast_eq_take]
def Ov(G:Gl K mg a):Fq P w K mg base 4 a.aZ (NU a):=by
 refine fq G.aZ.toDG tE (λr u=>⟨_,(oQ (pB 3 tE rF)
 (oS (uB fu rfl (qv U2) (uT (n:=2) rfl (ql (rg 4 tE) (ql (rg 5 tE) tK)))
 (oQ (pE (pb u U3 rF)
 (oS (pD (pK v0 G.c.toCls G.k (qH G) r (pT (pC (pN oV (pN U1 (qN U3 v4 U3))))))))
 pk)
 (oQ (pD (pK v0 G.c.toCls G.k (qH G) r (pT (pC (pN oV (qN U1 v4 v5))))))
 (oS (pB 3 tE v4))))))),?_⟩)
 rintro ds M Q ⟨M0,b,A,V,l,c,n,i,st,r,rfl,cu,hc,hn,WH,hi,lr,nf,q⟩
 refine i' lr (wm (qU st) (λpre δ M'=>(∃A',tw a M0 M' b A' (qz V (rQ i none (st.take pre.length))) l c (n+2*pre.length)/\qE A M A' M')/\∃y4 y5,δ=[some (.ref b),some (.int ((i:Nat):Int)),some (.ref r),some (UL (Gi none (st.take pre.length))),y4,y5]) (λpre δ M' j=>?_) _ [] _ _ rfl ⟨⟨A,cu,.refl⟩,none,none,rfl⟩ ?_ ?_)
 .obtain⟨⟨A',c1,WY⟩,_⟩:=j;exact rk (WY.1 r _ nf (pJ lr))
 .rintro pre d post e δ M' ⟨⟨A',c1,WY⟩,y4,y5,rfl⟩ nx Wy
  obtain⟨z,fs,es,rfl,et⟩:=Lv e;have hp:pre.length<100:=dH (cV.mp es).1 WH;rw[cX,dQ,et,yD,BX]at Wy;have len:∀es,sW V (qz V es)->i<(qz V es).calls.length:=λes h=>by rw[h.len];exact hi
  have W9:=len _ (uo i (st.take pre.length) none V);generalize hV:qz V (rQ i none (st.take pre.length))=V1 at c1 W9;rw[sf,hV]at Wy;refine⟨rfl,?_⟩;dsimp only[ud,zR,Fs];have asks:∀(M2:Mp) (A2:so) (V2:pX) (m:Nat) (y3:Option D),m<9000000->tw a M0 M2 b A2 V2 l c m->qE A M A2 M2->(∀M3 A3,tw a M0 M3 b A3 (pO V2 (.asks i z fs)) l c (m+1)->qE A M A3 M3->nx [some (.ref b),some (.int ((i:Nat):Int)),some (.ref r),some (.str z),some (.str z),some (vQ fs)] M3)->zS (M2 b) λC fs'=>fs'.lookup ("apply":Str)=none/\∃sp,(C=a.c/\sp=vB a)/\4<=sizeLine/\sp [.ref b,.tup [.str "asks",.int ((i:Nat):Int),.str z,vQ fs]] M2 λ_ M3=>nx [some (.ref b),some (.int ((i:Nat):Int)),some (.ref r),some (.str z),some (.str z),some (vQ fs)] M3:=λM2 A2 V2 m y3 hm c2 s2 k=>oR c2.at_ ⟨rfl,_,⟨rfl,rfl⟩,by rw[dM];decide,b,A2,V2,.asks i z fs,rfl,c2.b,c2.bd,c2.lim hc hm,trivial,λM3 A3 eb s3 bd=>k M3 A3 (c2.after trivial eb s3 bd) (s2.trans s3)⟩;cases hl:Gi none (st.take pre.length)with
  | none=>rw[hl]at Wy;refine asks M' A' V1 _ none (by omega) c1 WY λM3 A3 c3 s3=>Wy _ _ ⟨⟨A3,c3.mono (dg _) (by omega),s3⟩,_,_,rfl⟩
  | some y=>rw[hl]at Wy;refine oR c1.at_ ⟨rfl,_,⟨rfl,rfl⟩,oO rfl,b,A',V1,.leg ⟨i,y,z,y⟩,rfl,c1.b,c1.bd,c1.lim hc (by omega),W9,λM2 A2 eb s2 bd=>?_⟩;have c2:=c1.after (e:=.leg ⟨i,y,z,y⟩) W9 eb s2 bd;refine asks M2 A2 _ _ none (by omega) c2 (WY.trans s2) λM3 A3 c3 s3=>Wy _ _ ⟨⟨A3,c3.mono (dg _) (by omega),s3⟩,_,_,rfl⟩
 .rintro δ M' ⟨⟨A',c1,WY⟩,_⟩
  have hl:(qU st).length=st.length:=by unfold qU;rw[cT]
  rw[hl,fN]at c1;exact⟨M',.refl,q M' A' c1 WY⟩
def Lf(G:Gl K mg a):Fq P w K mg base 4 a.a0 (KB a):=by
 refine fq G.a0.toDG uj (λr u=>⟨_,(oQ (pE (pb u (pK (oX v0) G.h.toCls G.aJ (xE G) r (pT U2)) oV)
 (oQ (pB 4 uj (pK (oX v0) G.h.toCls G.V (tT G) r (pT U2)))
 (oQ (pB 5 uj (pM (pM (xm v4 (pT (pz U3 oU))) oU) (pH qk rfl G.g qc (pT v4))))
 (oS (pD (pK v0 G.c.toCls G.k (qH G) r (pT (pC (qN oV U2 v5))))))))
 pk)
 (oS (pD (pK v0 G.c.toCls G.k (qH G) r (pT (pC (qN oV U1 U3))))))),?_⟩)
 rintro ds M Q ⟨M0,b,A,V,l,c,n,i,z,ps,rfl,cu,hc,hn,hi,hz,WK,hm,hps,q⟩
 obtain⟨ph,gr,ws,XS,pr,gd,rs,i1,_⟩:=cu.pl;have pl:=cu.pl;obtain⟨x,ps',rfl⟩:=fD WK;obtain⟨⟨pne,_⟩,_⟩:=cu.ok.of hz;refine SU (t:=NX _ _ _) (λδ M'=>(∃A',tw a M0 M' b A' (qz V (if (l.mF z=="turns")=true then[.next z (Qx (l.mv z) x)]else[])) l c (n+1)/\qE A M A' M')/\∃y1 y2,δ=[some (.ref b),some (.int ((i:Nat):Int)),some (.str z),some (names (x::ps')),y1,y2]) (λnx h=>?_) ?_
 .refine oR cu.at_ (i' rfl (oR i1 ⟨rfl,_,⟨rfl,rfl⟩,V.p,z,l,rfl,pl,?_⟩));refine qr (c:=l.mF z=="turns") (λg=>?_) (λg=>?_)
  .rw[c9 g]at h;refine oR cu.at_ (i' rfl (oR i1 ⟨rfl,_,⟨rfl,rfl⟩,V.p,z,l,rfl,pl,λp hp=>?_⟩));have t:=qh.new (c:=.lst ((l.mv z).map D.str)) hp;have lp:=@o9 M p ((l.mv z).map D.str);have cu':=cu.sub t;have st0:qE A M A (oZ M p (.lst ((l.mv z).map D.str))):=.sub t;generalize oZ M p (.lst ((l.mv z).map D.str))=M1 at t lp cu' st0 ⊢;have ej:=EF x (l.mv z) (hm x dN);have lpos:0<(l.mv z).length:=fA.mpr pne;have el:(((l.mv z).map D.str).length:Int)=(l.mv z).length:=by rw[cT]
   refine⟨by show(oy M1 p).isSome=true;rw[lp];rfl,i' (wO _ _) (i' lp ⟨rfl,qe _,i' ej (i' lp ⟨by rw[el];omega,?_⟩)⟩)⟩;rw[el];refine oR cu'.at_ ⟨rfl,_,⟨rfl,rfl⟩,oO rfl,b,A,V,.next z (Qx (l.mv z) x),rfl,cu'.b,cu'.bd,cu'.lim hc (by omega),trivial,λM2 A2 eb st XB=>?_⟩;exact h _ _ ⟨⟨A2,cu'.after (e:=.next z (Qx (l.mv z) x)) trivial eb st XB,st0.trans st⟩,_,_,rfl⟩
  .rw[cY g]at h;exact h _ _ ⟨⟨A,cu.mono (dg _) (by omega),.refl⟩,_,_,rfl⟩
 rintro δ M1 ⟨⟨A1,c1,WY⟩,y1,y2,rfl⟩
 have q:∀M' A',tw a M0 M' b A' (qz V ((if (l.mF z=="turns")=true then[.next z (Qx (l.mv z) x)]else[])++[.rings i (x::ps')])) l c (n+2)->qE A M A' M'->Q .mC M':=q;rw[sf]at q;have W9:i<(qz V (if (l.mF z=="turns")=true then[.next z (Qx (l.mv z) x)]else[])).calls.length:=by
  split
  .exact hi
  .exact hi
 generalize qz V (if (l.mF z=="turns")=true then[.next z (Qx (l.mv z) x)]else[])=V1 at c1 q W9;refine oR c1.at_ ⟨rfl,_,⟨rfl,rfl⟩,oO rfl,b,A1,V1,.rings i (x::ps'),rfl,c1.b,c1.bd,c1.lim hc (by omega),⟨W9,hps⟩,λM2 A2 eb WC XB=>?_⟩;exact⟨M2,.refl,q M2 A2 (c1.after (e:=.rings i (x::ps')) ⟨W9,hps⟩ eb WC XB) (WY.trans WC)⟩
def KZ(G:Gl K mg a):Fq P w K mg base 4 a.a1 (MU a):=by
 refine fq G.a1.toDG xA (λr u=>⟨_,(oQ (pB 3 xA (pK v0 G.c.toCls G.Q (yy G) r (pT U2)))
 (oQ (pB 4 xA (pM (qg tS rfl G.H tW (pT (oX (pz (oX v0) U3)))) (pC (pT (oX (pz (oX v0) U1))))))
 (oS (pD (pK v0 G.c.toCls G.k (qH G) r (pT (pC (pN oV (qN U1 U3 v4))))))))),?_⟩)
 rintro ds M Q ⟨M0,b,A,V,l,c,n,i,z,rfl,cu,hc,hn,hi,⟨j,k,ej,ek,Xf,Yr⟩,q⟩
 have hz:=dM;have ei:V.calls[i]?=some V.calls[i]:=cW hi;generalize V.calls[i]=ci at ei;obtain⟨ka,qi⟩:=cu.call ei;obtain⟨kb,qj⟩:=cu.call ek;obtain⟨ad,md,h1,h2,h3,h4,_⟩:=qi.cell;obtain⟨ad',md',g1,g2,g3,g4,_⟩:=qj.cell;have Zz:sA l V i (.breaks z)=[.merge i j (k.ms++[ci.cr])]:=by unfold sA;dsimp only;rw[ej,ei];dsimp only;rw[ek];rfl
 rw[Zz]at q;have ok:(Ev.merge i j (k.ms++[ci.cr])).ok V:=⟨hi,(cV.mp ek).1,Xf,by rw[cX,Yr];show 3<=100;decide⟩;refine oR cu.at_ ⟨rfl,_,⟨rfl,rfl⟩,A,V,z,by rw[cu.b],cu.bd,dY cu.sz.ca hc,?_⟩;rw[show Aa V z=.int (j:Nat)from by unfold Aa;rw[ej];rfl];refine oR cu.at_ (i' rfl (i' rfl (i' cu.bd.ca (i' (qx qj.e1) (oR g1 (i' rfl (i' g4 ?_)))))));refine oR cu.at_ (i' rfl (i' rfl (i' cu.bd.ca (i' (qx qi.e1) (oR h1 (i' rfl ⟨oO rfl,?_⟩))))));refine⟨(by intro y;rw[List.map_eq_nil_iff]at y;rw[y]at Yr;cases Yr),(by rw[cT,Yr];show 2+1<=sizeLine;omega),?_⟩;rw[show k.ms.map D.str++[D.str ci.cr]=(k.ms++[ci.cr]).map D.str by rw[dP];rfl];refine oR cu.at_ ⟨rfl,_,⟨rfl,rfl⟩,oO rfl,b,A,V,.merge i j (k.ms++[ci.cr]),rfl,cu.b,cu.bd,cu.lim hc (by omega),ok,λM2 A2 eb WC XB=>?_⟩;exact⟨M2,.refl,q M2 A2 ((cu.after ok eb WC XB).mono (dg _) (by omega)) WC⟩
def Pq(G:Gl K mg a):Fq P w K mg base 5 a.a2 (Ja a):=by
 refine fq G.a2.toDG xb (λr u=>⟨_,(oQ (pB 3 xb (pz U2 oU))
 (oS (pE (pb u U3 oV)
 (oS (pD (pq (Lf G) r G.a0 (pN v0 (qN U1 (pz U2 oU) (pz U2 oU))))))
 (oS (pE (pb u U3 oV)
 (oS (pD (pK v0 G.c.toCls G.k (qH G) r (pT (pC (qN oV U1 (pz U2 oU)))))))
 (oS (pE (pb u U3 oV)
 (oS (pD (pq (KZ G) r G.a1 (qN v0 U1 (pz U2 oU)))))
 (oS (pD (pK v0 G.c.toCls G.k (qH G) r (pT (pC (qN oV U1 U3))))))))))))),?_⟩)
 rintro ds M Q ⟨M0,b,A,V,l,c,n,i,e,rfl,cu,hc,hn,hi,he,q⟩
 have one:∀(ev:Ev) (ok:ev.ok V),ev.nw=0->sA l V i e=[ev]->∀M2 A2,A2.b=A.b->qE A M A2 M2->pA a M2 A2 (pO V ev)->∃Wq,qh Wq M2/\Q .mC Wq:=λev ok h0 h1 M2 A2 eb WC XB=>by rw[h1]at q;have c2:=cu.after ok eb WC XB;rw[h0]at c2;exact⟨M2,.refl,q M2 A2 (c2.mono (dg _) (by omega)) WC⟩
 cases e with
 | rings z ps=>exact⟨M0,b,A,V,l,c,n,i,z,ps,rfl,cu,hc,hn,hi,he.1,he.2.1,he.2.2.1,he.2.2.2,λM' A' c1 st=>⟨M',.refl,q M' A' c1 st⟩⟩
 | waits z=>exact oR cu.at_ ⟨rfl,_,⟨rfl,rfl⟩,oO rfl,b,A,V,.waits i z,rfl,cu.b,cu.bd,cu.lim hc (by omega),hi,one (.waits i z) hi rfl rfl⟩
 | breaks z=>exact⟨M0,b,A,V,l,c,n,i,z,rfl,cu,hc,hn,hi,he,λM' A' c1 st=>⟨M',.refl,q M' A' c1 st⟩⟩
 | engaged z=>exact oR cu.at_ ⟨rfl,_,⟨rfl,rfl⟩,oO rfl,b,A,V,.over i "engaged",rfl,cu.b,cu.bd,cu.lim hc (by omega),hi,one (.over i "engaged") hi rfl rfl⟩
 | barred=>exact oR cu.at_ ⟨rfl,_,⟨rfl,rfl⟩,oO rfl,b,A,V,.over i "barred",rfl,cu.b,cu.bd,cu.lim hc (by omega),hi,one (.over i "barred") hi rfl rfl⟩
 | ring ns=>exact oR cu.at_ ⟨rfl,_,⟨rfl,rfl⟩,oO rfl,b,A,V,.over i "ring",rfl,cu.b,cu.bd,cu.lim hc (by omega),hi,one (.over i "ring") hi rfl rfl⟩
def KJ{l:pj}{V:pX}{i:Nat}{k:oW}{e:vW}(ok:rf l)(wf:zq l V (some i))(hk:V.calls[i]?=some k)(h:Fx l V k.cr e):F9 l V i e:=by
 cases e with
 | rings z ps=>obtain⟨hz,WK,rfl⟩:=h;have h1:=(Gm (l:=l) (V:=V) (c:=k.cr) (z:=z));have h2:=(ok.of hz).1.2.1;exact⟨hz,WK,λx hx=>(h1.1 x hx).2,by have:=h1.2;omega⟩
 | breaks z=>
  obtain⟨x,rfl,hb⟩:=h;obtain⟨j,d,e1,e2,e3,e4,e5,_⟩:=Gp hb;refine⟨j,d,e1,e2,λy=>?_,e5⟩;subst y;rw[hk]at e2;cases e2;have sh:=(wf.ok i k hk).sh;rw[show(some i==some i)=true from eM _]at sh;rcases sh with g|g
  .rw[g.1]at e3;exact absurd e3 (by decide)
  .cases g.1
 | _=>trivial
def IE(G:Gl K mg a):Fq P w K mg base 9 a.aa (Oy a):=by
 refine fq G.aa.toDG vR (λr u=>⟨_,(oQ (pB 2 vR (pz (oX v0) U1))
 (oQ (pB 3 vR (pq (Mf G) r G.aT (pN v0 (qN (oX U2) (pz (oX U2) (Fe oU)) (rR (oX U2) sV (se (Fe oU)))))))
 (oQ (pB 4 vR (pz U3 oU))
 (oQ (pB 5 vR (pz U3 oU))
 (oQ (pD (pq (Ov G) r G.aZ (qN v0 U1 v5)))
 (oQ (pE (W3.b3 (vF (pb u (pz v4 oU) oV) (vj (pb u (pH qk rfl G.g qc (pT v5)) oU))))
 (oQ (pB 6 vR (pz (pz v5 (Fe oU)) oU))
 (oS (pD (pK v0 G.c.toCls G.k (qH G) r (pT (pC (pN oV (pN U1 (qN v6 (pz (pz v4 oU) oU) v6)))))))))
 pk)
 (oS (pD (pq (Pq G) r G.a2 (qN v0 U1 v4)))))))))),?_⟩)
 rintro ds M Q ⟨M0,b,A,V,l,c,n,i,k,rfl,cu,hc,hn,wf,hk,q⟩
 obtain⟨ka,ci⟩:=cu.call hk;obtain⟨ad,md,h1,h2,h3,h4,n1,n2⟩:=ci.cell;have Xm:=wf.ok i k hk;have hi:=(cV.mp hk).1;obtain⟨z,hz⟩:∃z,k.way.getLast?=some z:=by
  cases e:k.way.getLast? with
  | none=>exact absurd (gF.mp e) Xm.wy.1
  | some z=>exact⟨z,rfl⟩
 have Xl:z∈l.nm:=Xm.wy.2 z (iO hz);have hdn:∀x∈k.way.dropLast,x∈l.nm:=λx hx=>Xm.wy.2 x (iP _ hx);have hwl:=(cu.sz.cs k (qp hk)).1;have hev:xg l V i=rQ i none (uG l V k.cr z k.way.dropLast).2++(tZ i (uG l V k.cr z k.way.dropLast).2 (uG l V k.cr z k.way.dropLast).1++sA l V i (uG l V k.cr z k.way.dropLast).1):=by
  unfold xg;rw[hk];have:k.way.getLastD Str.empty=z:=by rw[ic,hz];rfl
  dsimp only[Option.elim];rw[this]
 rw[hev]at q;have ro:xI l V k.cr (l.nm.length+1) [] (uG l V k.cr z k.way.dropLast):=zh cu.ok _ _ _ _ Xl hdn;have rl:=ro.len;have eo:=KJ cu.ok wf hk ro.e;have nl:l.nm.length<=11:=by have p8:=cu.ok.p8;have g3:=cu.ok.g3;unfold pj.nm pj.pn pj.gn;rw[cX,cT,cT];omega
 have re:=ro.e;refine SU (t:=FR _ _) (λδ M'=>M=M'/\δ=[some (.ref b),some (.int ((i:Nat):Int)),some (.ref ka.p),none,none,none,none]) (λnx0 h=>oR cu.at_ (i' rfl (i' rfl (i' ci.bd.ca (i' (qx ci.e1) (h _ _ ⟨rfl,rfl⟩)))))) ?_
 rintro δ _ ⟨rfl,rfl⟩
 refine SU (t:=FR _ _) (λδ M'=>qh M M'/\∃r,M r=none/\oy M' r=some (qU (uG l V k.cr z k.way.dropLast).2)/\δ=[some (.ref b),some (.int ((i:Nat):Int)),some (.ref ka.p),some (.tup [(uG l V k.cr z k.way.dropLast).1.d,.ref r]),none,none,none]) (λnx0 h=>?_) ?_
 .refine oR h1 (i' rfl (oR h1 (i' rfl (i' h2 (i' (Og hz) (oR h1 (i' rfl (i' h2 λp hp=>?_))))))));rw[show L3.tq (k.way.map D.str) none (some (-1:Int))=k.way.dropLast.map D.str from(KL _).trans (List.map_dropLast).symm];have t:=qh.new (c:=.lst (k.way.dropLast.map D.str)) hp;have lp:=@o9 M p (k.way.dropLast.map D.str);refine⟨A,V,l,k.cr,z,p,k.way.dropLast,by rw[cu.b],(cu.rd hc wf).sub t,Xl,wf.nx,lp,by rw[List.length_dropLast];omega,λr M' s hr lr=>?_⟩;exact h _ _ ⟨t.trans s,r,t.none hr,lr,rfl⟩
 rintro δ M1 ⟨s1,r,hr,lr,rfl⟩
 generalize uG l V k.cr z k.way.dropLast=R at lr ro rl eo re q;obtain⟨e,st⟩:=R;have cu1:=cu.sub s1;have rl:st.length<=0+(l.nm.length+1):=rl;refine⟨M0,b,A,V,l,c,n,i,st,r,rfl,cu1,hc,by omega,by omega,hi,lr,cu.bd.nj hr,λM2 A2 c2 WC=>?_⟩;have same:=uo i st none V;have Xt:i<(qz V (rQ i none st)).calls.length:=by rw[same.len];exact hi
 have Y2:oy M2 r=some (qU st):=rk (WC.1 r _ (cu.bd.nj hr) (pJ lr));rw[sf,sf]at q;have Zz:=λV' (h:sW V V')=>h.ends (l:=l) i e;have hat:∀V',sW V V'->F9 l V' i e:=λV' h=>by
  cases e with
  | breaks z'=>obtain⟨j,d,a1,a2,a3,a4⟩:=eo;obtain⟨d',b1,b2⟩:=h.at_ a2;exact⟨j,d',by rw[h.nk];exact a1,b1,a3,by rw[show d'.ms=d.ms from show d'.bare.ms=d.bare.ms by rw[b2]];exact a4⟩
  | rings _ _=>exact eo
  | _=>trivial
 generalize qz V (rQ i none st)=V2 at c2 Xt same q;have Xn:∀(M3:Mp) (A3:so) (V3:pX),tw a M0 M3 b A3 V3 l c (n+2*st.length+1)->qE A M A3 M3->sW V V3->i<V3.calls.length->V3=qz V2 (tZ i st e)->Ja a [.ref b,.int ((i:Nat):Int),e.d] M3 λ_ M'=>∃Wq,qh Wq M'/\Q .mC Wq:=λM3 A3 V3 c3 s3 Xo hi3 e3=>⟨M0,b,A3,V3,l,c,_,i,e,rfl,c3,hc,by omega,hi3,hat V3 Xo,λM4 A4 c4 s4=>⟨M4,.refl,q M4 A4 (by
  rw[<-e3];rw[Zz V3 Xo]at c4;exact c4.mono (dg _) (by omega)) (s3.trans s4)⟩⟩
 have c2':=c2.mono (dg c) (show n+2*st.length<=n+2*st.length+1 by omega);have XC:=(qE.sub s1 (A:=A)).trans WC;cases e with
 | ring ns=>
  obtain⟨x,ns',rfl⟩:=fD (show ns≠[]from re);refine i' Y2 ?_;cases hl:st.getLast? with
  | none=>have:st=[]:=gF.mp hl;subst this;exact Xn M2 A2 V2 c2' XC same Xt rfl
  | some s0=>
   have XQ:0<st.length:=by cases st with|nil=>cases hl|cons _ _=>exact mf _
   have hd:decide ((0:Int)<((qU st).length:Int))=true:=dR (by unfold qU;rw[cT];omega);refine Av (c:=decide ((0:Int)<((qU st).length:Int))) hd ?_;have hat1:vY (qU st) (-1)=some (.tup [.str s0.1,vQ s0.2]):=by
    unfold vY;have e1:FL (qU st).length (-1)=some (st.length - 1):=by unfold qU;rw[cT];unfold FL;simp;omega
    rw[e1];show(qU st)[st.length - 1]?=_;unfold qU;rw[dA,<-jt,hl];rfl
   have hrv:tZ i st (.ring (x::ns'))=[.leg ⟨i,s0.1,x,s0.1⟩]:=by unfold tZ;dsimp only;rw[hl];rfl
   rw[hrv]at Xn;refine i' Y2 (i' hat1 ?_);refine oR c2.at_ ⟨rfl,_,⟨rfl,rfl⟩,i' (wO _ _) ⟨oO rfl,b,A2,V2,.leg ⟨i,s0.1,x,s0.1⟩,rfl,c2.b,c2.bd,c2.lim hc (by omega),Xt,λM3 A3 eb W0 bd3=>?_⟩⟩;have Xo:=same.trans (yR V2 ⟨i,s0.1,x,s0.1⟩);exact Xn M3 A3 _ (c2.after (e:=.leg ⟨i,s0.1,x,s0.1⟩) Xt eb W0 bd3) (XC.trans W0) Xo (by rw[Xo.len];exact hi) rfl
 | rings z' ps=>exact Xn M2 A2 V2 c2' XC same Xt rfl
 | waits z'=>exact Xn M2 A2 V2 c2' XC same Xt rfl
 | breaks z'=>exact Xn M2 A2 V2 c2' XC same Xt rfl
 | engaged z'=>exact Xn M2 A2 V2 c2' XC same Xt rfl
 | barred=>exact Xn M2 A2 V2 c2' XC same Xt rfl
def Ll(G:Gl K mg a):Fq P w K mg base 10 a.a3 (KH a):=by
 refine fq G.a3.toDG zo (λr u=>⟨_,(oQ (pB 3 zo (pH qk rfl G.g qc (pT (oX v0))))
 (oQ (pD (pK v0 G.c.toCls G.k (qH G) r (pT (pC (qN oV U3 U1)))))
 (oQ (pD (pK v0 G.c.toCls G.k (qH G) r (pT (pC (pN oV (pN U3 (qN U1 U2 U1)))))))
 (oS (pD (pq (IE G) r G.aa (rB v0 U3))))))),?_⟩)
 rintro ds M Q ⟨M0,b,A,V,l,c,n,y,z,rfl,cu,hc,hn,wf,q⟩
 have lc:((A.cs.map λk=>D.ref k.p).length:Int)=(V.calls.length:Nat):=by rw[cT,cu.bd.len]
 refine oR cu.at_ (i' rfl (i' cu.bd.ca ?_));rw[lc];refine oR cu.at_ ⟨rfl,_,⟨rfl,rfl⟩,oO rfl,b,A,V,.new V.calls.length y,rfl,cu.b,cu.bd,cu.lim (by omega) (by omega),trivial,λM1 A1 eb1 WY bd1=>?_⟩;have c1:=cu.after (e:=.new V.calls.length y) trivial eb1 WY bd1;have ok2:(Ev.leg ⟨V.calls.length,y,z,y⟩).ok (pO V (.new V.calls.length y)):=by show V.calls.length<(V.calls++[yF y]).length;rw[cX];exact fv _
 refine oR c1.at_ ⟨rfl,_,⟨rfl,rfl⟩,oO rfl,b,A1,_,.leg ⟨V.calls.length,y,z,y⟩,rfl,c1.b,c1.bd,c1.lim (by show c+1<=_;omega) (by omega),ok2,λM2 A2 Yf WC XB=>?_⟩;have c2:=c1.after ok2 Yf WC XB;obtain⟨k,hk⟩:∃k,(qz V [.new V.calls.length y,.leg ⟨V.calls.length,y,z,y⟩]).calls[V.calls.length]?=some k:=by
  have:V.calls.length<(qz V [.new V.calls.length y,.leg ⟨V.calls.length,y,z,y⟩]).calls.length:=by show V.calls.length<((V.calls++[yF y]).modify _ _).length;rw[eU];exact ok2
  exact⟨_,cW this⟩
 refine⟨M0,b,A2,_,l,c+1,n+2,V.calls.length,k,rfl,c2,by omega,by omega,wf,hk,λM3 A3 c3 W0=>⟨M3,.refl,q M3 A3 ?_ (WY.trans (WC.trans W0))⟩⟩;unfold EU;rw[sf];exact c3.mono (dg _) (by omega)
noncomputable def EJ(V:pX)(x:Str):D:=Gu (ui V x)
abbrev Dy:=J4 EJ
def Kh(a:Ad):qT:=λds M Q=>GC λA V l x z=>ds=[.ref A.b,.str x,.str z]/\Rd a M A V l/\x∈l.pn/\Q (Gu (FZ l V x z)) M
inductive vA(a:Ad)(M:Mp)(L:List Addr):List qV->List oW->Prop
 | nil:vA a M L [] []
 | cons (k:qV) (c:oW) (ks:List qV) (cs:List oW) (h:rm a M L k c) (r:vA a M L ks cs):vA a M L (k::ks) (c::cs)
def tP.nf(w:Str)(m:Nat):Prop:=((w="answer"\/w="hang"\/w="hold"\/w="back")/\m=1)\/((w="hand"\/w="join")/\m=2)
def Ld(a:Ad):qT:=λds M Q=>Ij λwd x r L ks cs=>ds=[.str wd,.str x,.ref r]/\oy M r=some (List.map (λk:qV=>D.ref k.p) ks)/\vA a M L ks cs/\tP.nf wd cs.length/\Q (.bl (IR wd x cs)) M
def Ii(a:Ad):qT:=λds M Q=>Ij λA V l wd x ns=>ds=[.ref A.b,.str wd,.str x,.tup (List.map D.int ns)]/\Rd a M A V l/\x∈l.pn/\tP.nf wd ns.length/\Q (Gu (Ma l V wd x ns)) M
def RH(a:Ad):qT:=λds M Q=>AU λA V b i=>ds=[.ref A.b,.str (TC b),.int i]/\pA a M A V/\Q (Gu (OG V b i)) M
def GQ(a:Ad):qT:=λds M Q=>AU λA V l e=>ds=[.ref A.b,tP.d e]/\Rd a M A V l/\e.ng/\Q (Gu (xu l V e)) M
noncomputable def VY(m:Nat):D->D
 | .int i=>.bl (zd m i)
 | _=>.bl false
noncomputable def VX(A:so):D->D
 | .int i=>(A.cs[i.toNat]?).elim .mC λk=>.ref k.p
 | _=>.mC
theorem Qb{a:Ad}{M:Mp}{A:so}{V:pX}(bd:pA a M A V):∀{ns:List Int},ns.all (zd V.calls.length)=true->∃ks,vA a M (A.lists++V.fo) ks (sT V ns)/\(ns.map D.int).map (VX A)=ks.map (λk:qV=>D.ref k.p)/\(sT V ns).length=ns.length/\∀i∈ns,∃k,0<=i/\A.cs[i.toNat]?=some k
 | [],_=>⟨[],.nil,rfl,rfl,λi hi=>by cases hi⟩
 | i::r,h=>by
  rw[ft,dU]at h;obtain⟨ks,h1,h2,h3,h4⟩:=Qb bd h.2;have hh:(decide (0<=i)&&decide (i<V.calls.length))=true:=h.1;rw[dU,eB,eB]at hh;have hi:i.toNat<V.calls.length:=by omega
  have hk:i.toNat<A.cs.length:=by rw[bd.len];exact hi
  have e1:A.cs[i.toNat]?=some A.cs[i.toNat]:=cW hk;have e2:V.calls[i.toNat]?=some V.calls[i.toNat]:=cW hi;have ec:sT V (i::r)=V.calls[i.toNat]::sT V r:=by unfold sT;rw[List.filterMap_cons_some (f:=λi:Int=>V.calls[i.toNat]?) e2]
  rw[ec];refine⟨A.cs[i.toNat]::ks,.cons _ _ _ _ (bd.cs _ _ _ e1 e2) h1,?_,eE Nat.succ h3,λj hj=>?_⟩
  .rw[dS,dS,h2];show(A.cs[i.toNat]?).elim _ _::_=_;rw[e1];rfl
  .rcases df.mp hj with rfl|hj
   .exact⟨_,hh.1,e1⟩
   .exact h4 j hj
def vA.sub{a:Ad}{M M':Mp}{L:List Addr}{ks:List qV}{cs:List oW}(h:vA a M L ks cs)(s:qh M M'):vA a M' L ks cs:=by
 induction h with
 | nil=>exact .nil
 | cons k c ks cs h r ih=>exact .cons k c ks cs (h.sub s) ih
def Q1{bs:List Bool}{i:Int}(h:zd bs.length i=true):vY (bs.map D.bl) i=some (.bl (bs.getD i.toNat false)):=by
 have hh:(decide (0<=i)&&decide (i<bs.length))=true:=h;rw[dU,eB,eB]at hh;obtain⟨n,rfl⟩:=eh hh.1;have hn:n<bs.length:=by omega
 refine uJ ?_;rw[dA,cW hn];show some (D.bl bs[n])=some (.bl (bs.getD n false));rw[gy,cW hn];rfl
def Dz(G:Gl K mg a):Fq P w K mg base 4 a.Z (Dy a):=by
 refine fq G.Z.toDG yq (λr u=>⟨_,(oQ (pE (pb u (pK v0 G.c.toCls G.bB (L5 G) r (pT U1)) rF)
 (oS (oY oV))
 pk)
 (oQ (pE (pb u (pK v0 G.c.toCls G.bC (G8 G) r (pT U1)) rF)
 (oS (oY oV))
 pk)
 (oS (oY rF)))),?_⟩)
 rintro ds M Q ⟨A,V,x,rfl,bd,hk,q⟩
 unfold EJ ui at q;refine oR bd.at_ ⟨rfl,_,⟨rfl,rfl⟩,A,V,x,rfl,bd,hk,?_⟩;unfold K1;cases e:Ep V x with
 | some j=>rw[e]at q;exact⟨M,.refl,q⟩
 | none=>
  rw[e]at q;refine oR bd.at_ ⟨rfl,_,⟨rfl,rfl⟩,A,V,x,rfl,bd,hk,?_⟩;unfold SM;cases e:Il V x with
  | some j=>rw[e]at q;exact⟨M,.refl,q⟩
  | none=>rw[e]at q;exact⟨M,.refl,q⟩
def K4(G:Gl K mg a):Fq P w K mg base 5 a.aU (Kh a):=by
 refine fq G.aU.toDG vX (λr u=>⟨_,(oQ (pE (pb u U2 (xX (oX v0) G.h.toCls G.bA (CF G) r))
 (oS (oY oV))
 pk)
 (oQ (pB 3 vX (pq (Dz G) r G.Z (rB v0 U1)))
 (oQ (pE (W3.b3 (vF (pb u U3 rF) (vj (yz (uS (pK v0 G.c.toCls G.T (yE G) r (pT U1)))))))
 (oS (oY oV))
 pk)
 (oS (oY U3))))),?_⟩)
 rintro ds M Q ⟨A,V,l,x,z,rfl,rd,hx,q⟩
 obtain⟨ph,gr,ws,XS,pr,gd,rs,i1,_⟩:=rd.pl;have p8:=rd.ok.p8;have g3:=rd.ok.g3;unfold FZ at q;refine oR rd.bd.at_ (i' rfl (oR i1 ⟨rfl,_,⟨rfl,rfl⟩,V.p,l,rfl,rd.pl,by omega,by omega,λp hp=>i' o9 ⟨rfl,qe _,?_⟩⟩));have t:=qh.new (c:=.lst (l.nm.map D.str)) hp;have WR:=rd.sub t;generalize oZ M p (.lst (l.nm.map D.str))=M1 at t WR ⊢;show if (!(inD (.str z) (l.nm.map D.str)))=true then _ else _
 rw[rT];refine qr (c:=!(hasS l.nm z)) (λg=>?_) (λg=>?_)
 .rw[c9 (by simpa using g)]at q;exact⟨M,t,q⟩
 rw[cY (by simpa using g)]at q;refine⟨A,V,x,rfl,WR.bd,WR.k,?_⟩;unfold EJ;cases e:ui V x with
 | some w0=>rw[e]at q;exact⟨M,t,q⟩
 | none=>
  rw[e]at q;refine oR WR.bd.at_ ⟨rfl,_,⟨rfl,rfl⟩,A,V,l,x,rfl,WR,hx,?_⟩;refine qr (c:=!(tF l V x)) (λg=>?_) (λg=>?_)
  .rw[g]at q;exact⟨M,t,q⟩
  .rw[show(!(tF l V x))=false from dE.mpr g]at q;exact⟨M,t,q⟩
def Lw(G:Gl K mg a):Fq P w K mg base 3 a.aV (Ld a):=by
 refine fq G.aV.toDG Lz (λr u=>⟨_,(oQ (pE (pb u v0 oV)
 (oS (oY (pW u U1 (oX (pz U2 oU)))))
 pk)
 (oQ (pE (pb u v0 oV)
 (oS (oY (pK (pz U2 oU) G.e.toCls G.bF (Lx G) r (pT U1))))
 pk)
 (oQ (pE (pb u v0 oV)
 (oS (oY (pK (pz U2 oU) G.e.toCls G.av (GA G) r (pT U1))))
 pk)
 (oQ (pE (pb u v0 oV)
 (oS (oY (pW u (oX (pz U2 oU)) U1)))
 pk)
 (oS (oY (sJ (pW u (oX (pz U2 oU)) U1) (sj (pK (pz U2 oU) G.e.toCls G.av (GA G) r (pT U1)))))))))),?_⟩)
 rintro ds M Q ⟨wd,x,r,L,ks,cs,rfl,lr,YQ,hw,q⟩
 cases YQ with
 | nil=>rcases hw with⟨_,h⟩|⟨_,h⟩<;>cases h
 | cons k c ks cs hc W5=>
 obtain⟨ad,md,h1,h2,h3,h4,_⟩:=id hc;have a0:=wO (.ref k.p) (ks.map λk:qV=>D.ref k.p);have hold:∀K:DK,K (.bl (c.hd==some x)) M->Option.elim (yI M 9 (Gu c.hd) (.str x)) False λb=>K (.bl b) M:=λK hK=>by
  cases e:c.hd with
  | none=>rw[e]at hK;exact hK
  | some y=>rw[e]at hK;exact hK
 rcases hw with⟨rfl|rfl|rfl|rfl,h⟩|⟨hw,h⟩
 .exact i' lr (i' a0 (oR h1 (i' rfl (CV h3 ⟨M,.refl,q⟩))))
 .exact i' lr (i' a0 (oR h1 ⟨rfl,_,⟨rfl,rfl⟩,L,k,c,x,rfl,hc,M,.refl,q⟩))
 .exact i' lr (i' a0 (oR h1 ⟨rfl,_,⟨rfl,rfl⟩,L,k,c,x,rfl,hc,M,.refl,q⟩))
 .exact i' lr (i' a0 (oR h1 (i' rfl (hold _ ⟨M,.refl,q⟩))))
 .cases W5 with
  | nil=>cases h
  | cons k' d ks cs hd _=>
   obtain⟨ad',md',f1,_⟩:=id hd;have a1:vY (.ref k.p::.ref k'.p::ks.map λk:qV=>D.ref k.p) 1=some (.ref k'.p):=uJ (j:=1) rfl;have qq:Q (.bl ((c.hd==some x)&&d.mK x)) M:=by
    rcases hw with rfl|rfl
    .exact q
    .exact q
   rcases hw with rfl|rfl
   all_goals
    refine i' lr (i' a0 (oR h1 (i' rfl ?_)));cases e:c.hd with
    | none=>rw[e]at qq;exact⟨M,.refl,qq⟩
    | some y=>
     rw[e]at qq;have qq:Q (.bl ((y==x)&&d.mK x)) M:=qq;refine qr (c:=y==x) (λg=>?_) (λg=>?_)
     .rw[g,eI]at qq;exact i' lr (i' a1 (oR f1 ⟨rfl,_,⟨rfl,rfl⟩,L,k',d,x,rfl,hd,M,.refl,qq⟩))
     .rw[show(y==x)=false from dE.mpr g,eR]at qq;exact⟨M,.refl,qq⟩
def NQ(G:Gl K mg a):Fq P w K mg base 5 a.aW (Ii a):=by
 refine fq G.aW.toDG sX (λr u=>⟨_,(oQ (pE (yz (uS (pH (E9 rfl) rfl G.bN DF (pT (qw rfl (xV (ix:=[none,some 0]) (N':=["number","board"])) (qv U3) (qu 0) rC (tR u oU v0 (pH qk rfl G.g qc (pT (oX U1)))))))))
 (oS (oY oV))
 pk)
 (oQ (uQ (i:=4) sX.nd rfl (Or.inl rfl) rfl (xV (ix:=[none,some 0]) (N':=["number","board"])) (qv U3) (qu 0) rC (pz (oX U1) v0))
 (oQ (pE (yz (uS (pq (Lw G) r G.aV (qN U1 U2 v4))))
 (oS (oY oV))
 pk)
 (oQ (pE (pb u U1 (pC (rB oV oV)))
 (oS (oY rF))
 pk)
 (oQ (pB 5 sX (pq (Dz G) r G.Z (rB v0 U2)))
 (oQ (pE (W3.b3 (vF (pb u v5 rF) (vF (uS (pK (pz v4 oU) G.e.toCls G.ar (Gz G) r (pT U2))) (vj (yz (uS (pK v0 G.c.toCls G.T (yE G) r (pT U2))))))))
 (oS (oY oV))
 pk)
 (oS (oY v5)))))))),?_⟩)
 rintro ds M Q ⟨A,V,l,wd,x,ns,rfl,rd,hx,hw,q⟩
 have hz:=dM;have Y7:ns.length<=2:=by rcases hw with⟨_,h⟩|⟨_,h⟩<;>omega
 have lca:((A.cs.map λk=>D.ref k.p).length:Int)=V.calls.length:=by rw[cT,rd.bd.len]
 unfold Ma at q;refine qM (f:=VY V.calls.length) trivial _ [] _ (by rw[cT];simp only[dI];omega) (λd hd k hk=>?_) λp hp=>?_
 .obtain⟨i,_,rfl⟩:=dz.mp hd;have hk:k (.bl (decide (0<=i)&&decide (i<V.calls.length))) M:=hk;refine qr (c:=decide (0<=i)) (λg=>?_) (λg=>?_)
  .rw[g,eI]at hk;refine oR rd.bd.at_ (i' rfl (i' rd.bd.ca ?_));rw[lca];exact hk
  .rw[show decide (0<=i)=false from dE.mpr g,eR]at hk;exact hk
 have em:[]++(ns.map D.int).map (VY V.calls.length)=ns.map λi=>D.bl (zd V.calls.length i):=by rw[dX,d9];rfl
 rw[em];have t:=qh.new (c:=.lst (ns.map λi=>D.bl (zd V.calls.length i))) hp;refine i' o9 (i' (xQ (zd V.calls.length) ns) ?_);have WR:=rd.sub t;generalize oZ M p (.lst (ns.map λi=>D.bl (zd V.calls.length i)))=M1 at t WR ⊢;rw[yO];refine qr (c:=!(ns.all (zd V.calls.length))) (λg=>?_) (λW1=>?_)
 .rw[c9 (by simpa using g)]at q;exact⟨M,t,q⟩
 have W1:ns.all (zd V.calls.length)=true:=by simpa using W1
 rw[cY (by rw[W1];exact Bool.noConfusion)]at q;obtain⟨ks,hks,eks,lcs,Yh⟩:=Qb WR.bd W1;refine qM (f:=VX A) trivial _ [] _ (by rw[cT];simp only[dI];omega) (λd hd k0 hk=>?_) λp2 Ww=>?_
 .obtain⟨i,hi,rfl⟩:=dz.mp hd;obtain⟨k,i0,e1⟩:=Yh i hi;obtain⟨n,rfl⟩:=eh i0;have e1:A.cs[n]?=some k:=e1;have hk:k0 ((A.cs[n]?).elim .mC λk=>.ref k.p) M1:=hk;rw[e1]at hk;exact oR WR.bd.at_ (i' rfl (i' rfl (i' WR.bd.ca (i' (qx e1) hk))))
 rw[dX,eks];have t2:=qh.new (c:=.lst (ks.map λk:qV=>D.ref k.p)) Ww;have l2:=@o9 M1 p2 (ks.map λk:qV=>D.ref k.p);have XI:=WR.sub t2;have s2:=t.trans t2;generalize oZ M1 p2 (.lst (ks.map λk:qV=>D.ref k.p))=M2 at l2 XI s2 t2 ⊢;have hks:=hks.sub t2;generalize sT V ns=cs at hks lcs q;refine⟨wd,x,p2,_,ks,cs,rfl,l2,hks,by rw[lcs];exact hw,?_⟩;refine qr (c:=!IR wd x cs) (λg=>?_) (λg=>?_)
 .rw[c9 (by simpa using g)]at q;exact⟨M,s2,q⟩
 rw[cY (by simpa using g)]at q;have two:∀wd:Str,(wd=="answer"||wd=="back")=true->Q (Gu (if ((ui V x).isNone&&(cs.head?.elim false (λc=>c.mD x)&&!(tF l V x)))=true then some "full" else ui V x)) M->cs.length=1->Dy a [.ref A.b,.str x] M2 λdue M3=>ug (NX (OE (b3 (k3 .Is (v3 5) (c3 .mC))) (OE (b3 (Ab "waits_with" (λD s=>D=a.e/\s=vt a) (i3 (v3 4) (c3 (.int 0))) (uP (v3 2) xF))) (SC (b3 (Ab "is_free" (λD s=>D=a.c/\s=wQ a) (v3 0) (uP (v3 2) xF)))))) (QE (c3 (.str "full"))) Uy) (QE (v3 5)) {nx:=λ_ M'=>∃Wq,qh Wq M'/\Q .mC Wq,rt:=λd M'=>∃Wq,qh Wq M'/\Q d Wq} [some (.ref A.b),some (.str wd),some (.str x),some (.tup (ns.map D.int)),some (.ref p2),some due] M3:=λwd _ q hl=>by
  cases hks with
  | nil=>cases hl
  | cons k c ks cs hc _=>
  have q:Q (Gu (if ((ui V x).isNone&&(c.mD x&&!(tF l V x)))=true then some "full" else ui V x)) M:=q;obtain⟨ad,md,h1,_⟩:=id hc;refine⟨A,V,x,rfl,XI.bd,XI.k,?_⟩;unfold EJ;cases e:ui V x with
  | some w0=>rw[e]at q;exact⟨M,s2,q⟩
  | none=>
   rw[e]at q;refine i' l2 (i' (wO _ _) (oR h1 ⟨rfl,_,⟨rfl,rfl⟩,_,k,c,x,rfl,hc,?_⟩));refine qr (c:=c.mD x) (λg1=>?_) (λg1=>?_)
   .rw[g1]at q;refine oR XI.bd.at_ ⟨rfl,_,⟨rfl,rfl⟩,A,V,l,x,rfl,XI,hx,?_⟩;refine qr (c:=!(tF l V x)) (λg=>?_) (λg=>?_)
    .rw[g]at q;exact⟨M,s2,q⟩
    .rw[show(!(tF l V x))=false from dE.mpr g]at q;exact⟨M,s2,q⟩
   .rw[show c.mD x=false from dE.mpr g1]at q;exact⟨M,s2,q⟩
 rcases hw with⟨rfl|rfl|rfl|rfl,h⟩|⟨rfl|rfl,h⟩
 .exact⟨oO rfl,rfl,rfl,two "answer" rfl q (lcs.trans h)⟩
 .exact⟨oO rfl,rfl,rfl,M,s2,q⟩
 .exact⟨oO rfl,rfl,rfl,M,s2,q⟩
 .exact⟨oO rfl,rfl,rfl,two "back" rfl q (lcs.trans h)⟩
 .exact⟨oO rfl,rfl,rfl,M,s2,q⟩
 .exact⟨oO rfl,rfl,rfl,M,s2,q⟩
def Ra(G:Gl K mg a):Fq P w K mg base 1 a.aX (RH a):=by
 refine fq G.aX.toDG yB (λr u=>⟨_,(oQ (pE (yz (FS u oU U2 (pH qk rfl G.g qc (pT (oX v0)))))
 (oS (oY oV))
 pk)
 (oQ (pE (pb u (pz (oX v0) U2) (pW u U1 oV))
 (oS (oY oV))
 pk)
 (oS (oY rF)))),?_⟩)
 rintro ds M Q ⟨A,V,b,i,rfl,bd,q⟩
 unfold OG at q;have Yh:zd V.on.length i=(decide (0<=i)&&decide (i<V.on.length)):=rfl;have lon:((V.on.map D.bl).length:Int)=V.on.length:=by rw[cT]
 have no:zd V.on.length i=false->Q (.str "wish") M:=λh=>by rw[c9 h]at q;exact q
 have yes:zd V.on.length i=true->Q (Gu (if (V.on.getD i.toNat false==b)=true then some "wish" else none)) M:=λh=>by rw[h,cY Bool.noConfusion]at q;exact q
 refine qr (c:=decide (0<=i)) (λg0=>?_) (λg0=>⟨M,.refl,no (by rw[Yh,show decide (0<=i)=false from dE.mpr g0];rfl)⟩);refine oR bd.at_ (i' rfl (i' bd.on ?_));rw[lon];refine qr (c:=!(decide (i<(V.on.length:Int)))) (λg1=>⟨M,.refl,no (by rw[Yh,g0,show decide (i<(V.on.length:Int))=false by simpa using g1];rfl)⟩) (λg1=>?_);have h:zd V.on.length i=true:=by rw[Yh,g0,show decide (i<(V.on.length:Int))=true by simpa using g1];rfl
 have q:=yes h;refine oR bd.at_ (i' rfl (i' rfl (i' bd.on (i' (Q1 h) ?_))));have es:(TC b=="on")=b:=by cases b<;>rfl
 show if (V.on.getD i.toNat false==(TC b=="on"))=true then _ else _
 rw[es];refine qr (λg=>?_) (λg=>?_)
 .rw[c9 g]at q;exact⟨M,.refl,q⟩
 .rw[cY g]at q;exact⟨M,.refl,q⟩
def HB(G:Gl K mg a):Fq P w K mg base 6 a.aY (GQ a):=by
 refine fq G.aY.toDG BO (λr u=>⟨_,(oQ (pB 2 BO (pz U1 oU))
 (oQ (pE (pb u U2 oV)
 (oS (oY rF))
 pk)
 (oQ (pE (pb u U2 (pC (rB oV oV)))
 (oS (oY (pq (Ra G) r G.aX (qN v0 U2 (pz U1 oU)))))
 pk)
 (oQ (pE (pb u (pz U1 oU) (xX (oX v0) G.h.toCls G.S (tj G) r))
 (oS (oY oV))
 pk)
 (oQ (pE (pb u U2 oV)
 (oS (oY (pq (K4 G) r G.aU (qN v0 (pz U1 oU) (pz U1 oU)))))
 pk)
 (oS (oY (pq (NQ G) r G.aW (pN v0 (qN U2 (pz U1 oU) (rR U1 (se oU) sV))))))))))),?_⟩)
 rintro ds M Q ⟨A,V,l,e,rfl,rd,hf,q⟩
 obtain⟨ph,gr,ws,XS,pr,gd,rs,i1,_⟩:=rd.pl;have p8:=rd.ok.p8;cases e with
 | turn=>exact⟨M,.refl,q⟩
 | sw b i=>
  cases b with
  | true=>exact⟨oO rfl,rfl,rfl,A,V,true,i,rfl,rd.bd,M,.refl,q⟩
  | false=>exact⟨oO rfl,rfl,rfl,A,V,false,i,rfl,rd.bd,M,.refl,q⟩
 | call x z=>
  have q:Q (Gu (if hasS l.pn x=false then some "name" else FZ l V x z)) M:=q;refine⟨oO rfl,rfl,rfl,?_⟩;refine oR rd.bd.at_ (i' rfl (oR i1 ⟨rfl,_,⟨rfl,rfl⟩,V.p,l,rfl,rd.pl,by omega,λp Ww=>i' o9 ⟨rfl,qe _,?_⟩⟩));have t:=qh.new (c:=.lst (l.pn.map D.str)) Ww;have WR:=rd.sub t;generalize oZ M p (.lst (l.pn.map D.str))=M1 at t WR ⊢;show if (!(inD (.str x) (l.pn.map D.str)))=true then _ else _
  rw[rT];refine qr (c:=!(hasS l.pn x)) (λg=>?_) (λg=>?_)
  .rw[c9 (by simpa using g)]at q;exact⟨M,t,q⟩
  .have g:hasS l.pn x=true:=by simpa using g
   rw[g,cY Bool.noConfusion]at q;exact⟨A,V,l,x,z,rfl,WR,qG.mp g,M,t,q⟩
 | num wd x ns=>
  have q:Q (Gu (if hasS l.pn x=false then some "name" else Ma l V wd x ns)) M:=q;have hf:tP.nf wd ns.length:=hf;have key:∀(M1:Mp),qh M M1->if (!(inD (.str x) (l.pn.map D.str)))=true then(∃Wq,qh Wq M1/\Q (.str "name") Wq)else Ii a [.ref A.b,.str wd,.str x,.tup (ns.map D.int)] M1 λd M'=>∃Wq,qh Wq M'/\Q d Wq:=λM1 t=>by
   rw[rT];refine qr (c:=!(hasS l.pn x)) (λg=>?_) (λg=>?_)
   .rw[c9 (by simpa using g)]at q;exact⟨M,t,q⟩
   .have g:hasS l.pn x=true:=by simpa using g
    rw[g,cY Bool.noConfusion]at q;exact⟨A,V,l,wd,x,ns,rfl,rd.sub t,qG.mp g,hf,M,t,q⟩
  have one:ns.length=1->∃i,ns=[i]:=List.length_eq_one_iff.mp;have two:ns.length=2->∃i j,ns=[i,j]:=λh=>by
   match ns,h with
   | [i,j],_=>exact⟨i,j,rfl⟩
  rcases id hf with⟨rfl|rfl|rfl|rfl,h⟩|⟨rfl|rfl,h⟩
  .obtain⟨i,rfl⟩:=one h;exact⟨oO rfl,rfl,rfl,oR rd.bd.at_ (i' rfl (oR i1 ⟨rfl,_,⟨rfl,rfl⟩,V.p,l,rfl,rd.pl,by omega,λp Ww=>i' o9 ⟨rfl,qe _,key _ (.new Ww)⟩⟩))⟩
  .obtain⟨i,rfl⟩:=one h;exact⟨oO rfl,rfl,rfl,oR rd.bd.at_ (i' rfl (oR i1 ⟨rfl,_,⟨rfl,rfl⟩,V.p,l,rfl,rd.pl,by omega,λp Ww=>i' o9 ⟨rfl,qe _,key _ (.new Ww)⟩⟩))⟩
  .obtain⟨i,rfl⟩:=one h;exact⟨oO rfl,rfl,rfl,oR rd.bd.at_ (i' rfl (oR i1 ⟨rfl,_,⟨rfl,rfl⟩,V.p,l,rfl,rd.pl,by omega,λp Ww=>i' o9 ⟨rfl,qe _,key _ (.new Ww)⟩⟩))⟩
  .obtain⟨i,rfl⟩:=one h;exact⟨oO rfl,rfl,rfl,oR rd.bd.at_ (i' rfl (oR i1 ⟨rfl,_,⟨rfl,rfl⟩,V.p,l,rfl,rd.pl,by omega,λp Ww=>i' o9 ⟨rfl,qe _,key _ (.new Ww)⟩⟩))⟩
  .obtain⟨i,j,rfl⟩:=two h;exact⟨oO rfl,rfl,rfl,oR rd.bd.at_ (i' rfl (oR i1 ⟨rfl,_,⟨rfl,rfl⟩,V.p,l,rfl,rd.pl,by omega,λp Ww=>i' o9 ⟨rfl,qe _,key _ (.new Ww)⟩⟩))⟩
  .obtain⟨i,j,rfl⟩:=two h;exact⟨oO rfl,rfl,rfl,oR rd.bd.at_ (i' rfl (oR i1 ⟨rfl,_,⟨rfl,rfl⟩,V.p,l,rfl,rd.pl,by omega,λp Ww=>i' o9 ⟨rfl,qe _,key _ (.new Ww)⟩⟩))⟩
def CO(V:pX)(x:Str):Prop:=∀c∈V.calls,¬AK c x
def EO{V:pX}{x:Str}(h:ui V x=none):CO V x:=by
 unfold ui at h;cases e1:Ep V x with
 | some j=>rw[e1]at h;cases h
 | none=>
  cases e2:Il V x with
  | some j=>rw[e1,e2]at h;cases h
  | none=>
   intro c hc g;have h1:=ju.mp e1 c hc;have h2:=ju.mp e2 c hc;rcases g with g|g
   .rw[h1]at g;cases g
   .rw[h2]at g;cases g
def rX{c:oW}(h:c.st="rings"){x:Str}:AK c x↔x=c.cr:=by unfold AK oW.mS oW.mH oW.mJ;rw[h];simp(decide:=true)
def C9{c:oW}(h:c.st="waits"){x:Str}:AK c x↔x=c.cr:=by unfold AK oW.mS oW.mH oW.mJ;rw[h];simp(decide:=true)
def sS{c:oW}(h:c.st="talks"){x:Str}:AK c x↔x∈c.ms:=by unfold AK oW.mS oW.mH oW.mJ;rw[h,<-qG];simp(decide:=true)
def Ca{c:oW}(h:c.st="held"){x:Str}:AK c x↔x∈c.ms/\c.hd≠some x:=by unfold AK oW.mS oW.mH;rw[h,<-qG];simp(decide:=true)
def Fm{c:oW}(h:c.st="over"){x:Str}:¬AK c x:=by unfold AK oW.mS oW.mH oW.mJ;rw[h];simp(decide:=true)
def sd{c:oW}(h:c.st="rings"){x:Str}:c.hasB x=true↔x=c.cr\/x∈c.at_:=by unfold oW.hasB;rw[h,<-qG];simp(decide:=true)
def C5{c:oW}(h:c.st="waits"){x:Str}:c.hasB x=true↔x=c.cr:=by unfold oW.hasB;rw[h];simp(decide:=true)
def sy{c:oW}(h:c.st="talks"\/c.st="held"){x:Str}:c.hasB x=true↔x∈c.ms:=by unfold oW.hasB;rw[<-qG];rcases h with h|h<;>(rw[h];simp(decide:=true))
def F2{c:oW}(h:c.st="over"){x:Str}:c.hasB x=false:=by unfold oW.hasB;rw[h];simp(decide:=true)
def rH{c:oW}{x:Str}:c.mD x=true↔c.st="waits"/\x∈c.at_:=by unfold oW.mD;rw[dU,fk,qG]
theorem D9{α:Type}(f:α->Bool):∀{l:List α} {i:Nat} {c:α} (c':α),l[i]?=some c->((l.set i c').filter f).length+(if f c=true then 1 else 0)=(l.filter f).length+(if f c'=true then 1 else 0)
 | [],_,_,_,h=>by simp at h
 | x::r,0,c,c',h=>by cases h;rw[List.set_cons_zero,gH,gH];split<;>split<;>simp
 | x::r,i+1,c,c',h=>by
  have ih:=D9 f (l:=r) (i:=i) (c:=c) c' (by simpa using h);rw[kS,gH,gH];split
  .rw[d6,d6];omega
  .exact ih
def zq.set{l:pj}{V V':pX}{o o':Option Nat}{i:Nat}{c c':oW}(h:zq l V o)(e:V'.calls=V.calls.set i c')(hc:V.calls[i]?=some c)(ho:∀j,j≠i->(o==some j)=(o'==some j))(ok:uU l (o'==some i) c')(he:∀x,AK c' x->AK c x\/CO V x)(hu:∀x,c'.hasB x=true->c.hasB x=true\/(uH V x:Int)<wx l x)(hw:∀x,c'.mD x=true->c.mD x=true\/zV V x=false)(nx:uq l V'):zq l V' o':=by
 have si:∀{j:Nat} {d:oW},V'.calls[j]?=some d->(j=i/\d=c')\/(j≠i/\V.calls[j]?=some d):=λ{j d} g=>by rw[e]at g;exact(EE g).imp (λg=>⟨g.1,g.2.1⟩) id
 have key:∀(j:Nat) cj x,j≠i->V.calls[j]?=some cj->AK c' x->AK cj x->False:=λj cj x hj e1 g1 g2=>by
  rcases he x g1 with z|z
  .exact hj (h.un j i cj c x e1 hc g2 z)
  .exact z cj (qp e1) g2
 have keyw:∀(j:Nat) cj x,j≠i->V.calls[j]?=some cj->c'.mD x=true->cj.mD x=true->False:=λj cj x hj e1 g1 g2=>by
  rcases hw x g1 with z|z
  .exact hj (h.wt j i cj c x e1 hc g2 z)
  .unfold zV at z;exact absurd g2 (by rw[kW.mp z cj (qp e1)|>dE.mpr];exact Bool.noConfusion)
 refine⟨λj d g=>?_,λm n cm cn x e1 e2 g1 g2=>?_,λx hx=>?_,λm n cm cn x e1 e2 g1 g2=>?_,nx⟩
 .rcases si g with⟨rfl,rfl⟩|⟨hj,g⟩
  .exact ok
  .rw[<-ho j hj];exact h.ok j d g
 .rcases si e1 with⟨rfl,rfl⟩|⟨hm,e1⟩<;>rcases si e2 with⟨rfl,rfl⟩|⟨hn,e2⟩
  .rfl
  .exact(key n cn x hn e2 g1 g2).elim
  .exact(key m cm x hm e1 g2 g1).elim
  .exact h.un m n cm cn x e1 e2 g1 g2
 .have cs:=D9 (λk:oW=>k.hasB x) c' hc;have hl:=h.ln x hx;unfold uH at hl ⊢;rw[e];by_cases g:c'.hasB x=true
  .rw[c9 g]at cs;rcases hu x g with z|z
   .rw[c9 z]at cs;omega
   .unfold uH at z;omega
  .rw[cY g]at cs;omega
 .rcases si e1 with⟨rfl,rfl⟩|⟨hm,e1⟩<;>rcases si e2 with⟨rfl,rfl⟩|⟨hn,e2⟩
  .rfl
  .exact(keyw n cn x hn e2 g1 g2).elim
  .exact(keyw m cm x hm e1 g2 g1).elim
  .exact h.wt m n cm cn x e1 e2 g1 g2
def zq.add{l:pj}{V V':pX}{c':oW}(h:WF l V)(e:V'.calls=V.calls++[c'])(ok:uU l true c')(he:∀x,AK c' x->CO V x)(hu:∀x,c'.hasB x=true->(uH V x:Int)<wx l x)(hw:∀x,c'.mD x=false)(nx:uq l V'):zq l V' (some V.calls.length):=by
 have si:∀{j:Nat} {d:oW},V'.calls[j]?=some d->(j=V.calls.length/\d=c')\/(j≠V.calls.length/\V.calls[j]?=some d):=λ{j d} g=>by
  rw[e]at g;by_cases z:j<V.calls.length
  .rw[eZ z]at g;exact .inr ⟨by omega,g⟩
  .have:=(cV.mp g).1;rw[cX,dQ]at this;have z:j=V.calls.length:=by omega
   subst z;rw[eS (dg _)]at g;simp only[hG,ir,jm]at g;exact .inl ⟨rfl,g.symm⟩
 refine⟨λj d g=>?_,λm n cm cn x e1 e2 g1 g2=>?_,λx hx=>?_,λm n cm cn x e1 e2 g1 g2=>?_,nx⟩
 .rcases si g with⟨rfl,rfl⟩|⟨hj,g⟩
  .rw[eM];exact ok
  .rw[show(some V.calls.length==some j)=false by simpa using dJ hj];exact h.ok j d g
 .rcases si e1 with⟨rfl,rfl⟩|⟨hm,e1⟩<;>rcases si e2 with⟨rfl,rfl⟩|⟨hn,e2⟩
  .rfl
  .exact(he x g1 cn (qp e2) g2).elim
  .exact(he x g2 cm (qp e1) g1).elim
  .exact h.un m n cm cn x e1 e2 g1 g2
 .have hl:=h.ln x hx;unfold uH at hl ⊢;rw[e,jf,cX,gH];split
  .rename_i g;have:=hu x g;unfold uH at this;simp only[iL,dQ];omega
  .simp only[iL,dI];omega
 .rcases si e1 with⟨rfl,rfl⟩|⟨hm,e1⟩<;>rcases si e2 with⟨rfl,rfl⟩|⟨hn,e2⟩
  .rfl
  .rw[hw x]at g1;cases g1
  .rw[hw x]at g2;cases g2
  .exact h.wt m n cm cn x e1 e2 g1 g2
noncomputable def oW.core(c:oW):oW:={c with way:=[],si:=0}
def ze(V V':pX):Prop:=V'.calls.map oW.core=V.calls.map oW.core
def ze.at_{V V':pX}(h:ze V V'){i:Nat}{c':oW}(e:V'.calls[i]?=some c'):∃c,V.calls[i]?=some c/\c'.core=c.core:=by
 have:=eE (·[i]?) h;simp only[dA,e]at this;cases e':V.calls[i]? with
 | none=>rw[e']at this;cases this
 | some c=>rw[e']at this;exact⟨c,rfl,dh this⟩
def ze.used{V V':pX}(h:ze V V')(x:Str):uH V' x=uH V x:=by
 have key:∀cs:List oW,(cs.filter (·.hasB x)).length=((cs.map oW.core).filter (·.hasB x)).length:=λcs=>by rw[gQ,cT];rfl
 unfold uH;rw[key,h,<-key]
def ze.wf{l:pj}{V V':pX}{o:Option Nat}(h:ze V V')(wf:zq l V o)(hw:∀(i:Nat) c',V'.calls[i]?=some c'->c'.way≠[]/\∀z∈c'.way,z∈l.nm)(nx:uq l V'):zq l V' o:=by
 refine⟨λi c' e=>?_,λi j ci cj x e1 e2 g1 g2=>?_,λx hx=>by rw[h.used];exact wf.ln x hx,λi j ci cj x e1 e2 g1 g2=>?_,nx⟩
 .obtain⟨c,ec,ee⟩:=h.at_ e;have k:=wf.ok i c ec;have k1:c'.at_=c.at_:=show c'.core.at_=c.core.at_ by rw[ee]
  have k2:c'.ms=c.ms:=show c'.core.ms=c.core.ms by rw[ee]
  have k3:c'.cr=c.cr:=show c'.core.cr=c.core.cr by rw[ee]
  exact⟨by show MH _ c'.core;rw[ee];exact k.sh,by rw[k3];exact k.cr,by rw[k1];exact k.at_,by rw[k2];exact k.ms,by rw[k1];exact k.an,by rw[k2];exact k.mn,by rw[k1,k3];exact k.ca,hw i c' e⟩
 .obtain⟨di,a1,a2⟩:=h.at_ e1;obtain⟨dj,b1,b2⟩:=h.at_ e2;exact wf.un i j di dj x a1 b1 (by show AK di.core x;rw[<-a2];exact g1) (by show AK dj.core x;rw[<-b2];exact g2)
 .obtain⟨di,a1,a2⟩:=h.at_ e1;obtain⟨dj,b1,b2⟩:=h.at_ e2;exact wf.wt i j di dj x a1 b1 (by show di.core.mD x=true;rw[<-a2];exact g1) (by show dj.core.mD x=true;rw[<-b2];exact g2)
def sW.core{V V':pX}(h:sW V V'):ze V V':=by have:=eE (List.map oW.core) h;rw[d9,d9]at this;exact this
def Jo(V:pX):ze V (pO V .turn):=by show(V.calls.map oW.tick).map oW.core=V.calls.map oW.core;rw[d9];refine gK λc _=>?_;show(oW.tick c).core=c.core;unfold oW.tick;split<;>rfl
def DI{l:pj}{V:pX}(wf:WF l V):WF l (pO V .turn):=(Jo V).wf wf (λi c' e=>by
 have e:(V.calls.map oW.tick)[i]?=some c':=e;rw[dA]at e;cases q:V.calls[i]? with
 | none=>rw[q]at e;cases e
 | some c=>
  rw[q]at e;have e:c.tick=c':=dh e;have hw:c.tick.way=c.way:=by unfold oW.tick;split<;>rfl
  rw[<-e,hw];exact(wf.ok i c q).wy) wf.nx
def TF{l:pj}{V:pX}{b:Bool}{i:Nat}(wf:WF l V):WF l (pO V (.sw b i)):=⟨wf.ok,wf.un,wf.ln,wf.wt,wf.nx⟩
def E5{l:pj}{V:pX}{o:Option Nat}{i:Nat}{z:Str}{ns:List Nat}(wf:zq l V o):zq l (pO V (.asks i z ns)) o:=⟨wf.ok,wf.un,wf.ln,wf.wt,wf.nx⟩
def GO{l:pj}{V:pX}{o:Option Nat}{v:rE}(wf:zq l V o)(hz:v.g∈l.nm):zq l (pO V (.leg v)) o:=(yR V v).core.wf wf (λi c' e=>by
 have e:(V.calls.modify v.i (·.go v.g))[i]?=some c':=e;rw[iQ]at e;cases q:V.calls[i]? with
 | none=>rw[q]at e;cases e
 | some c=>
  rw[q]at e;have k:=(wf.ok i c q).wy;have e:(if v.i=i then c.go v.g else c)=c':=dh e;by_cases g:v.i=i
  .rw[c9 g]at e;rw[<-e];refine⟨by show c.way++[v.g]≠[];simp,λz hz'=>?_⟩;rcases dW.mp (show z∈c.way++[v.g]from hz')with y|y
   .exact k.2 z y
   .rw[dD.mp y];exact hz
  .rw[cY g]at e;rw[<-show c=c' from e];exact k) wf.nx
theorem B0{l:pj}{o:Option Nat}(i:Nat):∀(st:sZ) (q:Option Str) {V:pX},zq l V o->(∀s∈st,s.1∈l.nm)->zq l (qz V (rQ i q st)) o
 | [],_,V,wf,_=>wf
 | (y,gs)::r,none,V,wf,h=>B0 i r (some y) (E5 wf) λs hs=>h s (dC _ hs)
 | (y,gs)::r,some u,V,wf,h=>B0 i r (some y) (E5 (GO wf (h _ dN))) λs hs=>h s (dC _ hs)
def qW{V:pX}{i:Nat}{c:oW}{f:oW->oW}(h:V.calls[i]?=some c):(xC V i f).calls=V.calls.set i (f c):=by unfold xC;rw[sU h]
def AW{i:Nat}:∀j,j≠i->((some i:Option Nat)==some j)=((none:Option Nat)==some j):=λj hj=>by rw[show((some i:Option Nat)==some j)=false by simpa using dJ hj];rfl
def VG{l:pj}{V:pX}{i:Nat}{c:oW}(wf:zq l V (some i))(hc:V.calls[i]?=some c):c.st="rings"/\c.ms=[]/\c.hd=none/\c.wd=none/\c.at_=[]:=by
 have sh:=(wf.ok i c hc).sh;rw[eM]at sh;rcases sh with g|g
 .exact⟨g.1,g.2.1,g.2.2.1,g.2.2.2.1,g.2.2.2.2.1 rfl⟩
 .cases g.1
def Ob{l:pj}{c:oW}{o:Bool}{w:Str}(k:uU l o c)(hw:w∈K6):uU l false (c.over w):=⟨.inr ⟨rfl,.inr (.inr (.inr ⟨rfl,rfl,rfl,rfl,w,hw,rfl⟩))⟩,k.cr,(λx hx=>by cases hx),(λx hx=>by cases hx),eG,eG,(λhx=>by cases hx),k.wy⟩
def wJ{l:pj}{V V':pX}{o:Option Nat}{i:Nat}{c:oW}{w:Str}(wf:zq l V o)(hc:V.calls[i]?=some c)(ho:o=none\/o=some i)(hw:w∈K6)(e:V'.calls=V.calls.set i (c.over w))(nx:uq l V'):WF l V':=
 wf.set e hc (λj hj=>by rcases ho with rfl|rfl;rfl;exact AW j hj) (Ob (wf.ok i c hc) hw) (λx g=>(Fm rfl g).elim) (λx g=>by rw[F2 (c:=c.over w) rfl]at g;cases g) (λx g=>by have:=(rH.mp g).1;exact absurd this (show("over":Str)≠"waits" by decide)) nx
def GF{l:pj}{V:pX}{c z:Str}(h:(l.mv z).Nodup):(xi l V c z).Nodup:=by
 unfold xi;split
 .cases(uE (l.mv z) (zg V z)).filter λx=>hasS (tQ l V c z) x with
  | nil=>exact eG
  | cons y r=>exact dO.mpr ⟨dB,eG⟩
 .exact h.sublist fV
def Mt(ps:List (Str×Int))(z:Str)(n:Int)(y:Str):(DA ps z n).find? (λp=>decide (p.1=y))=if y=z then some (z,n)else ps.find? λp=>decide (p.1=y):=by
 unfold DA;by_cases h:ps.any (λp=>decide (p.1=z))=true
 .rw[c9 h];induction ps with
  | nil=>cases h
  | cons p r ih=>
   rw[dS,fH,fH];by_cases hp:p.1=z
   .rw[c9 hp];by_cases hy:y=z
    .rw[c9 hy,hy];simp[hp]
    .rw[cY hy];have n1:decide (p.1=y)=false:=eO (λq=>hy (q.symm.trans hp));simp only[n1];by_cases hr:r.any (λp=>decide (p.1=z))=true
     .have:=ih hr;rw[cY hy]at this;exact this
     .have hr:∀q∈r,¬q.1=z:=λq hq g=>hr (gp.mpr ⟨q,hq,dR g⟩);rw[show r.map (λp=>if p.1=z then(p.1,n)else p)=r from(gK λq hq=>cY (hr q hq)).trans (iZ _)]
   .rw[cY hp];have hr:r.any (λp=>decide (p.1=z))=true:=by
     rw[fX,gP]at h;rcases h with g|g
     .exact absurd (fP g) hp
     .exact g
    have ih:=ih hr;by_cases hy:y=z
    .rw[c9 hy]at ih ⊢;have n1:decide (p.1=y)=false:=eO (λq=>hp (q.trans hy));simp only[n1];exact ih
    .rw[cY hy]at ih ⊢;cases decide (p.1=y)with
     | true=>rfl
     | false=>exact ih
 .rw[cY h,List.find?_append];have hr:∀q∈ps,¬q.1=z:=λq hq g=>h (gp.mpr ⟨q,hq,dR g⟩);by_cases hy:y=z
  .subst hy;rw[c9 rfl,gR.mpr λq hq=>by simpa using hr q hq,Option.none_or];simp
  .rw[cY hy,fH,eO (λq:z=y=>hy q.symm)];simp
def MI{l:pj}{V:pX}{z:Str}{n:Int}(h:uq l V)(h0:0<=n)(h1:n<=((l.mv z).length:Int)):uq l (pO V (.next z n)):=λy hy ht=>by
 show ∃v,(DA V.ps z n).find? _=some v/\_;rw[Mt];by_cases e:y=z
 .subst e;rw[c9 rfl];exact⟨_,rfl,h0,h1⟩
 .rw[cY e];exact h y hy ht
def Ej{l:pj}{V:pX}{x:Str}(h:tF l V x=true):(uH V x:Int)<wx l x:=fP h
def JZ{l:pj}{V V':pX}{o:Option Nat}{i:Nat}{c:oW}{w x:Str}(wf:zq l V o)(hc:V.calls[i]?=some c)(e:V'.calls=V.calls.set i (c.over w))(hx:AK c x):CO V' x:=λd hd g=>by
 rw[e]at hd;obtain⟨j,hj,ed⟩:=gJ hd;have ej:(V.calls.set i (c.over w))[j]?=some d:=by rw[cW hj,ed]
 rcases EE ej with⟨_,rfl,_⟩|⟨WK,ej⟩
 .exact Fm rfl g
 .exact WK (wf.un j i d c x ej hc g hx)
def Jm{V V':pX}{i:Nat}{c:oW}{w x:Str}(hc:V.calls[i]?=some c)(e:V'.calls=V.calls.set i (c.over w))(hx:c.hasB x=true):uH V' x+1=uH V x:=by
 have:=D9 (λk:oW=>k.hasB x) (c.over w) hc;unfold uH;rw[e];simp only[hx,iV,F2 (c:=c.over w) rfl]at this
 simpa using this
def Gv{l:pj}{V V':pX}{o:Option Nat}{i j:Nat}{c d:oW}{ms:List Str}(wf:zq l V o)(ho:o=none\/o=some i)(hc:V.calls[i]?=some c)(hd:V.calls[j]?=some d)(Xf:i≠j)(e:V'.calls=(V.calls.set i (c.over "merged")).set j (d.mem ms))(nx:uq l V')(dt:d.st="talks")(m1:ms.Nodup)(m2:ms.length=2\/ms.length=3)(m3:∀x∈ms,x∈d.ms\/(AK c x/\c.hasB x=true))(m4:∀x∈ms,x∈l.pn):WF l V':=by
 have e1:(xC V i (·.over "merged")).calls=V.calls.set i (c.over "merged"):=qW hc;have w1:WF l (xC V i (·.over "merged")):=wJ wf hc ho (by decide) e1 wf.nx;have hd1:(xC V i (·.over "merged")).calls[j]?=some d:=by rw[e1,eP Xf];exact hd
 have kd:=w1.ok j d hd1;have kd':d.hd=none/\d.wd=none/\d.at_=[]:=by
  rcases kd.sh with g|⟨_,g|g|⟨_,g⟩|g⟩
  .rw[dt]at g;exact absurd g.1 (by decide)
  .rw[dt]at g;exact absurd g.1 (by decide)
  .exact⟨g.2.2.1,g.2.2.2.1,g.2.2.2.2⟩
  .rw[dt]at g;exact absurd g.1 (by decide)
  .rw[dt]at g;exact absurd g.1 (by decide)
 refine w1.set (c':=d.mem ms) (by rw[e,e1]) hd1 (λ_ _=>rfl) ⟨.inr ⟨rfl,.inr (.inl ⟨dt,m2,kd'.1,kd'.2.1,kd'.2.2⟩)⟩,kd.cr,kd.at_,m4,kd.an,m1,kd.ca,kd.wy⟩ (λx g=>?_) (λx g=>?_) (λx g=>?_) nx
 .have g:=(sS (c:=d.mem ms) dt).mp g;rcases m3 x g with y|y
  .exact .inl ((sS dt).mpr y)
  .exact .inr (JZ wf hc e1 y.1)
 .have g:=(sy (c:=d.mem ms) (.inl dt)).mp g;rcases m3 x g with y|y
  .exact .inl ((sy (.inl dt)).mpr y)
  .have:=Jm hc e1 y.2;have:=wf.ln x (m4 x g);exact .inr (by omega)
 .have:=(rH.mp g).1;rw[show(d.mem ms).st="talks" from dt]at this;exact absurd this (by decide)
def RE{l:pj}{V V1:pX}{i:Nat}{c:oW}{e:vW}(ok:rf l)(wf:zq l V1 (some i))(same:ze V V1)(hc:V1.calls[i]?=some c)(he:Fx l V c.cr e):WF l (qz V1 (sA l V1 i e)):=by
 obtain⟨p1,p2,p3,p4,p5⟩:=VG wf hc;have k:=wf.ok i c hc;have hi:=(cV.mp hc).1;cases e with
 | rings z ps=>
  obtain⟨hz,WK,rfl⟩:=he;obtain⟨⟨q1,q2,q3,q4⟩,_⟩:=ok.of hz;obtain⟨r1,r2⟩:=Gm (l:=l) (V:=V) (c:=c.cr) (z:=z);generalize hps:xi l V c.cr z=ps at WK r1 r2;have Wp:∀V2:pX,V2.calls=V1.calls->uq l V2->WF l (pO V2 (.rings i ps)):=λV2 e2 nx=>by
   have e3:(pO V2 (.rings i ps)).calls=V1.calls.set i (c.ring ps):=by show(xC (qB V2 _) i _).calls=_;rw[qW (c:=c) (by show V2.calls[i]?=_;rw[e2];exact hc)];show V2.calls.set i _=_;rw[e2]
   have free:∀x∈ps,tF l V x=true/\x≠c.cr:=λx hx=>by have h:=(fG.mp (r1 x hx).1).2;simp only[dU,gB]at h;exact⟨h.2,by simpa using h.1⟩
   refine wf.set e3 hc AW ⟨.inl ⟨rfl,p2,p3,p4,(λh=>by cases h),λ_=>WK⟩,k.cr,λx hx=>q4 x (r1 x hx).2,k.ms,by rw[<-hps];exact GF q3,k.mn,λhx=>(free _ hx).2 rfl,k.wy⟩ (λx g=>?_) (λx g=>?_) (λx g=>?_) nx
   .exact .inl ((rX p1).mpr ((rX (c:=c.ring ps) rfl).mp g))
   .rcases(sd (c:=c.ring ps) rfl).mp g with y|y
    .exact .inl ((sd p1).mpr (.inl y))
    .refine .inr ?_;rw[same.used];exact Ej (free x y).1
   .exact absurd (rH.mp g).1 (show("rings":Str)≠"waits" by decide)
  show WF l (qz V1 ((if (l.mF z=="turns")=true then _ else _)++[.rings i ps]));rw[sf];by_cases ht:(l.mF z=="turns")=true
  .rw[c9 ht];have lp:0<(l.mv z).length:=fA.mpr q1;refine Wp _ rfl (MI wf.nx (eQ _ (by omega)) (Int.le_of_lt (eN _ (by omega))))
  .rw[cY ht];exact Wp V1 rfl wf.nx
 | waits z=>
  obtain⟨hz,WK,hw⟩:=he;have e3:(pO V1 (.waits i z)).calls=V1.calls.set i (c.wait z):=qW (V:=qB V1 _) hc;have hw1:zV V1 z=false:=by
   unfold zV at hw ⊢;have key:∀cs:List oW,cs.any (·.mD z)=(cs.map oW.core).any (·.mD z):=λcs=>by rw[jE];rfl
   rw[key,same,<-key];exact hw
  refine wf.set e3 hc AW ⟨.inr ⟨rfl,.inl ⟨rfl,p2,p3,p4,rfl⟩⟩,k.cr,λx hx=>by rw[dD.mp hx];exact hz,k.ms,dO.mpr ⟨dB,eG⟩,k.mn,λhx=>WK (dD.mp hx).symm,k.wy⟩ (λx g=>?_) (λx g=>?_) (λx g=>?_) wf.nx
  .exact .inl ((rX p1).mpr ((C9 (c:=c.wait z) rfl).mp g))
  .exact .inl ((sd p1).mpr (.inl ((C5 (c:=c.wait z) rfl).mp g)))
  .have:=(rH.mp g).2;rw[dD.mp this];exact .inr hw1
 | breaks z=>
  obtain⟨x,rfl,hb⟩:=he;obtain⟨j,d0,t1,t2,t3,t4,t5,t6⟩:=Gp hb;have ht:vh V1 z=some j:=by
   rw[<-t1];unfold vh;have key:∀cs:List oW,cs.findIdx? (·.mJ z)=(cs.map oW.core).findIdx? (·.mJ z):=λcs=>by rw[gY];rfl
   rw[key,same,<-key]
  obtain⟨d,ed,ec⟩:∃d,V1.calls[j]?=some d/\d.core=d0.core:=by
   have:=eE (·[j]?) same;simp only[dA,t2]at this;cases q:V1.calls[j]? with
   | none=>rw[q]at this;cases this
   | some d=>rw[q]at this;exact⟨d,rfl,dh this⟩
  have ds:d.st="talks":=by rw[show d.st=d0.st from show d.core.st=d0.core.st by rw[ec]];exact t3
  have dm:d.ms=d0.ms:=show d.core.ms=d0.core.ms by rw[ec]
  have Xf:i≠j:=λy=>by subst y;rw[hc]at ed;cases ed;rw[p1]at ds;exact absurd ds (by decide)
  have Zz:sA l V1 i (.breaks z)=[.merge i j (d.ms++[c.cr])]:=by unfold sA;dsimp only;rw[ht,hc];dsimp only;rw[ed];rfl
  rw[Zz];have ncr:c.cr∉d.ms:=λy=>Xf (wf.un i j c d c.cr hc ed ((rX p1).mpr rfl) ((sS ds).mpr y));have kd:=wf.ok j d ed;refine Gv (V':=pO V1 (.merge i j (d.ms++[c.cr]))) (ms:=d.ms++[c.cr]) wf (.inr rfl) hc ed Xf ?_ wf.nx ds ?_ (.inr ?_) (λx hx=>?_) (λx hx=>?_)
  .show(V1.calls.modify i _).modify j _=_;rw[sU hc,sU (show(V1.calls.set i _)[j]?=some d by rw[eP Xf];exact ed)]
  .refine gh.mpr ⟨kd.mn,dO.mpr ⟨dB,eG⟩,λx hx y hy q=>ncr ?_⟩;rw[dD.mp hy]at q;rw[<-q];exact hx
  .rw[cX,dm,t5];rfl
  .rcases dW.mp hx with y|y
   .exact .inl y
   .rw[dD.mp y];exact .inr ⟨(rX p1).mpr rfl,(sd p1).mpr (.inl rfl)⟩
  .rcases dW.mp hx with y|y
   .exact kd.ms x y
   .rw[dD.mp y];exact k.cr
 | engaged z=>exact wJ (V':=pO V1 (.over i "engaged")) wf hc (.inr rfl) (by decide) (qW (V:=qB V1 _) hc) wf.nx
 | barred=>exact wJ (V':=pO V1 (.over i "barred")) wf hc (.inr rfl) (by decide) (qW (V:=qB V1 _) hc) wf.nx
 | ring ns=>exact wJ (V':=pO V1 (.over i "ring")) wf hc (.inr rfl) (by decide) (qW (V:=qB V1 _) hc) wf.nx
def P9{l:pj}{V:pX}{i:Nat}{k:oW}(ok:rf l)(wf:zq l V (some i))(hk:V.calls[i]?=some k):WF l (qz V (xg l V i)):=by
 have Xm:=wf.ok i k hk;unfold xg;rw[hk];dsimp only[Option.elim];obtain⟨z,hz⟩:∃z,k.way.getLast?=some z:=by
  cases e:k.way.getLast? with
  | none=>exact absurd (gF.mp e) Xm.wy.1
  | some z=>exact⟨z,rfl⟩
 rw[show k.way.getLastD Str.empty=z by rw[ic,hz];rfl];have ro:xI l V k.cr (l.nm.length+1) [] (uG l V k.cr z k.way.dropLast):=zh ok _ _ _ _ (Xm.wy.2 z (iO hz)) λx hx=>Xm.wy.2 x (iP _ hx);generalize uG l V k.cr z k.way.dropLast=R at ro;obtain⟨e,st⟩:=R;have snm:∀s∈st,s.1∈l.nm:=λs hs=>(ro.nm s hs).elim (λh=>by cases h) id;have w1:=B0 i st none wf snm;have WW:=uo i st none V;rw[sf,sf];dsimp only;have Wp:∀V1:pX,zq l V1 (some i)->sW V V1->WF l (qz V1 (sA l V i e)):=λV1 w s=>by
  rw[<-s.ends];obtain⟨c',e1,e2⟩:=s.at_ hk;have hcr:c'.cr=k.cr:=show c'.bare.cr=k.bare.cr by rw[e2]
  exact RE ok w s.core e1 (by rw[hcr];exact ro.e)
 cases e with
 | ring ns=>
  obtain⟨x,ns',rfl⟩:=fD (show ns≠[]from ro.e);cases hl:st.getLast? with
  | none=>rw[show tZ i st (.ring (x::ns'))=[]by unfold tZ;dsimp only;rw[hl];rfl];exact Wp _ w1 WW
  | some s0=>rw[show tZ i st (.ring (x::ns'))=[.leg ⟨i,s0.1,x,s0.1⟩]by unfold tZ;dsimp only;rw[hl];rfl];exact Wp _ (GO (v:=⟨i,s0.1,x,s0.1⟩) w1 (ro.wy _ rfl x dN)) (WW.trans (yR _ _))
 | rings _ _=>exact Wp _ w1 WW
 | waits _=>exact Wp _ w1 WW
 | breaks _=>exact Wp _ w1 WW
 | engaged _=>exact Wp _ w1 WW
 | barred=>exact Wp _ w1 WW
def G1{l:pj}{V:pX}{y z:Str}(wf:WF l V)(hy:y∈l.pn)(hz:z∈l.nm)(hi:CO V y)(hf:tF l V y=true):zq l (qz V [.new V.calls.length y,.leg ⟨V.calls.length,y,z,y⟩]) (some V.calls.length):=by
 have e:(qz V [.new V.calls.length y,.leg ⟨V.calls.length,y,z,y⟩]).calls=V.calls++[(yF y).go z]:=by show(V.calls++[yF y]).modify V.calls.length _=_;rw[sU (c:=yF y) (by rw[eS (dg _),hG];rfl),j4 _ _ (dg _),hG];rfl
 refine wf.add e ⟨.inl ⟨rfl,rfl,rfl,rfl,λ_=>rfl,(λh=>by cases h)⟩,hy,(λx h=>by cases h),(λx h=>by cases h),eG,eG,(λh=>by cases h),fE _ _,λx h=>by rw[dD.mp h];exact hz⟩ (λx h=>?_) (λx h=>?_) (λx=>?_) wf.nx
 .rw[(rX (c:=(yF y).go z) rfl).mp h];exact hi
 .rcases(sd (c:=(yF y).go z) rfl).mp h with g|g
  .rw[g];exact Ej hf
  .cases g
 .cases q:((yF y).go z).mD x with
  | false=>rfl
  | true=>exact absurd (rH.mp q).1 (show("rings":Str)≠"waits" by decide)
def L7{V:pX}{y z:Str}:∃k,(qz V [.new V.calls.length y,.leg ⟨V.calls.length,y,z,y⟩]).calls[V.calls.length]?=some k:=by
 have:V.calls.length<(qz V [.new V.calls.length y,.leg ⟨V.calls.length,y,z,y⟩]).calls.length:=by show V.calls.length<((V.calls++[yF y]).modify _ _).length;rw[eU,cX];exact fv _
 exact⟨_,cW this⟩
def DO{l:pj}{V:pX}{i:Nat}{c:oW}{x y:Str}{fs:List Nat}(wf:WF l V)(hc:V.calls[i]?=some c)(hs:c.st="rings")(hy:y∈l.nm):zq l (qz V [.asks i x fs,.quiet i,.leg ⟨i,x,y,x⟩]) (some i):=by
 refine GO (v:=⟨i,x,y,x⟩) ?_ hy;have k:=wf.ok i c hc;have w1:WF l (pO V (.asks i x fs)):=E5 wf;have sh:c.ms=[]/\c.hd=none/\c.wd=none:=by
  rcases k.sh with g|⟨_,g|g|⟨_,g⟩|g⟩
  .exact⟨g.2.1,g.2.2.1,g.2.2.2.1⟩
  all_goals(rw[hs]at g;exact absurd g.1 (by decide))
 refine w1.set (i:=i) (c:=c) (c':=c.nz) (qW (V:=qB (pO V (.asks i x fs)) _) hc) hc (λj hj=>(AW j hj).symm) ?_ (λx g=>.inl ?_) (λx g=>.inl ?_) (λx g=>?_) wf.nx
 .rw[eM];exact⟨.inl ⟨hs,sh.1,sh.2.1,sh.2.2,λ_=>rfl,(λh=>by cases h)⟩,k.cr,(λx h=>by cases h),k.ms,eG,k.mn,(λh=>by cases h),k.wy⟩
 .exact(rX hs).mpr ((rX (c:=c.nz) hs).mp g)
 .rcases(sd (c:=c.nz) hs).mp g with y|y
  .exact(sd hs).mpr (.inl y)
  .cases y
 .have:=(rH.mp g).1;rw[show c.nz.st="rings" from hs]at this;exact absurd this (by decide)
inductive UC(l:pj)(V:pX)(i:Nat):List Nat->Prop
 | no:UC l V i []
 | on (c:oW) (k:Nat) (r:List Nat) (b:Bool) (x y:Str) (n:Int):V.calls[i]?=some c->c.st="rings"->l.mx[k]?=some (b,.silent x y n)->c.way.getLast?=some x->y∈l.nm->UC l V i (k::r)
def GY{l:pj}{V:pX}{i:Nat}(ok:rf l):UC l V i (yg l V i):=by
 unfold yg;cases e:V.calls[i]? with
 | none=>exact .no
 | some c=>
  dsimp only[Option.elim];by_cases hs:(c.st=="rings")=true
  .rw[c9 hs];cases q:GL l V (Fl c)with
   | nil=>exact .no
   | cons k r=>
    obtain⟨⟨b,w⟩,e1,e2⟩:=EY (i:=k) (by rw[q];exact dN);cases w with
    | silent x y n=>unfold Fl at e2;rw[dU,fk]at e2;exact .on c k r b x y n e (eq_of_beq hs) e1 e2.1 (BZ ok (fQ e1) (z:=Str.empty) rfl)
    | _=>cases e2
  .rw[cY hs];exact .no
def zD{l:pj}{V:pX}{i k:Nat}{r:List Nat}{b:Bool}{x y:Str}{n:Int}(h:l.mx[k]?=some (b,.silent x y n)):sR l V i (k::r)=[.asks i x (k::r),.quiet i,.leg ⟨i,x,y,x⟩]++xg l (qz V [.asks i x (k::r),.quiet i,.leg ⟨i,x,y,x⟩]) i:=by unfold sR;simp only[List.head?_cons,lM,h]
def EC{V:pX}{i:Nat}{c:oW}{x y:Str}{fs:List Nat}(h:V.calls[i]?=some c):(qz V [.asks i x fs,.quiet i,.leg ⟨i,x,y,x⟩]).calls[i]?=some (c.nz.go y):=by show((V.calls.modify i oW.nz).modify i _)[i]?=_;rw[iQ,iQ,h];simp
def HW{l:pj}{V:pX}{i:Nat}(ok:rf l)(wf:WF l V):WF l (qz V (sR l V i (yg l V i))):=by
 have d:=GY (V:=V) (i:=i) ok;generalize yg l V i=fs at d;cases d with
 | no=>exact wf
 | on c k r b x y n hc hs hk hw hy=>rw[zD hk,sf];exact P9 ok (DO wf hc hs hy) (EC hc)
theorem D0{l:pj}(ok:rf l):∀(is:List Nat) {V:pX},WF l V->WF l (qz V (rj l is V))
 | [],_,wf=>wf
 | i::r,V,wf=>by unfold rj;rw[sf];exact D0 ok r (HW ok wf)
theorem CW(l:pj)(i:Nat):∀(is:List Nat) (V:pX),rj l (is++[i]) V=rj l is V++sR l (qz V (rj l is V)) i (yg l (qz V (rj l is V)) i)
 | [],V=>by show sR l V i _++[]=[]++_;rw[eY];rfl
 | j::r,V=>by show sR l V j _++rj l (r++[i]) _=(sR l V j _++rj l r _)++_;rw[CW l i r,fj,show rj l (j::r) V=sR l V j (yg l V j)++rj l r (qz V (sR l V j (yg l V j)))from rfl,sf]
def tD{ss:List Str}{x y:Str}:y∈qQ ss x↔y∈ss/\y≠x:=by unfold qQ;rw[fG,gB,gj]
theorem uY{x:Str}:∀{ss:List Str},ss.Nodup->x∈ss->(qQ ss x).length+1=ss.length
 | [],_,h=>by cases h
 | y::r,nd,h=>by
  have nd:=dO.mp nd;unfold qQ;rw[gH];by_cases e:y=x
  .subst e;rw[show(!(y==y))=false by simp,cY (by decide),ky.mpr λz hz=>by
    have:z≠y:=λq=>nd.1 (q ▸ hz)
    simpa using this]
   rfl
  .have h:x∈r:=by
    rcases df.mp h with q|q
    .exact absurd q.symm e
    .exact q
   rw[c9 (by simpa using e)];have:=uY nd.2 h;unfold qQ at this;rw[d6,d6,this]
def Om{l:pj}{V:pX}{i:Nat}{c:oW}{x:Str}(wf:WF l V)(hc:V.calls[i]?=some c)(hl:c.mU x=true):WF l (qz V (uL V x i)):=by
 have k:=wf.ok i c hc;unfold uL;rw[hc];dsimp only[Option.elim];by_cases h1:c.mH x=true
 .rw[c9 h1];exact wJ (V':=pO V (.over i "left")) wf hc (.inl rfl) (by decide) (qW (V:=qB V _) hc) wf.nx
 .rw[cY h1];have e1:(pO V (.leaves i x)).calls=V.calls.set i (c.drop x):=qW (V:=qB V _) hc;by_cases h2:hasS c.at_ x=true
  .rw[c9 h2];by_cases h3:qQ c.at_ x=[]
   .rw[c9 h3];refine wJ (V':=pO (pO V (.leaves i x)) (.over i "refused")) wf hc (.inl rfl) (by decide) (w:="refused") ?_ wf.nx;have h4:(pO V (.leaves i x)).calls[i]?=some (c.drop x):=by rw[e1,eJ (cV.mp hc).1]
    show(xC (qB (pO V (.leaves i x)) _) i _).calls=_;rw[qW (V:=qB (pO V (.leaves i x)) _) h4];show(pO V (.leaves i x)).calls.set i _=_;rw[e1,iK];rfl
   .rw[cY h3];have hs:c.st="rings"/\c.ms=[]/\c.hd=none/\c.wd=none:=by
     rcases k.sh with g|⟨_,g|g|⟨_,g⟩|g⟩
     .exact⟨g.1,g.2.1,g.2.2.1,g.2.2.2.1⟩
     .exfalso;have:=uY k.an (qG.mp h2);rw[g.2.2.2.2]at this;exact h3 (fL.mp (by omega))
     .rw[g.2.2.2.2]at h2;cases h2
     .rw[g.2.2.2.2.2]at h2;cases h2
     .rw[g.2.2.2.1]at h2;cases h2
    refine wf.set (V':=pO V (.leaves i x)) (c':=c.drop x) e1 hc (λ_ _=>rfl) ⟨.inl ⟨hs.1,by show qQ c.ms x=[];rw[hs.2.1];rfl,hs.2.2.1,hs.2.2.2,(λh=>by cases h),λ_=>h3⟩,k.cr,λy hy=>k.at_ y (tD.mp hy).1,λy hy=>k.ms y (tD.mp hy).1,k.an.sublist fV,k.mn.sublist fV,λhy=>k.ca (tD.mp hy).1,k.wy⟩ (λy g=>?_) (λy g=>?_) (λy g=>?_) wf.nx
    .exact .inl ((rX hs.1).mpr ((rX (c:=c.drop x) hs.1).mp g))
    .refine .inl ((sd hs.1).mpr (((sd (c:=c.drop x) hs.1).mp g).imp id λh=>(tD.mp h).1))
    .have:=(rH.mp g).1;rw[show(c.drop x).st="rings" from hs.1]at this;exact absurd this (by decide)
  .rw[cY h2];by_cases h3:2<c.ms.length
   .rw[c9 h3];have hx:x∈c.ms:=by unfold oW.mU at hl;rw[dE.mpr h1,dE.mpr h2,fC,fC]at hl;exact qG.mp hl
    have hs:c.st="talks"/\c.ms.length=3/\c.hd=none/\c.wd=none/\c.at_=[]:=by
     rcases k.sh with g|⟨_,g|g|⟨_,g⟩|g⟩
     .rw[g.2.1]at h3;cases h3
     .rw[g.2.1]at h3;cases h3
     .exact⟨g.1,g.2.1.elim (λq=>by omega) id,g.2.2⟩
     .omega
     .rw[g.2.1]at h3;cases h3
    have dl:=uY k.mn hx;refine wf.set (V':=pO V (.leaves i x)) (c':=c.drop x) e1 hc (λ_ _=>rfl) ⟨.inr ⟨rfl,.inr (.inl ⟨hs.1,.inl (by show(qQ c.ms x).length=2;omega),hs.2.2.1,hs.2.2.2.1,by show qQ c.at_ x=[];rw[hs.2.2.2.2];rfl⟩)⟩,k.cr,λy hy=>k.at_ y (tD.mp hy).1,λy hy=>k.ms y (tD.mp hy).1,k.an.sublist fV,k.mn.sublist fV,λhy=>k.ca (tD.mp hy).1,k.wy⟩ (λy g=>?_) (λy g=>?_) (λy g=>?_) wf.nx
    .exact .inl ((sS hs.1).mpr (tD.mp ((sS (c:=c.drop x) hs.1).mp g)).1)
    .exact .inl ((sy (.inl hs.1)).mpr (tD.mp ((sy (c:=c.drop x) (.inl hs.1)).mp g)).1)
    .have:=(rH.mp g).1;rw[show(c.drop x).st="talks" from hs.1]at this;exact absurd this (by decide)
   .rw[cY h3];exact wJ (V':=pO V (.over i "done")) wf hc (.inl rfl) (by decide) (qW (V:=qB V _) hc) wf.nx
def JW{l:pj}{V:pX}{i:Nat}{c:oW}{x:Str}(wf:WF l V)(hc:V.calls[i]?=some c)(hx:hasS c.at_ x=true)(hi:CO V x)(hf:c.mD x=true->tF l V x=true):WF l (pO V (.talks i [c.cr,x])):=by
 have k:=wf.ok i c hc;have hx:=qG.mp hx;have WK:c.cr≠x:=λq=>k.ca (q ▸ hx);have hs:(c.st="rings"\/c.st="waits")/\c.wd=none:=by
  rcases k.sh with g|⟨_,g|g|⟨_,g⟩|g⟩
  .exact⟨.inl g.1,g.2.2.2.1⟩
  .exact⟨.inr g.1,g.2.2.2.1⟩
  .rw[g.2.2.2.2]at hx;cases hx
  .rw[g.2.2.2.2.2]at hx;cases hx
  .rw[g.2.2.2.1]at hx;cases hx
 have ec:AK c c.cr/\c.hasB c.cr=true:=by
  rcases hs.1 with g|g
  .exact⟨(rX g).mpr rfl,(sd g).mpr (.inl rfl)⟩
  .exact⟨(C9 g).mpr rfl,(C5 g).mpr rfl⟩
 refine wf.set (V':=pO V (.talks i [c.cr,x])) (c':=c.nk [c.cr,x]) (qW (V:=qB V _) hc) hc (λ_ _=>rfl) ⟨.inr ⟨rfl,.inr (.inl ⟨rfl,.inl rfl,rfl,hs.2,rfl⟩)⟩,k.cr,(λy h=>by cases h),(λy h=>?_),eG,?_,(λh=>by cases h),k.wy⟩ (λy g=>?_) (λy g=>?_) (λy g=>?_) wf.nx
 .rcases df.mp h with g|g
  .rw[g];exact k.cr
  .rw[dD.mp g];exact k.at_ x hx
 .exact dO.mpr ⟨λh=>WK (dD.mp h),dO.mpr ⟨dB,eG⟩⟩
 .rcases df.mp ((sS (c:=c.nk [c.cr,x]) rfl).mp g)with h|h
  .rw[h];exact .inl ec.1
  .rw[dD.mp h];exact .inr hi
 .rcases df.mp ((sy (c:=c.nk [c.cr,x]) (.inl rfl)).mp g)with h|h
  .rw[h];exact .inl ec.2
  .rw[dD.mp h];rcases hs.1 with q|q
   .exact .inl ((sd q).mpr (.inr hx))
   .exact .inr (Ej (hf (rH.mpr ⟨q,hx⟩)))
 .exact absurd (rH.mp g).1 (show("talks":Str)≠"waits" by decide)
def xG{c:oW}{x:Str}:c.mK x=true↔c.st="talks"/\x∈c.ms/\c.ms.length=2:=by unfold oW.mK oW.mJ;rw[dU,dU,fk,qG,fk,and_assoc]
def LA{l:pj}{c:oW}(k:uU l false c)(h:c.st="talks"):c.hd=none/\c.wd=none/\c.at_=[]:=by
 rcases k.sh with g|⟨_,g|g|⟨_,g⟩|g⟩
 .rw[h]at g;exact absurd g.1 (by decide)
 .rw[h]at g;exact absurd g.1 (by decide)
 .exact g.2.2
 .rw[h]at g;exact absurd g.1 (by decide)
 .rw[h]at g;exact absurd g.1 (by decide)
def AQ{l:pj}{c:oW}{x:Str}(k:uU l false c)(h:c.hd=some x):c.st="held"/\c.ms.length=2/\x∈c.ms/\c.wd=none/\c.at_=[]:=by
 rcases k.sh with g|⟨_,g|g|⟨y,g⟩|g⟩
 .rw[h]at g;cases g.2.2.1
 .rw[h]at g;cases g.2.2.1
 .rw[h]at g;cases g.2.2.1
 .have e:=g.2.2.1;rw[h]at e;cases e;exact⟨g.1,g.2.1,g.2.2.2⟩
 .rw[h]at g;cases g.2.2.1
def NV{l:pj}{V:pX}{i:Nat}{c:oW}{x:Str}(wf:WF l V)(hc:V.calls[i]?=some c)(hx:c.mK x=true):WF l (pO V (.held i x)):=by
 have k:=wf.ok i c hc;obtain⟨h1,h2,h3⟩:=xG.mp hx;obtain⟨s1,s2,s3⟩:=LA k h1;refine wf.set (V':=pO V (.held i x)) (c':=c.hold x) (qW (V:=qB V _) hc) hc (λ_ _=>rfl) ⟨.inr ⟨rfl,.inr (.inr (.inl ⟨x,rfl,h3,rfl,h2,s2,s3⟩))⟩,k.cr,k.at_,k.ms,k.an,k.mn,k.ca,k.wy⟩ (λy g=>.inl ?_) (λy g=>.inl ?_) (λy g=>?_) wf.nx
 .exact(sS h1).mpr ((Ca (c:=c.hold x) rfl).mp g).1
 .exact(sy (.inl h1)).mpr ((sy (c:=c.hold x) (.inr rfl)).mp g)
 .exact absurd (rH.mp g).1 (show("held":Str)≠"waits" by decide)
def Oq{l:pj}{V:pX}{i:Nat}{c:oW}{x:Str}(wf:WF l V)(hc:V.calls[i]?=some c)(hx:c.hd=some x)(hi:CO V x):WF l (pO V (.talks i c.ms)):=by
 have k:=wf.ok i c hc;obtain⟨h1,h2,h3,h4,h5⟩:=AQ k hx;refine wf.set (V':=pO V (.talks i c.ms)) (c':=c.nk c.ms) (qW (V:=qB V _) hc) hc (λ_ _=>rfl) ⟨.inr ⟨rfl,.inr (.inl ⟨rfl,.inl h2,rfl,h4,rfl⟩)⟩,k.cr,(λy h=>by cases h),k.ms,eG,k.mn,(λh=>by cases h),k.wy⟩ (λy g=>?_) (λy g=>.inl ?_) (λy g=>?_) wf.nx
 .have g:=(sS (c:=c.nk c.ms) rfl).mp g;by_cases e:y=x
  .rw[e];exact .inr hi
  .exact .inl ((Ca h1).mpr ⟨g,λq=>e (dh (q.symm.trans hx))⟩)
 .exact(sy (.inr h1)).mpr ((sy (c:=c.nk c.ms) (.inl rfl)).mp g)
 .exact absurd (rH.mp g).1 (show("talks":Str)≠"waits" by decide)
def Dv{c:oW}{x:Str}(nd:c.ms.Nodup)(h2:c.ms.length=2)(hx:x∈c.ms):pU c x∈c.ms/\pU c x≠x:=by
 have dl:=uY nd hx;obtain⟨y,r,e⟩:=List.exists_cons_of_length_pos (show 0<(qQ c.ms x).length by omega);have hm:y∈qQ c.ms x:=by rw[e];exact dN
 unfold pU;rw[e];exact tD.mp hm
def DU{l:pj}{V:pX}{i j:Nat}{c d:oW}{w x:Str}(wf:WF l V)(hc:V.calls[i]?=some c)(hd:V.calls[j]?=some d)(h1:c.hd=some x)(h2:d.mK x=true):i≠j/\WF l (pO V (.merge i j (if (w=="hand")=true then[pU c x,pU d x]else[x,pU c x,pU d x]))):=by
 have k:=wf.ok i c hc;have kd:=wf.ok j d hd;obtain⟨c1,c2,c3,c4,c5⟩:=AQ k h1;obtain⟨d1,d2,d3⟩:=xG.mp h2;obtain⟨a1,a2⟩:=Dv k.mn c2 c3;obtain⟨b1,b2⟩:=Dv kd.mn d3 d2;have Xf:i≠j:=λq=>by subst q;rw[hc]at hd;cases hd;rw[c1]at d1;exact absurd d1 (by decide)
 refine⟨Xf,?_⟩;have ea:AK c (pU c x):=(Ca c1).mpr ⟨a1,λq=>a2 (dh (q.symm.trans h1))⟩;have ab:pU c x≠pU d x:=λq=>Xf (wf.un i j c d _ hc hd ea (by rw[q];exact(sS d1).mpr b1));generalize hms:(if (w=="hand")=true then[pU c x,pU d x]else[x,pU c x,pU d x])=ms;have mm:∀y∈ms,y=x\/y=pU c x\/y=pU d x:=λy hy=>by
  rw[<-hms]at hy;split at hy
  .rcases df.mp hy with g|g
   .exact .inr (.inl g)
   .exact .inr (.inr (dD.mp g))
  .rcases df.mp hy with g|g
   .exact .inl g
   .rcases df.mp g with g|g
    .exact .inr (.inl g)
    .exact .inr (.inr (dD.mp g))
 have n2:[pU c x,pU d x].Nodup:=dO.mpr ⟨λh=>ab (dD.mp h),dO.mpr ⟨dB,eG⟩⟩;refine Gv (V':=pO V (.merge i j ms)) (ms:=ms) wf (.inl rfl) hc hd Xf ?_ wf.nx d1 ?_ ?_ (λy hy=>?_) (λy hy=>?_)
 .show(V.calls.modify i _).modify j _=_;rw[sU hc,sU (show(V.calls.set i _)[j]?=some d by rw[eP Xf];exact hd)]
 .rw[<-hms];split
  .exact n2
  .refine dO.mpr ⟨λh=>?_,n2⟩;rcases df.mp h with g|g
   .exact a2 g.symm
   .exact b2 (dD.mp g).symm
 .rw[<-hms];split
  .exact .inl rfl
  .exact .inr rfl
 .rcases mm y hy with g|g|g
  .rw[g];exact .inl d2
  .rw[g];exact .inr ⟨ea,(sy (.inr c1)).mpr a1⟩
  .rw[g];exact .inl b1
 .rcases mm y hy with g|g|g
  .rw[g];exact k.ms x c3
  .rw[g];exact k.ms _ a1
  .rw[g];exact kd.ms _ b1
def QZ{V:pX}{i:Int}(h:zd V.calls.length i=true):∃c,V.calls[i.toNat]?=some c:=by unfold zd at h;rw[dU,eB,eB]at h;exact⟨_,cW (by omega)⟩
def DE{V:pX}{x:Str}{b:Bool}(h:(if ((ui V x).isNone&&b)=true then some ("full":Str)else ui V x)=none):ui V x=none/\b=false:=by
 cases e:ui V x with
 | some w=>rw[e]at h;cases h
 | none=>
  rw[e]at h;cases b with
  | true=>cases h
  | false=>exact⟨rfl,rfl⟩
inductive Dd(l:pj)(V:pX)(x:Str):Str->List Int->Prop
 | answer (i:Int) (c:oW):0<=i->V.calls[i.toNat]?=some c->hasS c.at_ x=true->CO V x->(c.mD x=true->tF l V x=true)->Dd l V x "answer" [i]
 | hang (i:Int) (c:oW):0<=i->V.calls[i.toNat]?=some c->c.mU x=true->Dd l V x "hang" [i]
 | hold (i:Int) (c:oW):0<=i->V.calls[i.toNat]?=some c->c.mK x=true->Dd l V x "hold" [i]
 | back (i:Int) (c:oW):0<=i->V.calls[i.toNat]?=some c->c.hd=some x->CO V x->Dd l V x "back" [i]
 | two (w:Str) (i j:Int) (c d:oW):0<=i->0<=j->w="hand"\/w="join"->V.calls[i.toNat]?=some c->V.calls[j.toNat]?=some d->c.hd=some x->d.mK x=true->Dd l V x w [i,j]
def Ef{l:pj}{V:pX}{w x:Str}{ns:List Int}(f:(tP.num w x ns).ng)(h:xu l V (.num w x ns)=none):x∈l.pn/\Dd l V x w ns:=by
 have hp:hasS l.pn x=true:=by
  cases q:hasS l.pn x with
  | true=>rfl
  | false=>unfold xu at h;dsimp only at h;rw[c9 q]at h;cases h
 refine⟨qG.mp hp,?_⟩;unfold xu at h;dsimp only at h;rw[cY (by rw[hp];decide)]at h;unfold Ma at h;cases q1:ns.all (zd V.calls.length)with
 | false=>rw[c9 q1]at h;cases h
 | true=>
 rw[cY (by rw[q1];decide)]at h;cases q2:IR w x (sT V ns)with
 | false=>rw[c9 q2]at h;cases h
 | true=>
 rw[cY (by rw[q2];decide)]at h;have z:∀i∈ns,0<=i/\∃c,V.calls[i.toNat]?=some c:=λi hi=>by have g:=eL.mp q1 i hi;refine⟨?_,QZ g⟩;unfold zd at g;rw[dU,eB]at g;exact g.1
 rcases f with⟨fw,fl⟩|⟨fw,fl⟩
 .match ns,fl with
  | [i],_=>
   obtain⟨hi,c,hc⟩:=z i dN;have ec:sT V [i]=[c]:=by unfold sT;rw[fU,hc];rfl
   rw[ec]at h q2;rcases fw with rfl|rfl|rfl|rfl
   .rw[cY (by decide)]at h;obtain⟨h1,h2⟩:=DE h;refine .answer i c hi hc q2 (EO h1) λhw=>?_;have h2:(c.mD x&&!(tF l V x))=false:=h2;rw[hw]at h2
    simpa using h2
   .exact .hang i c hi hc q2
   .exact .hold i c hi hc q2
   .rw[cY (by decide)]at h;exact .back i c hi hc (eq_of_beq q2) (EO (DE h).1)
 .match ns,fl with
  | [i,j],_=>
   obtain⟨hi,c,hc⟩:=z i dN;obtain⟨hj,d,hd⟩:=z j (dC _ dN);have ec:sT V [i,j]=[c,d]:=by unfold sT;rw[fU,hc];dsimp only;rw[fU,hd];rfl
   rw[ec]at q2;have q3:((c.hd==some x)&&d.mK x)=true:=by rcases fw with rfl|rfl<;>exact q2
   rw[dU]at q3;exact .two w i j c d hi hj fw hc hd (eq_of_beq q3.1) q3.2
def Es{l:pj}{V:pX}{y z:Str}(h:xu l V (.call y z)=none):y∈l.pn/\z∈l.nm/\CO V y/\tF l V y=true:=by
 unfold xu at h;dsimp only at h;cases q:hasS l.pn y with
 | false=>rw[c9 q]at h;cases h
 | true=>
 rw[cY (by rw[q];decide)]at h;unfold FZ at h;cases q1:hasS l.nm z with
 | false=>rw[c9 q1]at h;cases h
 | true=>
 rw[cY (by rw[q1];decide)]at h;obtain⟨h1,h2⟩:=DE h;exact⟨qG.mp q,qG.mp q1,EO h1,by simpa using h2⟩
def Ky{l:pj}{V:pX}{b:Bool}{i:Int}(h:xu l V (.sw b i)=none):0<=i/\i.toNat<V.on.length:=by
 unfold xu OG at h;dsimp only at h;cases q:zd V.on.length i with
 | false=>rw[c9 q]at h;cases h
 | true=>unfold zd at q;rw[dU,eB,eB]at q;omega
def wK{V:pX}{w x:Str}{i:Nat}{c:oW}(h:V.calls[i]?=some c):EK V w x i=if (w=="answer")=true then .talks i [c.cr,x]else if (w=="hold")=true then .held i x else .talks i c.ms:=by unfold EK;rw[h];rfl
def Fb{V:pX}{w x:Str}{i j:Nat}{c d:oW}(h:V.calls[i]?=some c)(g:V.calls[j]?=some d):FQ V w x i j=.merge i j (if (w=="hand")=true then[pU c x,pU d x]else[x,pU c x,pU d x]):=by unfold FQ;rw[h,g];rfl
def S'{l:pj}{V:pX}{e:tP}(ok:rf l)(wf:WF l V)(f:e.ng)(h:xu l V e=none):WF l (qz V (sr l V e)):=by
 cases e with
 | call y z=>obtain⟨h1,h2,h3,h4⟩:=Es h;obtain⟨k,hk⟩:=L7 (V:=V) (y:=y) (z:=z);show WF l (qz V (_++xg l _ _));rw[sf];exact P9 ok (G1 wf h1 h2 h3 h4) hk
 | turn=>exact D0 ok _ (DI wf)
 | sw b i=>exact TF wf
 | num w x ns=>
  obtain⟨_,n⟩:=Ef f h;cases n with
  | answer i c hi hc h1 h2 h3=>show WF l (pO V (EK V "answer" x i.toNat));rw[wK hc];exact JW wf hc h1 h2 h3
  | hang i c hi hc h1=>exact Om wf hc h1
  | hold i c hi hc h1=>show WF l (pO V (EK V "hold" x i.toNat));rw[wK hc];exact NV wf hc h1
  | back i c hi hc h1 h2=>show WF l (pO V (EK V "back" x i.toNat));rw[wK hc];exact Oq wf hc h1 h2
  | two _ i j c d hi hj hw hc hd h1 h2=>show WF l (pO V (FQ V w x i.toNat j.toNat));rw[Fb hc hd];exact(DU wf hc hd h1 h2).2
def Ph(a:Ad):qT:=λds M Q=>Mr λM0 b A V l c n x i k=>ds=[.ref b,.str x,.int ((i:Nat):Int)]/\tw a M0 M b A V l c n/\c<=1000000/\n<=7000000/\V.calls[i]?=some k/\∀M' A',tw a M0 M' b A' (qz V (uL V x i)) l c (n+2)->qE A M A' M'->Q .mC M'
def ON(a:Ad):qT:=λds M Q=>Ij λA V l L k c=>ds=[.ref A.b,.ref (qV.p k)]/\Rd a M A V l/\rm a M L k c/\Q (vQ (GL l V (Fl c))) M
def NA(a:Ad):qT:=λds M Q=>Mr λM0 b A V l c n i k r=>ds=[.ref b,.int ((i:Nat):Int),vQ (k::r)]/\tw a M0 M b A V l c n/\c<=1000000/\n<=6900000/\WF l V/\UC l V i (k::r)/\∀M' A',tw a M0 M' b A' (qz V (sR l V i (k::r))) l c (n+33)->qE A M A' M'->Q .mC M'
def OJ(a:Ad):qT:=λds M Q=>Su λM0 b A V l c n=>ds=[.ref b]/\tw a M0 M b A V l c n/\c<=10000/\n<=6000000/\WF l V/\∀M' A',tw a M0 M' b A' (qz V (DM l V)) l c (n+1+33*c)->qE A M A' M'->Q .mC M'
def Ro{a:Ad}{M:Mp}{L:List Addr}{k:qV}{c:oW}{v:Wi}{r:Addr}{Q:DK}(h:M r=some (.ins (v.cls a) v.nv))(hk:rm a M L k c)(q:Q (.bl (Fl c v)) M):Na a v [.ref r,.ref k.p] M Q:=by
 cases v with
 | silent x y n=>exact⟨r,L,k,c,rfl,h,hk,q⟩
 | _=>exact⟨_,_,rfl,q⟩
def Pn(G:Gl K mg a):Fq P w K mg base 4 a.a4 (Ph a):=by
 refine fq G.a4.toDG Bd (λr u=>⟨_,(oQ (pB 3 Bd (pz (oX v0) U2))
 (oS (pE (uS (pK U3 G.e.toCls G.U (Bu G) r (pT U1)))
 (oS (pD (pK v0 G.c.toCls G.k (qH G) r (pT (pC (qN oV U2 oV))))))
 (oS (pE (pb u U1 (oX U3))
 (oQ (pD (pK v0 G.c.toCls G.k (qH G) r (pT (pC (qN oV U2 U1)))))
 (oS (pE (pb u (pH qk rfl G.g qc (pT (oX U3))) oU)
 (oS (pD (pK v0 G.c.toCls G.k (qH G) r (pT (pC (qN oV U2 oV))))))
 pk)))
 (oS (pE (pb u (pH qk rfl G.g qc (pT (oX U3))) oU)
 (oS (pD (pK v0 G.c.toCls G.k (qH G) r (pT (pC (qN oV U2 U1))))))
 (oS (pD (pK v0 G.c.toCls G.k (qH G) r (pT (pC (qN oV U2 oV))))))))))))),?_⟩)
 rintro ds M Q ⟨M0,b,A,V,l,cc,n,x,i,c,rfl,cu,YN,hn,hc,q⟩
 obtain⟨ka,ci⟩:=cu.call hc;obtain⟨ad,md,h1,h2,h3,h4,n1,n2⟩:=ci.cell;have hi:=(cV.mp hc).1;refine oR cu.at_ (i' rfl (i' rfl (i' ci.bd.ca (i' (qx ci.e1) ?_))));refine oR h1 ⟨rfl,_,⟨rfl,rfl⟩,_,ka,c,x,rfl,ci.cell,?_⟩;unfold uL at q;rw[hc]at q;dsimp only[Option.elim]at q;have over:∀(w0:Str),(∀M' A',tw a M0 M' b A' (qz V [.over i w0]) l cc (n+2)->qE A M A' M'->Q .mC M')->∀(M1:Mp) (A1:so),A1.b=A.b->qE A M A1 M1->pA a M1 A1 (pO V (.over i w0))->∃Wq,qh Wq M1/\Q .mC Wq:=λw0 q M1 A1 eb st bd=>⟨M1,.refl,q M1 A1 ((cu.after (e:=.over i w0) hi eb st bd).mono (dg _) (by omega)) st⟩;refine qr (c:=c.mH x) (λg=>?_) (λg=>?_)
 .rw[c9 g]at q;exact oR cu.at_ ⟨rfl,_,⟨rfl,rfl⟩,oO rfl,b,A,V,.over i "left",rfl,cu.b,cu.bd,cu.lim YN (by omega),hi,over "left" q⟩
 rw[cY g]at q;refine oR h1 (i' rfl (i' h3 ⟨rfl,qe _,?_⟩));show if inD (.str x) (c.at_.map D.str)=true then _ else _
 rw[rT];refine qr (c:=hasS c.at_ x) (λg2=>?_) (λg2=>?_)
 .rw[c9 g2]at q;refine oR cu.at_ ⟨rfl,_,⟨rfl,rfl⟩,oO rfl,b,A,V,.leaves i x,rfl,cu.b,cu.bd,cu.lim YN (by omega),hi,λM1 A1 eb st bd=>?_⟩;have c1:=cu.after (e:=.leaves i x) hi eb st bd;have YQ:(pO V (.leaves i x)).calls=V.calls.set i (c.drop x):=qW (V:=qB V _) hc;have hc1:(pO V (.leaves i x)).calls[i]?=some (c.drop x):=by rw[YQ,eJ hi]
  obtain⟨ad',md',g1,YJ,g3,g4,_⟩:=c1.bd.cs i ka _ (st.2.2.1 i ka ci.e1) hc1;have le0:((((c.drop x).at_.map D.str).length:Int)==0)=decide (qQ c.at_ x=[]):=by rw[cT,gg,fk,eB];show((qQ c.at_ x).length:Int)=0↔_;rw[<-fL];omega
  refine oR g1 (i' rfl (i' g3 ?_));refine qr (c:=(((c.drop x).at_.map D.str).length:Int)==0) (λg5=>?_) (λg5=>?_)
  .rw[le0,eB]at g5;rw[c9 g5]at q;have W9:i<(pO V (.leaves i x)).calls.length:=(cV.mp hc1).1;refine oR c1.at_ ⟨rfl,_,⟨rfl,rfl⟩,oO rfl,b,A1,_,.over i "refused",rfl,c1.b,c1.bd,c1.lim YN (by omega),W9,λM2 A2 Yf WC XB=>?_⟩;exact⟨M2,.refl,q M2 A2 (c1.after (e:=.over i "refused") W9 Yf WC XB) (st.trans WC)⟩
  .rw[le0,eB]at g5;rw[cY g5]at q;exact⟨M1,.refl,q M1 A1 (c1.mono (dg _) (by omega)) st⟩
 .rw[cY g2]at q;refine oR h1 (i' rfl (i' h4 ?_));have lm:decide ((2:Int)<((c.ms.map D.str).length:Int))=decide (2<c.ms.length):=by rw[cT,gg,eB,eB];omega
  refine qr (c:=decide ((2:Int)<((c.ms.map D.str).length:Int))) (λg3=>?_) (λg3=>?_)
  .rw[lm,eB]at g3;rw[c9 g3]at q;refine oR cu.at_ ⟨rfl,_,⟨rfl,rfl⟩,oO rfl,b,A,V,.leaves i x,rfl,cu.b,cu.bd,cu.lim YN (by omega),hi,λM1 A1 eb st bd=>?_⟩;exact⟨M1,.refl,q M1 A1 ((cu.after (e:=.leaves i x) hi eb st bd).mono (dg _) (by omega)) st⟩
  .rw[lm,eB]at g3;rw[cY g3]at q;exact oR cu.at_ ⟨rfl,_,⟨rfl,rfl⟩,oO rfl,b,A,V,.over i "done",rfl,cu.b,cu.bd,cu.lim YN (by omega),hi,over "done" q⟩
def OR(G:Gl K mg a):Fq P w K mg base 2 a.a5 (ON a):=by
 refine fq G.a5.toDG ya (λr u=>⟨_,(oQ (pB 2 ya (oX (oX v0)))
 (oS (oY (qg tS rfl G.H tW (pT (qw rfl (xV (ix:=[none,none,some 2,some 1]) (N':=["i","on","wishes","call"])) (wA rfl G.bT (pT (oX v0))) (uT (n:=2) rfl (ql (qu 0) (ql (qu 1) tK))) (uX (W3.b3 (vF (uS U1) (vj (uS (El (R:=Gs a) (pz U2 v0) (Uo G) (r.mono (by first|decide|omega)) (pT U3))))))) v0)))))),?_⟩)
 rintro ds M Q ⟨A,V,l,L,k,c,rfl,rd,hk,q⟩
 obtain⟨ph,gr,ws,XS,pr,gd,rs,i1,i2,i3,i4,i5,i6,i7,i8⟩:=rd.pl;refine oR rd.bd.at_ (i' rfl (oR i1 (i' rfl ?_)));refine oR rd.bd.at_ (i' rfl (i' rd.bd.on ?_));refine HZ (rest:=[some (.ref ws),some (.ref k.p)]) rd.on rd.ok.w16 rd.bd.on (λi w0 ew y kk hkk=>?_) λp hp=>i' o9 ⟨M,.new hp,q⟩;obtain⟨r,e1,e2⟩:=AR i8 ew;exact i' i4 (i' e1 (oR e2 ⟨by cases w0.2<;>rfl,_,⟨w0.2,rfl,rfl⟩,Ro e2 hk hkk⟩))
def PR(G:Gl K mg a):Fq P w K mg base 10 a.a6 (NA a):=by
 refine fq G.a6.toDG B6 (λr u=>⟨_,(oQ (pB 3 B6 (BE (R:=Mb a) (pz (oX (oX v0)) (pz U2 oU)) (R4 G) (r.mono (by first|decide|omega))))
 (oQ (pD (pK v0 G.c.toCls G.k (qH G) r (pT (pC (pN oV (qN U1 (pz U3 oU) U2))))))
 (oQ (pD (pK v0 G.c.toCls G.k (qH G) r (pT (pC (rB oV U1)))))
 (oQ (pD (pK v0 G.c.toCls G.k (qH G) r (pT (pC (pN oV (pN U1 (qN (pz U3 oU) (pz U3 oU) (pz U3 oU))))))))
 (oS (pD (pq (IE G) r G.aa (rB v0 U1)))))))),?_⟩)
 rintro ds M Q ⟨M0,b,A,V,l,c,n,i,k,r,rfl,cu,hc,hn,wf,du,q⟩
 obtain⟨ph,gr,ws,XS,pr,gd,rs,i1,i2,i3,i4,i5,i6,i7,i8⟩:=cu.pl;cases du with
 | on k0 _ _ b0 x y m hk hs hw hl hy=>
  have hi:=(cV.mp hk).1;rw[zD hw]at q;rw[sf]at q;obtain⟨r0,e1,e2⟩:=AR i8 hw;refine oR cu.at_ (i' rfl (oR i1 (i' rfl (i' (wO _ _) (i' i4 (i' e1 (oR e2 ⟨rfl,_,⟨⟨.silent x y m,rfl⟩,rfl⟩,r0,.silent x y m,rfl,e2,?_⟩)))))));refine oR cu.at_ ⟨rfl,_,⟨rfl,rfl⟩,oO rfl,b,A,V,.asks i x (k::r),rfl,cu.b,cu.bd,cu.lim hc (by omega),trivial,λM1 A1 eb1 WY bd1=>?_⟩;have c1:=cu.after (e:=.asks i x (k::r)) trivial eb1 WY bd1;refine oR c1.at_ ⟨rfl,_,⟨rfl,rfl⟩,oO rfl,b,A1,_,.quiet i,rfl,c1.b,c1.bd,c1.lim hc (by omega),hi,λM2 A2 Yf WC XB=>?_⟩;have c2:=c1.after (e:=.quiet i) hi Yf WC XB;have Xt:i<(pO (pO V (.asks i x (k::r))) (.quiet i)).calls.length:=by show i<(V.calls.modify i oW.nz).length;rw[eU];exact hi
  refine oR c2.at_ ⟨rfl,_,⟨rfl,rfl⟩,oO rfl,b,A2,_,.leg ⟨i,x,y,x⟩,rfl,c2.b,c2.bd,c2.lim hc (by omega),Xt,λM3 A3 eb3 W0 bd3=>?_⟩;have c3:=c2.after (e:=.leg ⟨i,x,y,x⟩) Xt eb3 W0 bd3;exact⟨M0,b,A3,_,l,c,n+3,i,_,rfl,c3,hc,by omega,DO wf hk hs hy,EC hk,λM4 A4 c4 st4=>⟨M4,.refl,q M4 A4 (c4.mono (dg _) (by omega)) (WY.trans (WC.trans (W0.trans st4)))⟩⟩
def Nu(G:Gl K mg a):Fq P w K mg base 11 a.a7 (OJ a):=by
 refine fq G.a7.toDG sQ (λr u=>⟨_,(oQ (pD (pK v0 G.c.toCls G.k (qH G) r (pT (pC (pT oV)))))
 (oS (uB fu rfl (wA rfl G.bT (pT (qg tH rfl G.y tI (pT (oX v0))))) (uT (n:=2) rfl (ql (rg 1 sQ) (ql (rg 2 sQ) tK)))
 (oS (pE (pb u (oX U2) oV)
 (oQ (pB 3 sQ (pq (OR G) r G.a5 (rB v0 U2)))
 (oS (pE (pb u (pH qk rfl G.g qc (pT U3)) oU)
 (oS (pD (pq (PR G) r G.a6 (qN v0 U1 U3))))
 pk)))
 pk))))),?_⟩)
 rintro ds M Q ⟨M0,b,A,V,l,c,n,rfl,cu,hc,hn,wf,q⟩
 refine oR cu.at_ ⟨rfl,_,⟨rfl,rfl⟩,oO rfl,b,A,V,.turn,rfl,cu.b,cu.bd,cu.lim (by omega) (by omega),trivial,λM1 A1 eb st bd=>?_⟩;have c1:=cu.after (e:=.turn) trivial eb st bd;have wf1:=DI wf;have lv:(pO V .turn).calls.length=V.calls.length:=cT ..;have ev:DM l V=.turn::rj l (List.range V.calls.length) (pO V .turn):=rfl;rw[ev,<-lv]at q;have q:∀M' A',tw a M0 M' b A' (qz (pO V .turn) (rj l (List.range (pO V .turn).calls.length) (pO V .turn))) l c (n+1+33*c)->qE A M A' M'->Q .mC M':=q;have c1:tw a M0 M1 b A1 (pO V .turn) l c (n+1):=c1;generalize pO V .turn=V1 at c1 wf1 q bd;refine oR c1.at_ (i' rfl (i' c1.bd.ca λr hr=>i' o9 ?_));have t:=qh.new (c:=.lst (A1.cs.map λk=>D.ref k.p)) hr;have lr:=@o9 M1 r (A1.cs.map λk=>D.ref k.p);have nf:=c1.bd.nj hr;have c2:=c1.sub t;have cl:V1.calls.length<=c:=c1.sz.ca;generalize oZ M1 r (.lst (A1.cs.map λk=>D.ref k.p))=M2 at t lr c2 ⊢;refine wm (uh 0 (A1.cs.map λk=>D.ref k.p)) (λpre δ M'=>(∃A',tw a M0 M' b A' (qz V1 (rj l (List.range pre.length) V1)) l c (n+1+33*pre.length)/\qE A1 M2 A' M')/\∃y1 y2 y3,δ=[some (.ref b),y1,y2,y3]) (λpre δ M' j=>?_) _ [] _ _ rfl ⟨⟨A1,c2,.refl⟩,none,none,none,rfl⟩ ?_ ?_
 .obtain⟨⟨A',c3,W0⟩,_⟩:=j;exact rk (W0.1 r _ nf (pJ lr))
 .rintro pre d post e δ M' ⟨⟨A',c3,W0⟩,y1,y2,y3,rfl⟩ nx Wy
  rw[cX,dQ,jO,CW,sf]at Wy;have Y3:=D0 cu.ok (List.range pre.length) wf1;generalize qz V1 (rj l (List.range pre.length) V1)=V3 at c3 Y3 Wy;obtain⟨x,hx,rfl⟩:=IJ e;rw[dA]at hx;cases ek:A1.cs[pre.length]? with
  | none=>rw[ek]at hx;cases hx
  | some k=>
   rw[ek]at hx;have hx:D.ref k.p=x:=dh hx;subst hx;have hp:pre.length<c:=by have:=(cV.mp ek).1;rw[c1.bd.len]at this;omega
   have ek3:=W0.2.2.1 _ k ek;have hi:pre.length<V3.calls.length:=by rw[<-c3.bd.len];exact(cV.mp ek3).1
   have ec:V3.calls[pre.length]?=some V3.calls[pre.length]:=cW hi;generalize V3.calls[pre.length]=cv at ec;have ca:=c3.bd.cs _ k cv ek3 ec;obtain⟨ad,md,g1,_⟩:=ca;refine⟨rfl,oR g1 (i' rfl ?_)⟩;have hdv:yg l V3 pre.length=if (cv.st=="rings")=true then GL l V3 (Fl cv)else[]:=by unfold yg;rw[ec];rfl
   have mC:yg l V3 pre.length=[]->∀y1' y2' y3',nx [some (.ref b),y1',y2',y3'] M':=λh0 y1' y2' y3'=>Wy _ _ ⟨⟨A',by rw[h0];exact c3.mono (dg _) (by omega),W0⟩,_,_,_,rfl⟩;have du:=GY (V:=V3) (i:=pre.length) cu.ok;refine qr (c:=cv.st=="rings") (λg=>?_) (λg=>mC (by rw[hdv,cY g]) _ _ _);rw[c9 g]at hdv;refine⟨A',V3,l,_,k,cv,by rw[c3.b],c3.rd (by omega) Y3,c3.bd.cs _ k cv ek3 ec,?_⟩;rw[<-hdv];cases hdq:yg l V3 pre.length with
   | nil=>exact mC hdq _ _ _
   | cons k0 r0=>rw[hdq]at du Wy;refine Av (dR (by rw[cT];show(0:Int)<((k0::r0).length:Nat);rw[d6];omega)) ?_;exact⟨M0,b,A',V3,l,c,_,pre.length,k0,r0,rfl,c3,by omega,by omega,Y3,du,λM4 A4 c4 st4=>Wy _ _ ⟨⟨A4,c4.mono (dg _) (by omega),W0.trans st4⟩,_,_,_,rfl⟩⟩
 .rintro δ M' ⟨⟨A',c3,W0⟩,y1,y2,y3,rfl⟩
  have hl:(uh 0 (A1.cs.map λk=>D.ref k.p)).length=V1.calls.length:=by rw[uZ,cT,c1.bd.len]
  rw[hl]at c3;exact⟨M',.refl,q M' A' (c3.mono (dg _) (by omega)) (st.trans ((qE.sub t).trans W0))⟩
inductive P'(l:pj)(V:pX):tP->Ev->Prop
 | sw (b:Bool) (i:Nat):i<V.on.length->P' l V (.sw b (i:Nat)) (.sw b i)
 | answer (x:Str) (i:Nat) (c:oW):V.calls[i]?=some c->P' l V (.num "answer" x [(i:Nat)]) (.talks i [c.cr,x])
 | hold (x:Str) (i:Nat) (c:oW):V.calls[i]?=some c->P' l V (.num "hold" x [(i:Nat)]) (.held i x)
 | back (x:Str) (i:Nat) (c:oW):V.calls[i]?=some c->P' l V (.num "back" x [(i:Nat)]) (.talks i c.ms)
 | two (w x:Str) (i j:Nat) (c d:oW):i≠j->w="hand"\/w="join"->V.calls[i]?=some c->V.calls[j]?=some d->qQ c.ms x≠[]->qQ d.ms x≠[]->P' l V (.num w x [(i:Nat),(j:Nat)]) (.merge i j (if (w=="hand")=true then[pU c x,pU d x]else[x,pU c x,pU d x]))
def Fu(a:Ad):qT:=λds M Q=>GC λA V l e ev=>ds=[.ref A.b,tP.d e]/\Rd a M A V l/\P' l V e ev/\Q ev.d M
def Sk(a:Ad):qT:=λds M Q=>Sy λM0 b A V l c n e=>ds=[.ref b,tP.d e]/\tw a M0 M b A V l c n/\c<10000/\n<=5000000/\WF l V/\e.ng/\xu l V e=none/\∀M' A',tw a M0 M' b A' (qz V (sr l V e)) l (c+1) (n+40+33*c)->qE A M A' M'->Q .mC M'
def VM(a:Ad)(M0 M:Mp)(b:Addr)(A:so)(V:pX)(l:pj)(c n:Nat)(e:tP)(Q:DK):Prop:=xu l V e=none->∀M' A' r,tw a M0 M' b A' (qz V (sr l V e)) l (c+1) (n+40+33*c)->qE A M A' M'->M' r=none->Q (.ref r) (oZ M' r (.lst ((sr l V e).map Ev.d)))
def SW(a:Ad):F4:=λds M Q R=>Sy λM0 b A V l c n e=>ds=[.ref b,tP.d e]/\tw a M0 M b A V l c n/\c<10000/\n<=5000000/\WF l V/\e.ng/\VM a M0 M b A V l c n e Q/\(∀w,xu l V e=some w->R a.F (some ("word",.str w)) M)
def Rd.call{a:Ad}{M:Mp}{A:so}{V:pX}{l:pj}(rd:Rd a M A V l){i:Nat}{c:oW}(e:V.calls[i]?=some c):∃k,A.cs[i]?=some k/\rm a M (A.lists++V.fo) k c:=by
 have hi:i<A.cs.length:=by rw[rd.bd.len];exact(cV.mp e).1
 exact⟨A.cs[i],cW hi,rd.bd.cs i _ c (cW hi) e⟩
def uc{i:Int}(h:0<=i):∃m:Nat,i=(m:Int):=eh h
def AM{c:oW}{x:Str}(nd:c.ms.Nodup)(h2:c.ms.length=2)(hx:x∈c.ms):qQ c.ms x≠[]:=λz=>by have:=uY nd hx;rw[z]at this;simp only[dI]at this;omega
def L6(G:Gl K mg a):Fq P w K mg base 2 a.a8 (Fu a):=by
 refine fq G.a8.toDG sI (λr u=>⟨_,(oQ (pB 2 sI (pz U1 oU))
 (oQ (pE (pb u U2 (pC (rB oV oV)))
 (oS (oY (pC (rB U2 (pz U1 oU)))))
 pk)
 (oQ (pB 3 sI (pz U1 oU))
 (oQ (pB 4 sI (pz U1 oU))
 (oQ (pB 5 sI (pz (oX v0) v4))
 (oQ (pE (pb u U2 oV)
 (oS (oY (pC (qN oV v4 (pC (rB (oX v5) U3))))))
 pk)
 (oQ (pE (pb u U2 oV)
 (oS (oY (pC (qN oV v4 U3))))
 pk)
 (oQ (pE (pb u U2 oV)
 (oS (oY (pC (qN oV v4 (qg tS rfl G.H tW (pT (oX v5)))))))
 pk)
 (oQ (pB 6 sI (pz U1 oU))
 (oQ (pB 7 sI (pC (rB (pK v5 G.e.toCls G.au (Gj G) r (pT U3)) (pK (pz (oX v0) v6) G.e.toCls G.au (Gj G) r (pT U3)))))
 (oQ (pE (pb u U2 oV)
 (oS (oY (pC (pN oV (qN v4 v6 v7)))))
 pk)
 (oS (oY (pC (pN oV (qN v4 v6 (pM (pC (pT U3)) v7))))))))))))))))),?_⟩)
 rintro ds M Q ⟨A,V,l,e,ev,rfl,rd,sg,q⟩
 cases sg with
 | sw b i hi=>
  cases b with
  | true=>exact⟨oO rfl,rfl,rfl,oO rfl,M,.refl,q⟩
  | false=>exact⟨oO rfl,rfl,rfl,oO rfl,M,.refl,q⟩
 | answer x i c hc=>obtain⟨k,ek,ca⟩:=rd.call hc;obtain⟨ad,md,h1,h2,h3,h4,n1,n2⟩:=ca;refine⟨oO rfl,rfl,rfl,?_⟩;refine oR rd.bd.at_ (i' rfl (i' rfl (i' rd.bd.ca (i' (qx ek) ?_))));exact oR h1 (i' rfl ⟨oO rfl,oO rfl,M,.refl,q⟩)
 | hold x i c hc=>obtain⟨k,ek,ca⟩:=rd.call hc;refine⟨oO rfl,rfl,rfl,?_⟩;refine oR rd.bd.at_ (i' rfl (i' rfl (i' rd.bd.ca (i' (qx ek) ?_))));exact⟨oO rfl,M,.refl,q⟩
 | back x i c hc=>obtain⟨k,ek,ca⟩:=rd.call hc;obtain⟨ad,md,h1,h2,h3,h4,n1,n2⟩:=ca;refine⟨oO rfl,rfl,rfl,?_⟩;refine oR rd.bd.at_ (i' rfl (i' rfl (i' rd.bd.ca (i' (qx ek) ?_))));exact oR h1 (i' rfl (i' h4 ⟨oO rfl,M,.refl,q⟩))
 | two wd x i j c d Xf hw hc hd nc nd=>
  obtain⟨k,ek,ca⟩:=rd.call hc;obtain⟨k',ek',ca'⟩:=rd.call hd;have ca0:=ca;have ca1:=ca';obtain⟨ad,md,h1,h2,h3,h4,n1,n2⟩:=ca0;obtain⟨ad',md',f1,_⟩:=ca1;obtain⟨y1,r1,e1⟩:=fD nc;obtain⟨y2,r2,e2⟩:=fD nd;have o1:pU c x=y1:=by unfold pU;rw[e1];rfl
  have o2:pU d x=y2:=by unfold pU;rw[e2];rfl
  rw[o1,o2]at q;rcases hw with rfl|rfl
  .refine⟨oO rfl,rfl,rfl,?_⟩;refine oR rd.bd.at_ (i' rfl (i' rfl (i' rd.bd.ca (i' (qx ek) ?_))));refine oR h1 ⟨rfl,_,⟨rfl,rfl⟩,_,k,c,x,y1,r1,rfl,ca,(rd.ms c (qp hc)).2,e1,?_⟩;refine oR rd.bd.at_ (i' rfl (i' rfl (i' rd.bd.ca (i' (qx ek') ?_))));refine oR f1 ⟨rfl,_,⟨rfl,rfl⟩,_,k',d,x,y2,r2,rfl,ca',(rd.ms d (qp hd)).2,e2,?_⟩;exact⟨oO rfl,oO rfl,M,.refl,q⟩
  .refine⟨oO rfl,rfl,rfl,?_⟩;refine oR rd.bd.at_ (i' rfl (i' rfl (i' rd.bd.ca (i' (qx ek) ?_))));refine oR h1 ⟨rfl,_,⟨rfl,rfl⟩,_,k,c,x,y1,r1,rfl,ca,(rd.ms c (qp hc)).2,e1,?_⟩;refine oR rd.bd.at_ (i' rfl (i' rfl (i' rd.bd.ca (i' (qx ek') ?_))));refine oR f1 ⟨rfl,_,⟨rfl,rfl⟩,_,k',d,x,y2,r2,rfl,ca',(rd.ms d (qp hd)).2,e2,?_⟩;exact⟨oO rfl,oO rfl,fE _ _,by show 1+2<=sizeLine;have hz:=dM;omega,oO rfl,M,.refl,q⟩
def Rb(G:Gl K mg a):Fq P w K mg base 12 a.a9 (Sk a):=by
 refine fq G.a9.toDG LG (λr u=>⟨_,(oQ (pB 2 LG (pz U1 oU))
 (oS (pE (pb u U2 oV)
 (oS (pD (pq (Ll G) r G.a3 (qN v0 (pz U1 oU) (pz U1 oU)))))
 (oS (pE (pb u U2 oV)
 (oS (pD (pq (Pn G) r G.a4 (qN v0 (pz U1 oU) (pz U1 oU)))))
 (oS (pE (pb u U2 oV)
 (oS (pD (pq (Nu G) r G.a7 (pT v0))))
 (oS (pD (pK v0 G.c.toCls G.k (qH G) r (pT (pq (L6 G) r G.a8 (rB v0 U1))))))))))))),?_⟩)
 rintro ds M Q ⟨M0,b,A,V,l,c,n,e,rfl,cu,hc,hn,wf,hf,hr,q⟩
 have rd:=cu.rd (by omega) wf;have one:∀(ev:Ev),P' l V e ev->sr l V e=[ev]->ev.ok V->ev.nw=0->zS (M b) λC fs'=>fs'.lookup ("apply":Str)=none/\∃sp,(C=a.c/\sp=vB a)/\Fu a [.ref b,e.d] M λd M1=>sp [.ref b,d] M1 λ_ M'=>∃Wq,qh Wq M'/\Q .mC Wq:=λev sg he ok h0=>by refine oR cu.at_ ⟨rfl,_,⟨rfl,rfl⟩,A,V,l,e,ev,by rw[cu.b],rd,sg,b,A,V,ev,rfl,cu.b,cu.bd,cu.lim (by omega) (by omega),ok,λM1 A1 eb st bd=>?_⟩;rw[he]at q;have c1:=cu.after ok eb st bd;rw[h0]at c1;exact⟨M1,.refl,q M1 A1 (c1.mono (by omega) (by omega)) st⟩
 cases e with
 | call y z=>obtain⟨h1,h2,h3,h4⟩:=Es hr;exact⟨M0,b,A,V,l,c,n,y,z,rfl,cu,by omega,by omega,G1 wf h1 h2 h3 h4,λM' A' c1 st=>⟨M',.refl,q M' A' (c1.mono (by omega) (by omega)) st⟩⟩
 | turn=>exact⟨M0,b,A,V,l,c,n,rfl,cu,by omega,by omega,wf,λM' A' c1 st=>⟨M',.refl,q M' A' (c1.mono (by omega) (by omega)) st⟩⟩
 | sw b0 i=>
  obtain⟨h1,h2⟩:=Ky hr;obtain⟨i,rfl⟩:=uc h1;cases b0 with
  | true=>exact one (.sw true i) (.sw true i h2) rfl h2 rfl
  | false=>exact one (.sw false i) (.sw false i h2) rfl h2 rfl
 | num wd x ns=>
  obtain⟨hx,no⟩:=Ef hf hr;cases no with
  | answer i c0 hi hc0 h1 h2 h3=>obtain⟨i,rfl⟩:=uc hi;have lt:=(cV.mp hc0).1;exact one (.talks i [c0.cr,x]) (.answer x i c0 hc0) (eE (λev=>[ev]) (wK hc0)) ⟨lt,by show 2<=100;decide⟩ rfl
  | hang i c0 hi hc0 h1=>obtain⟨i,rfl⟩:=uc hi;exact⟨M0,b,A,V,l,c,n,x,i,c0,rfl,cu,by omega,by omega,hc0,λM' A' c1 st=>⟨M',.refl,q M' A' (c1.mono (by omega) (by omega)) st⟩⟩
  | hold i c0 hi hc0 h1=>obtain⟨i,rfl⟩:=uc hi;have lt:=(cV.mp hc0).1;exact one (.held i x) (.hold x i c0 hc0) (eE (λev=>[ev]) (wK hc0)) lt rfl
  | back i c0 hi hc0 h1 h2=>obtain⟨i,rfl⟩:=uc hi;have lt:=(cV.mp hc0).1;exact one (.talks i c0.ms) (.back x i c0 hc0) (eE (λev=>[ev]) (wK hc0)) ⟨lt,(cu.sz.cs c0 (qp hc0)).2.2⟩ rfl
  | two _ i j c0 d0 hi hj hw hc0 hd0 h1 h2=>
   obtain⟨i,rfl⟩:=uc hi;obtain⟨j,rfl⟩:=uc hj;have lt:=(cV.mp hc0).1;have lt':=(cV.mp hd0).1;have Xf:=(DU (w:=wd) wf hc0 hd0 h1 h2).1;have k0:=wf.ok _ c0 hc0;have k1:=wf.ok _ d0 hd0;obtain⟨_,u2,u3,_⟩:=AQ k0 h1;obtain⟨_,v2,v3⟩:=xG.mp h2;have sg:=P'.two (l:=l) wd x i j c0 d0 Xf hw hc0 hd0 (AM k0.mn u2 u3) (AM k1.mn v3 v2);have ok:(Ev.merge i j (if (wd=="hand")=true then[pU c0 x,pU d0 x]else[x,pU c0 x,pU d0 x])).ok V:=⟨lt,lt',Xf,by split;exact(by decide:2<=100);exact(by decide:3<=100)⟩;have he:sr l V (.num wd x [(i:Int),(j:Int)])=[.merge i j (if (wd=="hand")=true then[pU c0 x,pU d0 x]else[x,pU c0 x,pU d0 x])]:=eE (λev=>[ev]) (Fb hc0 hd0);rcases hw with rfl|rfl
   .exact one _ sg he ok rfl
   .exact one _ sg he ok rfl
def Ji(G:Gl K mg a):wR P w K mg base (Ba P w) 1 a.I.f a.I.d a.I.p (vN K "word"):=
 MD G.I.toDG BC λWu A outer s H E=>Ee (NR (pv 0) (pv 1))
def Tz(G:Gl K mg a):UZ P w K mg base 13 a.J (SW a):=by
 refine S6 G.J.toDG Ha (by walk_at "m") (λ_ _ _ _ _ _ R hr hR=>⟨_,(oQ (pB 2 Ha (pq (HB G) hr G.aY (rB v0 U1)))
 (oQ (pE (pb (VO hr) U2 rF)
 (oS (J3 G.b1 (Ji G) (hr.mono (by first|decide|omega)) G.I.b G.b2 G.I.at_ rfl G.bU hR (pT U2)))
 pk)
 (oQ (pB 3 Ha (pH qk rfl G.g qc (pT (oX v0))))
 (oQ (pD (pq (Rb G) hr G.a9 (rB v0 U1)))
 (oS (oY (rR (oX v0) (se U3) sV))))))),?_⟩)
 .rintro ds M Q ⟨M0,b,A,V,l,c,n,e,rfl,cu,hc,hn,wf,hf,q,rr⟩
  refine⟨A,V,l,e,by rw[cu.b],cu.rd (by omega) wf,hf,?_⟩;cases er:xu l V e with
  | some w0=>exact⟨_,rfl,rr w0 er⟩
  | none=>
   refine oR cu.at_ (i' rfl (i' cu.bd.lo ?_));refine⟨M0,b,A,V,l,c,n,e,rfl,cu,hc,hn,wf,hf,er,λM' A' c1 st=>?_⟩;refine oR c1.at_ (i' rfl (i' c1.bd.lo λp hp=>?_));have hcut:L3.tq ((qz V (sr l V e)).log.map Ev.d) (some (((V.log.map Ev.d).length:Nat):Int)) none=(sr l V e).map Ev.d:=by rw[DC,dP,Hs _ _ (by rw[cX];omega),List.drop_left]
   rw[hcut];exact⟨_,.refl,q er M' A' p c1 st hp⟩
def O5(a:Ad):qT:=λds M Q=>Sy λM0 b A V l c n e=>ds=[.ref b,tP.d e]/\tw a M0 M b A V l c n/\c<10000/\n<=5000000/\WF l V/\e.ng/\VM a M0 M b A V l c n e Q/\(∀w,xu l V e=some w->Q (.str w) M)
def Pe(G:Gl K mg a):Fq P w K mg base 14 a.bt (O5 a):=by
 refine fq G.bt.toDG xq (λr u=>⟨_,(oQ (pB 2 xq rF)
 (oQ (NZ (ix:=2) (i:=3) (KG (Tz G) (r.mono (by first|decide|omega)) rfl G.J.mg G.J.toDG.kp G.J.b (rB v0 U1)) rfl rfl rfl G.bU xq.nd rfl rfl rfl rfl (by decide))
 (oS (oY U2)))),?_⟩)
 rintro ds M Q ⟨M0,b,A,V,l,c,n,e,rfl,cu,hc,hn,wf,hf,q,qf⟩
 refine⟨λC y M'=>C=a.F/\M=M'/\∃w,xu l V e=some w/\y=some (("word":Str),D.str w),?_,?_⟩
 .exact⟨M0,b,A,V,l,c,n,e,rfl,cu,hc,hn,wf,hf,λh M' A' r c1 st hm=>⟨_,.refl,q h M' A' r c1 st hm⟩,λw h=>⟨rfl,rfl,w,h,rfl⟩⟩
 .rintro C y M' ⟨rfl,rfl,w,h,rfl⟩
  exact⟨G.b4,G.b3,w,rfl,M,.refl,qf w h⟩
noncomputable def vo(g:ue):Bool:=g.2.1==("turns":Str)
noncomputable def uI(l:pj):List (Str×Int):=(l.groups.filter vo).map λg=>(g.1,0)
noncomputable def V0(p:Addr)(h:Int)(l:pj)(F:List Addr):pX:=⟨p,h,0,[],[],uI l,l.mx.map (·.1),[],F⟩
def Ex(a:Ad):qT:=λds M Q=>GC λb p h F (l:pj)=>ds=[.ref b,.ref p,.int h]/\M b=some (.ins a.c [])/\rS a M p l/\rf l/\p≠b/\(∀x∈F,∃c,M x=some c)/\∀M' A,A.b=b->rN b M M'->(∀x∈A.foot,x=b\/M x=none)->pA a M' A (V0 p h l F)->Q .mC M'
noncomputable def LR(g:D):Bool:=match g with
 | .tup (_::.str m::_)=>m=="turns"
 | _=>false
noncomputable def P4(d:D):D:=.tup [Al d,.int 0]
def GU(gs:List ue):((gs.map qP).filter LR).map P4=(gs.filter vo).map λg=>D.tup [.str g.1,.int 0]:=by rw[gQ,d9];rfl
def Jn(l:pj):((l.groups.filter vo).map λg=>((Sum.inr g.1:qR),D.int 0))=sO (uI l):=by unfold sO uI;rw[d9];rfl
noncomputable def bF(p:Addr)(h:Int)(ca le nx XT:Addr)(k:Nat):List (Str×D):=List.take (α:=Str×D) k [("plan",.ref p),("hour",.int h),("turn",.int 0),("calls",.ref ca),("legs",.ref le),("nexts",.ref nx),("on",.ref XT)]
def Kr(G:Gl K mg a):Fq P w K mg base 1 a.ai (Ex a):=by
 refine fq G.ai.toDG Cm (λr u=>⟨_,(oQ (pQ v0 U1)
 (oQ (pQ v0 U2)
 (oQ (pQ v0 oU)
 (oQ (pQ v0 (qm sC))
 (oQ (pQ v0 (qm sC))
 (oQ (pQ v0 (qg (Fc rfl) rfl G.bS DT (pT (qw rfl (xV (ix:=[none]) (N':=["group"])) (qv (oX U1)) (qu 0) (uX (pb u (pz v0 oU) oV)) (pC (rB (pz v0 oU) oU))))))
 (oQ (pQ v0 (qg tH rfl G.y tI (pT (oX U1))))
 (oS (pQ v0 (qm sC)))))))))),?_⟩)
 rintro ds M Q ⟨b,p,h,F,l,rfl,hb,⟨ph,gr,ws,on,pr,gd,rs,i1,i2,i3,i4,i5,i6,i7,i8⟩,ok,nbp,hF,q⟩
 have hz:=dM;have l2:=ok.g3;refine oR hb ⟨(G.C "plan" rfl),by show 0<1000;decide,?_⟩;have k1:rN b M (oZ M b (.ins a.c [("plan",.ref p)])):=.put;have b1:oZ M b (.ins a.c [("plan",.ref p)]) b=some (.ins a.c [("plan",.ref p)]):=pG;show ug _ _ _ _ (oZ M b (.ins a.c [("plan",.ref p)]));generalize oZ M b (.ins a.c [("plan",.ref p)])=N1 at k1 b1 ⊢;refine oR b1 ⟨(G.C "hour" rfl),by show 1<1000;decide,?_⟩;have k2:=k1.trans (rN.put (p:=b) (c:=.ins a.c [("plan",.ref p),("hour",.int h)]));have b2:oZ N1 b (.ins a.c [("plan",.ref p),("hour",.int h)]) b=some (.ins a.c [("plan",.ref p),("hour",.int h)]):=pG;show ug _ _ _ _ (oZ N1 b (.ins a.c [("plan",.ref p),("hour",.int h)]));generalize oZ N1 b (.ins a.c [("plan",.ref p),("hour",.int h)])=N2 at k2 b2 ⊢;refine oR b2 ⟨(G.C "turn" rfl),by show 2<1000;decide,?_⟩;have k3:=k2.trans (rN.put (p:=b) (c:=.ins a.c (bF p h 0 0 0 0 3)));have b3:oZ N2 b (.ins a.c (bF p h 0 0 0 0 3)) b=some (.ins a.c (bF p h 0 0 0 0 3)):=pG;show ug _ _ _ _ (oZ N2 b (.ins a.c (bF p h 0 0 0 0 3)));generalize oZ N2 b (.ins a.c (bF p h 0 0 0 0 3))=N3 at k3 b3 ⊢;clear k1 k2 b1 b2;refine⟨oO rfl,λca hca=>?_⟩;obtain⟨n4,e4,k4,c4,b4⟩:=sD (fs':=(bF p h ca 0 0 0 4)) (c:=.lst []) b3 hca;refine oR e4 ⟨(G.C "calls" rfl),by show 3<1000;decide,?_⟩;show ug _ _ _ _ (oZ (oZ N3 ca (.lst [])) b (.ins a.c (bF p h ca 0 0 0 4)));generalize oZ (oZ N3 ca (.lst [])) b (.ins a.c (bF p h ca 0 0 0 4))=N4 at k4 c4 b4 ⊢;have Yp:=k3.trans k4;have z1:M ca=none:=ra k3 b3 hca;have lc4:oy N4 ca=some []:=rk c4;refine⟨oO rfl,λle Zt=>?_⟩;obtain⟨n5,e5,k5,c5,b5⟩:=sD (fs':=(bF p h ca le 0 0 5)) (c:=.lst []) b4 Zt;refine oR e5 ⟨(G.C "legs" rfl),by show 4<1000;decide,?_⟩;show ug _ _ _ _ (oZ (oZ N4 le (.lst [])) b (.ins a.c (bF p h ca le 0 0 5)));generalize oZ (oZ N4 le (.lst [])) b (.ins a.c (bF p h ca le 0 0 5))=N5 at k5 c5 b5 ⊢;have Yq:=Yp.trans k5;have z2:M le=none:=ra Yp b4 Zt;have le5:oy N5 le=some []:=rk c5;have mcl:le≠ca:=λz=>by rw[z,pJ lc4]at Zt;cases Zt
 have lc5:=k5.lst (pI lc4 b4) lc4;have p5:=Yq _ _ nbp i1;have g5:=Yq.lst (pI i3 hb) i3;clear k3 k4 k5 Yp lc4 c4 c5 e4 e5 b3 b4;refine oR p5 (i' rfl (i' g5 ?_));refine sv (f:=P4) (t:=LR) g5 _ [] _ (by rw[cT];simp only[dI];omega) (λd hd k hk=>?_) (λd hd _ k hk=>?_) λq1 Xk=>?_
 .obtain⟨v,_,rfl⟩:=dz.mp hd;exact hk
 .obtain⟨v,_,rfl⟩:=dz.mp hd;exact⟨oO rfl,hk⟩
 rw[dX,GU];have YY:=qh.new (c:=.lst ((l.groups.filter vo).map λg=>D.tup [.str g.1,.int 0])) Xk;refine i' o9 (i' (wc (λg:ue=>g.1) (λ_=>D.int 0) _) ⟨yC (im (List.Sublist.map _ fV) (im (jr _ _) ok.nd)),λnx Wy=>?_⟩);have z3:M nx=none:=ra Yq b5 (YY.none Wy);obtain⟨n6,e6,k6,c6,b6⟩:=sD (fs':=(bF p h ca le nx 0 6)) (c:=.dk ((l.groups.filter vo).map λg=>((Sum.inr g.1:qR),D.int 0))) (YY _ _ b5) Wy;refine oR e6 ⟨(G.C "nexts" rfl),by show 5<1000;decide,?_⟩;have k6:=YY.keep.trans k6;have Yc:vI "nexts" (.ref nx) (bF p h ca le 0 0 5)=(bF p h ca le nx 0 6):=rfl;rw[Yc];generalize oZ (oZ (oZ N5 q1 (.lst ((l.groups.filter vo).map λg=>D.tup [.str g.1,.int 0]))) nx (.dk ((l.groups.filter vo).map λg=>((Sum.inr g.1:qR),D.int 0)))) b (.ins a.c (bF p h ca le nx 0 6))=N6 at k6 b6 c6 ⊢;have x6:zr N6 nx=some ((l.groups.filter vo).map λg=>((Sum.inr g.1:qR),D.int 0)):=BK c6;have kk6:=Yq.trans k6;have lc6:=k6.lst (pI lc5 b5) lc5;have le6:=k6.lst (pI le5 b5) le5;have p6:=kk6 _ _ nbp i1;have o6:=kk6.lst (pI i5 hb) i5;clear Yq k6 lc5 p5 g5 e6 c6;refine oR p6 (i' rfl (i' o6 λXT Zw=>?_));have z4:M XT=none:=ra kk6 b6 Zw;obtain⟨n7,e7,k7,c7,b7⟩:=sD (fs':=(bF p h ca le nx XT 7)) (c:=.lst (l.mx.map λw=>D.bl w.1)) b6 Zw;refine oR e7 ⟨(G.C "on" rfl),by show 6<1000;decide,?_⟩;have Yc:vI "on" (.ref XT) (bF p h ca le nx 0 6)=(bF p h ca le nx XT 7):=rfl;rw[Yc];generalize oZ (oZ N6 XT (.lst (l.mx.map λw=>D.bl w.1))) b (.ins a.c (bF p h ca le nx XT 7))=N7 at k7 b7 c7 ⊢;have kk7:=kk6.trans k7;have lc7:=k7.lst (pI lc6 b6) lc6;have le7:=k7.lst (pI le6 b6) le6;have x7:=k7.dk (Bc x6 b6) x6;have lo7:oy N7 XT=some ((l.mx.map (·.1)).map D.bl):=by rw[d9];exact rk c7
 refine⟨oO rfl,λlg hlg=>?_⟩;obtain⟨n8,e8,k8,c8,b8⟩:=sD (fs':=sY (.ref p) h 0 ca le nx XT lg) (c:=.lst []) b7 hlg;refine oR e8 ⟨(G.C "log" rfl),by show 7<1000;decide,_,.refl,?_⟩;have apart:∀{N:Mp} {x y:Addr} {ds:List D},N x=none->oy N y=some ds->x≠y:=λ{N x y ds} h1 h2 z=>by have:=pJ h2;rw[<-z,h1]at this;cases this
 have y5:=ra kk7 b7 hlg;refine q _ ⟨b,ca,le,nx,XT,lg,[]⟩ rfl (kk7.trans k8) (λx hx=>?_) ⟨b8,k8.lst (pI lc7 b7) lc7,k8.lst (pI le7 b7) le7,?_,k8.lst (pI lo7 b7) lo7,rk c8,rfl,λi k c e=>by simp at e,?_,dO.mpr ⟨dB,eG⟩,λx hx=>?_⟩
 rotate_right
 .by_cases z:x=b
  .exact⟨_,by rw[z];exact b8⟩
  .obtain⟨c,e⟩:=hF x hx;exact⟨c,(kk7.trans k8) x c z e⟩
 .have hx:x∈[b,nx,ca,le,XT,lg]:=by
   unfold so.foot so.lists at hx
   simpa using hx
  simp only[df,dB,eW]at hx;rcases hx with rfl|rfl|rfl|rfl|rfl|rfl
  .exact .inl rfl
  .exact .inr z3
  .exact .inr z1
  .exact .inr z2
  .exact .inr z4
  .exact .inr y5
 .show zr _ nx=some (sO (uI l));rw[<-Jn];exact k8.dk (Bc x7 b7) x7
 .have m1:=apart hlg lc7;have m2:=apart hlg le7;have m3:=apart hlg lo7;have m4:=apart Zw lc6;have m5:=apart Zw le6;show[ca,le,XT,lg].Nodup;simp only[dO,df,dB,eW,fJ,not_false_eq_true,eG,and_true];exact⟨⟨dJ mcl,dJ m4,dJ m1⟩,⟨dJ m5,dJ m2⟩,dJ m3⟩
def Rr{p:Addr}{h:Int}{l:pj}{F:List Addr}(ok:rf l):WF l (V0 p h l F):=by
 refine⟨λi c e=>by simp[V0]at e,λi j ci cj x e=>by simp[V0]at e,λx hx=>?_,λi j ci cj x e=>by simp[V0]at e,λz hz ht=>?_⟩
 .show((0:Nat):Int)<=wx l x;unfold wx;cases e:l.mR x with
  | none=>exact Int.le_refl _
  | some v=>have:=(ok.po v (gD e)).l1;show(0:Int)<=v.2.1;omega
 .show ∃v,(uI l).find? (λp=>decide (p.1=z))=some v/\_;unfold pj.mF at ht;cases e:l.group z with
  | none=>rw[e]at ht;exact absurd ht (by decide)
  | some g=>
   rw[e]at ht;have hg:=gD e;have hn:g.1=z:=by simpa using List.find?_some e
   have hm:((g.1,0):Str×Int)∈uI l:=dz.mpr ⟨g,fG.mpr ⟨hg,ht⟩,rfl⟩;cases q:(uI l).find? (λp=>decide (p.1=z))with
   | none=>exact absurd (gR.mp q _ hm) (by simp[hn])
   | some v=>refine⟨v,rfl,?_⟩;obtain⟨g',_,rfl⟩:=dz.mp (gD q);exact⟨Int.le_refl _,Int.natCast_nonneg _⟩
def Ev.old:Ev->Prop
 | .new _ _=>False
 | _=>True
def KQ{V:pX}{e:Ev}(h:e.old):(pO V e).calls.length=V.calls.length:=by
 cases e with
 | new _ _=>cases h
 | merge i j ms=>exact(eU ..).trans (eU ..)
 | turn=>exact cT ..
 | asks _ _ _=>rfl
 | next _ _=>rfl
 | sw _ _=>rfl
 | _=>exact eU ..
theorem Ik:∀{es:List Ev} {V:pX},(∀e∈es,e.old)->(qz V es).calls.length=V.calls.length
 | [],_,_=>rfl
 | e::r,V,h=>(Ik (es:=r) (V:=pO V e) λx hx=>h x (dC _ hx)).trans (KQ (h e dN))
theorem zw(i:Nat):∀(st:sZ) (q:Option Str) {V:pX},i<V.calls.length->Fg V (rQ i q st)
 | [],_,V,_=>by unfold rQ;trivial
 | (y,gs)::r,none,V,h=>⟨trivial,zw i r (some y) h⟩
 | (y,gs)::r,some u,V,h=>⟨h,trivial,zw i r (some y) (by
  show i<(V.calls.modify i _).length;rw[eU];exact h)⟩
def NS{l:pj}{V V1:pX}{i:Nat}{e:vW}(h:F9 l V i e)(hi:i<V.calls.length)(hl:V1.calls.length=V.calls.length):Fg V1 (sA l V i e):=by
 have W9:i<V1.calls.length:=by rw[hl];exact hi
 cases e with
 | rings z ps=>
  have h4:ps.length<=100:=h.2.2.2;show Fg V1 ((if (l.mF z=="turns")=true then _ else _)++[.rings i ps]);split
  .exact⟨trivial,⟨W9,h4⟩,trivial⟩
  .exact⟨⟨W9,h4⟩,trivial⟩
 | waits z=>exact⟨W9,trivial⟩
 | breaks z=>
  obtain⟨j,k,t1,t2,t3,t4⟩:=h;have e1:V.calls[i]?=some V.calls[i]:=cW hi;have Zz:sA l V i (.breaks z)=[.merge i j (k.ms++[V.calls[i].cr])]:=by unfold sA;dsimp only;rw[t1,e1];dsimp only;rw[t2];rfl
  rw[Zz];exact⟨⟨W9,by rw[hl];exact(cV.mp t2).1,t3,by rw[cX,t4];exact(by decide:3<=100)⟩,trivial⟩
 | engaged z=>exact⟨W9,trivial⟩
 | barred=>exact⟨W9,trivial⟩
 | ring ns=>exact⟨W9,trivial⟩
def MJ{l:pj}{V:pX}{i:Nat}{k:oW}(ok:rf l)(wf:zq l V (some i))(hk:V.calls[i]?=some k):Fg V (xg l V i):=by
 have Xm:=wf.ok i k hk;have hi:=(cV.mp hk).1;unfold xg;rw[hk];dsimp only[Option.elim];obtain⟨z,hz⟩:∃z,k.way.getLast?=some z:=by
  cases e:k.way.getLast? with
  | none=>exact absurd (gF.mp e) Xm.wy.1
  | some z=>exact⟨z,rfl⟩
 rw[show k.way.getLastD Str.empty=z by rw[ic,hz];rfl];have ro:xI l V k.cr (l.nm.length+1) [] (uG l V k.cr z k.way.dropLast):=zh ok _ _ _ _ (Xm.wy.2 z (iO hz)) λx hx=>Xm.wy.2 x (iP _ hx);have eo:=KJ ok wf hk ro.e;generalize uG l V k.cr z k.way.dropLast=R at ro eo;obtain⟨e,st⟩:=R;have s1:=(uo i st none V).len;refine xR (zw i st none hi) (xR ?_ (NS eo hi ?_))
 .unfold tZ;cases e with
  | ring ns=>
   dsimp only;cases st.getLast? with
   | none=>trivial
   | some s0=>exact⟨by show i<_;rw[s1];exact hi,trivial⟩
  | _=>trivial
 .refine(Ik λx hx=>?_).trans s1;unfold tZ at hx;cases e with
  | ring ns=>
   dsimp only at hx;cases q:st.getLast? with
   | none=>rw[q]at hx;cases hx
   | some s0=>rw[q]at hx;rw[dD.mp hx];trivial
  | _=>cases hx
def MC{l:pj}{V:pX}{i:Nat}(ok:rf l)(wf:WF l V):Fg V (sR l V i (yg l V i)):=by
 have d:=GY (V:=V) (i:=i) ok;generalize yg l V i=fs at d;cases d with
 | no=>trivial
 | on c k r b x y n hc hs hk hw hy=>rw[zD hk];have hi:=(cV.mp hc).1;exact xR ⟨trivial,hi,(by show i<(V.calls.modify i oW.nz).length;rw[eU];exact hi),trivial⟩ (MJ ok (DO wf hc hs hy) (EC hc))
theorem Gc{l:pj}(ok:rf l):∀(is:List Nat) {V:pX},WF l V->Fg V (rj l is V)
 | [],V,_=>by unfold rj;trivial
 | i::r,V,wf=>by unfold rj;exact xR (MC ok wf) (Gc ok r (HW ok wf))
def QK{l:pj}{V:pX}{e:tP}(ok:rf l)(wf:WF l V)(hm:∀c∈V.calls,c.ms.length<=100)(f:e.ng)(h:xu l V e=none):Fg V (sr l V e):=by
 cases e with
 | call y z=>obtain⟨h1,h2,h3,h4⟩:=Es h;obtain⟨k,hk⟩:=L7 (V:=V) (y:=y) (z:=z);refine xR ⟨trivial,?_,trivial⟩ (MJ ok (G1 wf h1 h2 h3 h4) hk);show V.calls.length<(V.calls++[yF y]).length;rw[cX];exact fv _
 | turn=>exact⟨trivial,Gc ok _ (DI wf)⟩
 | sw b i=>exact⟨(Ky h).2,trivial⟩
 | num w x ns=>
  obtain⟨_,n⟩:=Ef f h;cases n with
  | answer i c hi hc h1 h2 h3=>show Fg V [EK V "answer" x i.toNat];rw[wK hc];exact⟨⟨(cV.mp hc).1,(by decide:2<=100)⟩,trivial⟩
  | hang i c hi hc h1=>
   have lt:=(cV.mp hc).1;show Fg V (uL V x i.toNat);unfold uL;rw[hc];dsimp only[Option.elim];split
   .exact⟨lt,trivial⟩
   split
   .refine⟨lt,?_⟩;split
    .exact⟨by show _<(V.calls.modify _ _).length;rw[eU];exact lt,trivial⟩
    .trivial
   split
   .exact⟨lt,trivial⟩
   .exact⟨lt,trivial⟩
  | hold i c hi hc h1=>show Fg V [EK V "hold" x i.toNat];rw[wK hc];exact⟨(cV.mp hc).1,trivial⟩
  | back i c hi hc h1 h2=>show Fg V [EK V "back" x i.toNat];rw[wK hc];exact⟨⟨(cV.mp hc).1,hm c (qp hc)⟩,trivial⟩
  | two _ i j c d hi hj hw hc hd h1 h2=>
   show Fg V [FQ V w x i.toNat j.toNat];rw[Fb hc hd];refine⟨⟨(cV.mp hc).1,(cV.mp hd).1,(DU (w:=w) wf hc hd h1 h2).1,?_⟩,trivial⟩;split
   .exact(by decide:2<=100)
   .exact(by decide:3<=100)
noncomputable def pX.at_(V:pX)(p:Addr)(F:List Addr):pX:={V with p:=p,fo:=F}
def HN(V:pX)(p:Addr)(F:List Addr)(e:Ev):pO (V.at_ p F) e=(pO V e).at_ p F:=by cases e<;>rfl
theorem IM(p:Addr)(F:List Addr):∀(es:List Ev) (V:pX),qz (V.at_ p F) es=(qz V es).at_ p F
 | [],_=>rfl
 | e::r,V=>by show qz (pO (V.at_ p F) e) r=_;rw[HN,IM p F r];rfl
theorem Mw(p:Addr)(F:List Addr):∀(es:List Ev) (V:pX),Fg V es->Fg (V.at_ p F) es
 | [],_,_=>trivial
 | e::r,V,h=>⟨by cases e<;>exact h.1,by rw[HN];exact Mw p F r _ h.2⟩
def T4(e:Ev):e.nw<=1:=by cases e<;>first|exact dg _|exact eX _
def CU{l:pj}(ok:rf l):(uI l).length<=3:=by unfold uI;rw[cT];exact dY (gx _ _) ok.g3
def Km{es:List Ev}{pre post:List D}{d:D}(e:pre++d::post=es.map Ev.d):∃ev,es[pre.length]?=some ev/\d=ev.d/\es.take (pre.length+1)=es.take pre.length++[ev]/\es.drop pre.length=ev::es.drop (pre.length+1):=by
 have h:(es.map Ev.d)[pre.length]?=some d:=by rw[<-e];simp
 rw[dA]at h;cases q:es[pre.length]? with
 | none=>rw[q]at h;cases h
 | some ev=>rw[q]at h;have hl:=(cV.mp q).1;have eg:es[pre.length]=ev:=(cV.mp q).2;exact⟨ev,rfl,(dh h).symm,by rw[List.take_succ,q];rfl,by rw[gc hl,eg]⟩
theorem C4(n:Nat):∀ss:List Str,(ss.map D.str).all (uN n)=true
 | []=>rfl
 | s::r=>by rw[dS,ft,C4 n r];cases n<;>rfl
theorem Ds(n:Nat):∀ss:List Nat,(ss.map λi=>D.int (i:Nat)).all (uN n)=true
 | []=>rfl
 | s::r=>by rw[dS,ft,Ds n r];cases n<;>rfl
def Ox(e:Ev):uN 6 e.d=true:=by
 have t:∀ss:List Str,uN 5 (names ss)=true:=λss=>C4 4 ss;have u:∀ss:List Nat,uN 5 (vQ ss)=true:=λss=>Ds 4 ss;cases e with
 | asks i z ns=>show([D.str "asks",.int (i:Nat),.str z,vQ ns].all (uN 5))=true;simp only[ft,u];rfl
 | merge i j ms=>show([D.str "merge",.int (i:Nat),.int (j:Nat),names ms].all (uN 5))=true;simp only[ft,t];rfl
 | rings i ps=>show([D.str "rings",.int (i:Nat),names ps].all (uN 5))=true;simp only[ft,t];rfl
 | talks i ps=>show([D.str "talks",.int (i:Nat),names ps].all (uN 5))=true;simp only[ft,t];rfl
 | _=>rfl
noncomputable def AX(c:oW):List Str:=if (c.st=="talks"||c.st=="held")=true then c.ms else c.cr::c.at_
def Jw(a:Ad):qT:=λds M Q=>CN λL k c=>ds=[.ref (qV.p k)]/\rm a M L k c/\c.at_.length<=100/\∀r M',qh M M'->oy M' r=some ((AX c).map D.str)->Q (.ref r) M'
noncomputable def LB(V:pX)(Xp:List Str):List Nat:=(List.range V.calls.length).filter λi=>(V.calls[i]?).elim false λc=>hasS Xp c.st
def Pd(a:Ad):qT:=λds M Q=>AU λA V l Xp=>ds=[.ref A.b,.tup (List.map D.str Xp)]/\Rd a M A V l/\∀r M',qh M M'->oy M' r=some ((LB V Xp).map λn=>D.int (n:Nat))->Q (.ref r) M'
noncomputable def RJ(V:pX)(Xp:List Str):D->Bool
 | .int n=>(V.calls[n.toNat]?).elim false λc=>hasS Xp c.st
 | _=>false
def J2(G:Gl K mg a):Fq P w K mg base 1 a.bn (Jw a):=by
 refine fq G.bn.toDG Cg (λr u=>⟨_,(oQ (pE (W3.b3 (xl (pb u (oX v0) oV) (wH (pb u (oX v0) oV))))
 (oS (oY (qg tH rfl G.y tI (pT (oX v0)))))
 pk)
 (oS (oY (pM (qm (pT (oX v0))) (qg tH rfl G.y tI (pT (oX v0))))))),?_⟩)
 rintro ds M Q ⟨L,k,c,rfl,⟨ad,md,h1,h2,h3,h4,_⟩,ha,q⟩
 have hz:=dM;unfold AX at q;refine oR h1 (i' rfl (qr (c:=c.st=="talks") (λg=>?_) (λg=>?_)))
 .rw[g,gZ,c9 rfl]at q;exact oR h1 (i' rfl (i' h4 λr hr=>⟨_,.refl,q r _ (.new hr) o9⟩))
 rw[dE.mpr g,fC]at q;refine oR h1 (i' rfl (qr (c:=c.st=="held") (λg=>?_) (λg=>?_)))
 .rw[c9 g]at q;exact oR h1 (i' rfl (i' h4 λr hr=>⟨_,.refl,q r _ (.new hr) o9⟩))
 rw[cY g]at q;refine oR h1 (i' rfl ⟨oO rfl,λr1 W5=>?_⟩);have t1:=qh.new (c:=.lst [D.str c.cr]) W5;have l1:=@o9 M r1 [D.str c.cr];show zS (oZ M r1 (.lst [D.str c.cr]) k.p) _;generalize oZ M r1 (.lst [D.str c.cr])=M1 at t1 l1 ⊢;refine oR (t1 _ _ h1) (i' rfl (i' (t1.lst h3) λr2 YI=>?_));have t2:=qh.new (c:=.lst (c.at_.map D.str)) YI;refine i' (t2.lst l1) (i' o9 ⟨?_,λr3 XZ=>⟨_,.refl,q r3 _ (t1.trans (t2.trans (.new XZ))) o9⟩⟩);rw[cT];show 1+c.at_.length<=sizeLine;omega
def NE(G:Gl K mg a):Fq P w K mg base 1 a.bo (Pd a):=by
 refine fq G.bo.toDG Ax (λr u=>⟨_,(oS (oY (qw rfl (xV (ix:=[none,some 0,some 1]) (N':=["_law_k","_law_board","_law_states"])) (vO rfl G.aO (pT (pH qk rfl G.g qc (pT (oX v0))))) (qu 0) (uX (pb u (oX (pz (oX U1) v0)) U2)) v0))),?_⟩)
 rintro ds M Q ⟨A,V,l,Xp,rfl,rd,q⟩
 have hz:=dM;have lc:((A.cs.map λk=>D.ref k.p).length:Int)=(V.calls.length:Nat):=by rw[cT,rd.bd.len]
 have hb:=rd.k;refine oR rd.bd.at_ (i' rfl (i' rd.bd.ca ?_));rw[lc];refine⟨rfl,⟨by omega,by omega⟩,?_⟩;refine sv (f:=id) (t:=RJ V Xp) trivial _ [] _ (by rw[cT,eD];simp only[dI];omega) (λd hd k hk=>?_) (λd hd _ k hk=>?_) λr hr=>?_
 .obtain⟨i,hi,rfl⟩:=dz.mp hd;rw[gk]at hi;have hi:i<V.calls.length:=by omega
  obtain⟨k',ek,⟨ad,md,h1,_⟩⟩:=rd.call (cW hi);have ea:vY (A.cs.map λk=>D.ref k.p) (0+(i:Nat))=some (.ref k'.p):=by rw[mh];exact qx ek
  refine oR rd.bd.at_ (i' rfl (i' rfl (i' rd.bd.ca (i' ea (oR h1 (i' rfl (i' rfl ⟨rfl,qe _,?_⟩)))))));show k (inD (.str V.calls[i].st) (Xp.map D.str)) M;rw[rT];have e1:RJ V Xp (.int (0+(i:Nat)))=hasS Xp V.calls[i].st:=by show(V.calls[(0+(i:Int)).toNat]?).elim false _=_;rw[show(0+(i:Int)).toNat=i by omega,cW hi];rfl
  show k (hasS Xp V.calls[i].st) M;rw[<-e1];exact hk
 .exact hk
 .refine⟨_,.refl,q r _ (.new hr) (o9.trans (eE some ?_))⟩;rw[dX,iZ,gQ,show(((V.calls.length:Nat):Int)).toNat=V.calls.length from rfl];unfold LB;have e1:(RJ V Xp∘λi:Nat=>D.int (0+(i:Nat)))=λi=>(V.calls[i]?).elim false λc=>hasS Xp c.st:=funext λi=>by show(V.calls[(0+(i:Int)).toNat]?).elim false _=_;rw[show(0+(i:Int)).toNat=i by omega]
  rw[e1];exact gK λi _=>by rw[mh]
noncomputable def FI:Str->List Str:=λw=>if (w=="answer")=true then["rings","waits"]else if (w=="hold")=true then["talks"]else if (w=="hang")=true then["rings","waits","talks","held"]else["held"]
def Qq(w:Str):Prop:=w="answer"\/w="hang"\/w="hold"\/w="back"\/w="hand"\/w="join"
def Jq(a:Ad):qT:=λds M Q=>GC λA V l c w=>ds=[.ref A.b,.int c,.str w,.tup ((FI w).map D.str)]/\Rd a M A V l/\WF l V/\(∀k∈V.calls,k.at_.length<=100)/\Qq w/\∀M',qh M M'->Q .mC M'/\∀e:tP,e.ng->Q e.d M'
def Re{M:Mp}{n:Nat}{a b:Addr}{ds:List D}(ha:oy M a=some ds)(hb:oy M b=some []):yI M (n+1) (.ref a) (.ref b)=some ds.isEmpty:=by
 show(oy M a).bind (λi=>(oy M b).bind λj=>if i.length=j.length then rY (yI M n) i j else some false)=_;rw[ha,hb];cases ds with
 | nil=>rfl
 | cons x r=>rfl
def uu{α:Type}(f:α->D){xs:List α}(h:xs≠[])(c k:Int):(0:Int)<((xs.map f).length:Nat)/\∃x∈xs,vY (xs.map f) (draw c k ((xs.map f).length:Nat))=some (f x):=by
 have hp:(0:Int)<((xs.map f).length:Nat):=by have:=fA.mpr h;rw[cT];omega
 have d0:=qJ (c:=c) (f:=k) hp;have d1:=qC (c:=c) (f:=k) hp;obtain⟨n,e⟩:=eh d0;rw[e]at d1 ⊢;have hn:n<xs.length:=by rw[cT]at d1;omega
 exact⟨hp,xs[n],hZ hn,uJ (by rw[dA,cW hn];rfl)⟩
def RC{V:pX}{Xp:List Str}{i:Nat}(h:i∈LB V Xp):∃c,V.calls[i]?=some c/\c.st∈Xp:=by
 have h:=(fG.mp h).2;cases e:V.calls[i]? with
 | none=>rw[e]at h;cases h
 | some c=>rw[e]at h;exact⟨c,rfl,qG.mp h⟩
def Dq{l:pj}{c:oW}(k:uU l false c)(h:c.st≠"over"):AX c≠[]:=by
 unfold AX;split
 .rename_i g;rcases k.sh with z|⟨_,z|z|⟨_,z⟩|z⟩
  .rw[z.1]at g;exact absurd g (by decide)
  .rw[z.1]at g;exact absurd g (by decide)
  .intro y;rw[y]at z;rcases z.2.1 with u|u<;>cases u
  .intro y;rw[y]at z;cases z.2.1
  .exact absurd z.1 h
 .exact fE _ _
def S4{l:pj}{c:oW}(k:uU l false c)(h:c.st∈FI "answer"):c.at_≠[]:=by
 have h:c.st="rings"\/c.st="waits":=by
  rcases df.mp h with g|g
  .exact .inl g
  .exact .inr (dD.mp g)
 rcases k.sh with z|⟨_,z|z|⟨_,z⟩|z⟩
 .exact z.2.2.2.2.2 rfl
 .intro y;rw[y]at z;cases z.2.2.2.2
 all_goals(rw[z.1]at h;exact absurd h (by decide))
def HQ{l:pj}{c:oW}(k:uU l false c)(h:c.st="held"):∃x,c.hd=some x:=by
 rcases k.sh with z|⟨_,z|z|⟨x,z⟩|z⟩
 .rw[h]at z;exact absurd z.1 (by decide)
 .rw[h]at z;exact absurd z.1 (by decide)
 .rw[h]at z;exact absurd z.1 (by decide)
 .exact⟨x,z.2.2.1⟩
 .rw[h]at z;exact absurd z.1 (by decide)
def JL(G:Gl K mg a):Fq P w K mg base 4 a.bp (Jq a):=by
 refine fq G.bp.toDG qY (λr u=>⟨_,(oQ (pB 4 qY (pq (NE G) r G.bo (rB v0 U3)))
 (oQ (pE (pb u v4 (qm sC))
 (oS (oY rF))
 pk)
 (oQ (pB 5 qY (pz v4 (pq (qA G) r G.i (qN U1 oU (pH qk rfl G.g qc (pT v4))))))
 (oQ (pB 6 qY (pq (J2 G) r G.bn (pT (pz (oX v0) v5))))
 (oQ (pE (pb u U2 oV)
 (oS (pB 6 qY (qg tH rfl G.y tI (pT (oX (pz (oX v0) v5))))))
 pk)
 (oQ (pE (W3.b3 (xl (pb u U2 oV) (xl (pb u U2 oV) (wH (pb u U2 oV)))))
 (oS (pB 6 qY (qm (pT (oX (pz (oX v0) v5))))))
 pk)
 (oQ (pB 7 qY (pz v6 (pq (qA G) r G.i (qN U1 oU (pH qk rfl G.g qc (pT v6))))))
 (oQ (pE (W3.b3 (xl (pb u U2 oV) (wH (pb u U2 oV))))
 (oQ (pB 8 qY (pK v0 G.c.toCls G.Q (yy G) r (pT v7)))
 (oS (oY (pC (pN U2 (qN v7 v5 (Qf (pb u v8 rF) oU v8)))))))
 pk)
 (oS (oY (pC (qN U2 v7 v5)))))))))))),?_⟩)
 rintro ds M Q ⟨A,V,l,c,wd,rfl,rd,wf,ha,ho,q⟩
 have hz:=dM;refine⟨A,V,l,FI wd,rfl,rd,λr M1 s1 lr=>?_⟩;refine⟨oO rfl,λr0 Zx=>?_⟩;have t2:=qh.new (c:=.lst []) Zx;have Y2:=t2.lst lr;refine i' (Re Y2 o9) ?_;have s2:=s1.trans t2;generalize oZ M1 r0 (.lst [])=M2 at s2 Y2 ⊢;clear t2 lr Zx s1;refine qr (c:=((LB V (FI wd)).map λn=>D.int (n:Nat)).isEmpty) (λ_=>⟨M2,.refl,(q M2 s2).1⟩) (λg=>?_);have gne:LB V (FI wd)≠[]:=λz=>g (by rw[z];rfl);obtain⟨hp,i,hi,ei⟩:=uu (λn:Nat=>D.int (n:Nat)) gne c 40692;obtain⟨cv,hc,hs⟩:=RC hi;have XI:=rd.sub s2;obtain⟨k,ek,ca⟩:=XI.call hc;have ca0:=ca;obtain⟨ad,md,h1,h2,h3,h4,_⟩:=ca0;have Xm:=wf.ok i cv hc;refine i' Y2 ⟨c,_,_,rfl,hp,i' Y2 (i' ei ?_)⟩;refine oR XI.bd.at_ (i' rfl (i' rfl (i' XI.bd.ca (i' (qx ek) ?_))));refine⟨_,k,cv,rfl,ca,ha cv (qp hc),λr3 M3 s3 lr3=>?_⟩;have W4:=s3 _ _ h1;have q3:=λM' (s:qh M3 M')=>q M' (s2.trans (s3.trans s));have YL:=XI.sub s3;have YX:=s3.lst h3;clear q Y2 s2 h1 h2 h3 h4 ca;rcases ho with rfl|rfl|rfl|rfl|rfl|rfl
 .
  refine oR YL.bd.at_ (i' rfl (i' rfl (i' YL.bd.ca (i' (qx ek) (oR W4 (i' rfl (i' YX λr4 hr4=>?_)))))));obtain⟨Ww,x,hx,ex⟩:=uu D.str (S4 Xm hs) c 742938285;refine i' o9 ⟨c,_,_,rfl,Ww,i' o9 (i' ex ?_)⟩;exact⟨oO rfl,_,.refl,(q3 _ (.new hr4)).2 (.num "answer" x [(i:Nat)]) (.inl ⟨.inl rfl,rfl⟩)⟩
 .
  obtain⟨Ww,x,hx,ex⟩:=uu D.str (Dq Xm (λz=>by rw[z]at hs;exact absurd hs (by decide))) c 742938285;refine i' lr3 ⟨c,_,_,rfl,Ww,i' lr3 (i' ex ?_)⟩;exact⟨oO rfl,_,.refl,(q3 _ .refl).2 (.num "hang" x [(i:Nat)]) (.inl ⟨.inr (.inl rfl),rfl⟩)⟩
 .
  obtain⟨Ww,x,hx,ex⟩:=uu D.str (Dq Xm (λz=>by rw[z]at hs;exact absurd hs (by decide))) c 742938285;refine i' lr3 ⟨c,_,_,rfl,Ww,i' lr3 (i' ex ?_)⟩;exact⟨oO rfl,_,.refl,(q3 _ .refl).2 (.num "hold" x [(i:Nat)]) (.inl ⟨.inr (.inr (.inl rfl)),rfl⟩)⟩
 .
  obtain⟨y,hy⟩:=HQ Xm (dD.mp hs);refine oR YL.bd.at_ (i' rfl (i' rfl (i' YL.bd.ca (i' (qx ek) (oR W4 (i' rfl ⟨oO rfl,λr4 hr4=>?_⟩))))));rw[show Gu cv.hd=.str y by rw[hy];rfl];obtain⟨Ww,x,hx,ex⟩:=uu D.str (fE y []) c 742938285;refine i' o9 ⟨c,_,_,rfl,Ww,i' o9 (i' ex ?_)⟩;exact⟨oO rfl,_,.refl,(q3 _ (.new hr4)).2 (.num "back" x [(i:Nat)]) (.inl ⟨.inr (.inr (.inr rfl)),rfl⟩)⟩
 all_goals
  obtain⟨y,hy⟩:=HQ Xm (dD.mp hs);refine oR YL.bd.at_ (i' rfl (i' rfl (i' YL.bd.ca (i' (qx ek) (oR W4 (i' rfl ⟨oO rfl,λr4 hr4=>?_⟩))))));rw[show Gu cv.hd=.str y by rw[hy];rfl];obtain⟨Ww,x,hx,ex⟩:=uu D.str (fE y []) c 742938285;refine i' o9 ⟨c,_,_,rfl,Ww,i' o9 (i' ex ?_)⟩;have t4:=qh.new (c:=.lst [D.str y]) hr4;refine oR (t4 _ _ YL.bd.at_) ⟨rfl,_,⟨rfl,rfl⟩,A,V,x,rfl,YL.bd.sub t4,YL.k,?_⟩;unfold Aa;cases vh V x with
  | none=>first|exact⟨oO rfl,_,.refl,(q3 _ t4).2 (.num "hand" x [(i:Nat),(0:Nat)]) (.inr ⟨.inl rfl,rfl⟩)⟩|exact⟨oO rfl,_,.refl,(q3 _ t4).2 (.num "join" x [(i:Nat),(0:Nat)]) (.inr ⟨.inr rfl,rfl⟩)⟩
  | some j=>first|exact⟨oO rfl,_,.refl,(q3 _ t4).2 (.num "hand" x [(i:Nat),(j:Nat)]) (.inr ⟨.inl rfl,rfl⟩)⟩|exact⟨oO rfl,_,.refl,(q3 _ t4).2 (.num "join" x [(i:Nat),(j:Nat)]) (.inr ⟨.inr rfl,rfl⟩)⟩
def IZ:qT:=λds M Q=>Ij λc o n own nm m=>ds=[.int c,.ref o,.ref n,.int ((m:Nat):Int)]/\oy M o=some (List.map D.str own)/\oy M n=some (List.map D.str nm)/\own.length<=100/\nm.length<=100/\m<=1000000/\∀M' (e:tP),qh M M'->e.ng->Q e.d M'
def Md(a:Ad):qT:=λds M Q=>Sy λA V l c o n own nm=>ds=[.ref A.b,.int c,.ref o,.ref n]/\Rd a M A V l/\WF l V/\(∀k∈V.calls,k.at_.length<=100)/\oy M o=some (List.map D.str own)/\oy M n=some (List.map D.str nm)/\own≠[]/\nm≠[]/\own.length<=100/\nm.length<=100/\∀M' (e:tP),qh M M'->e.ng->Q e.d M'
def Ip{α:Type}(f:α->D){xs:List α}(h:xs≠[]){m:Int}(hm:m=(xs.length:Nat))(c k:Int):(0:Int)<m/\∃x∈xs,vY (xs.map f) (draw c k m)=some (f x):=by have:=uu f h c k;rw[cT,<-hm]at this;exact this
def OV{α:Type}(xs:List α)(x:α):xs++[x]≠[]:=by simp
noncomputable def GJ:List Str:=["call","call","call","call","call","answer","answer","answer","answer","answer","hang","hang","hold","hold","hold","back","hand","join","turn","turn","turn"]
theorem Du(d:D):∀n:Nat,(List.replicate n [d]).flatten=List.replicate n d
 | 0=>rfl
 | n+1=>by rw[eF,fO,Du d n,eF];rfl
noncomputable def zz:Str:="zzzzzz"
noncomputable def Ms(a b:Str)(k m:Int):List tP:=[.call a b,.num "answer" a [k],.num "hang" a [k],.num "hold" a [k],.num "back" a [k],.num "hand" a [k,m],.num "join" a [k,m],.turn,.sw true k,.sw false k]
def KC{a b:Str}{k m:Int}{e:tP}(h:e∈Ms a b k m):e.ng:=by
 unfold Ms at h;simp only[df,dB,eW]at h;rcases h with rfl|rfl|rfl|rfl|rfl|rfl|rfl|rfl|rfl|rfl
 .trivial
 .exact .inl ⟨.inl rfl,rfl⟩
 .exact .inl ⟨.inr (.inl rfl),rfl⟩
 .exact .inl ⟨.inr (.inr (.inl rfl)),rfl⟩
 .exact .inl ⟨.inr (.inr (.inr rfl)),rfl⟩
 .exact .inr ⟨.inl rfl,rfl⟩
 .exact .inr ⟨.inr rfl,rfl⟩
 .trivial
 .trivial
 .trivial
def NW(G:Gl K mg a):Fq P w K mg base 2 a.bq IZ:=by
 refine fq G.bq.toDG ul (λr u=>⟨_,(oQ (pB 4 ul (pz (pM U2 (qm (pT oV))) (pq (qA G) r G.i (qN v0 oU (pM (pH qk rfl G.g qc (pT U2)) oU)))))
 (oQ (pB 5 ul (pz (pM U2 (qm (pT oV))) (pq (qA G) r G.i (qN v0 oU (pM (pH qk rfl G.g qc (pT U2)) oU)))))
 (oQ (pB 6 ul (pM (pq (qA G) r G.i (qN v0 oU (pM U3 oU))) oU))
 (oQ (pB 7 ul (pM (pq (qA G) r G.i (qN v0 oU (pM U3 oU))) oU))
 (oQ (pB 8 ul (qm (pN (pC (qN oV v4 v5)) (pN (pC (qN oV v4 v6)) (pN (pC (qN oV v4 v6)) (qN (pC (qN oV v4 v6)) (pC (qN oV v4 v6)) (pC (pN oV (qN v4 v6 v7)))))))))
 (oS (oY (pz (pM v8 (qm (pN (pC (pN oV (qN v4 v6 v7))) (qN (pC (pT oV)) (pC (rB oV v6)) (pC (rB oV v6)))))) (pq (qA G) r G.i (qN v0 oU oU)))))))))),?_⟩)
 rintro ds M Q ⟨c,o,n,own,nm,m,rfl,ho,hn,ol,nl,ml,q⟩
 have hz:=dM;have add:∀{M1:Mp} {p:Addr} {xs:List Str} (f:Int) (nx:DK),qh M M1->oy M1 p=some (xs.map D.str)->xs.length<=100->(∀x M',qh M M'->nx (.str x) M')->∀r1,M1 r1=none->(oy (oZ M1 r1 (.lst [D.str zz])) p).elim False λi=>(oy (oZ M1 r1 (.lst [D.str zz])) r1).elim False λj=>i.length+j.length<=sizeLine/\∀r2,oZ M1 r1 (.lst [D.str zz]) r2=none->(oy (oZ (oZ M1 r1 (.lst [D.str zz])) r2 (.lst (i++j))) p).elim False λys=>Iv [.int c,.int f,.int ((ys.length:Nat)+1)] (oZ (oZ M1 r1 (.lst [D.str zz])) r2 (.lst (i++j))) λy M2=>match y with
  | .int n=>(oy M2 r2).elim False λzs=>(vY zs n).elim False λd=>nx d M2
  | _=>False:=λ{M1 p xs} f nx s hx lx Wy r1 W5=>by
  have t1:=qh.new (c:=.lst [D.str zz]) W5;refine i' (t1.lst hx) (i' o9 ⟨by rw[cT];show xs.length+1<=sizeLine;omega,λr2 YI=>?_⟩);have t2:=qh.new (c:=.lst (xs.map D.str++[D.str zz])) YI;obtain⟨hp,x,_,ex⟩:=Ip D.str (OV xs zz) (m:=((xs.map D.str).length:Nat)+1) (by rw[cT,cX];rfl) c f;rw[dP]at ex;exact i' ((t1.trans t2).lst hx) ⟨c,f,_,rfl,hp,i' o9 (i' ex (Wy x _ (s.trans (t1.trans t2))))⟩
 refine⟨oO rfl,add 16807 _ .refl hn nl λx M1 s1=>⟨oO rfl,add 39373 _ s1 (s1.lst hn) nl λy M2 s2=>?_⟩⟩;refine⟨c,_,_,rfl,by show(0:Int)<(m:Nat)+2;omega,⟨c,_,_,rfl,by show(0:Int)<(m:Nat)+2;omega,?_⟩⟩;generalize draw c 69621 ((m:Nat)+2) - 1=k0;refine⟨oO rfl,oO rfl,oO rfl,oO rfl,oO rfl,oO rfl,oO rfl,λr8 hr8=>⟨oO rfl,oO rfl,oO rfl,oO rfl,oO rfl,λr9 hr9=>?_⟩⟩;have t8:=qh.new (c:=.lst (((Ms x y k0 (draw c 22695477 ((m:Nat)+2) - 1)).take 6).map tP.d)) hr8;have t9:=qh.new (c:=.lst (((Ms x y k0 (draw c 22695477 ((m:Nat)+2) - 1)).drop 6).map tP.d)) hr9;refine i' (t9.lst o9) (i' o9 ⟨by show 6+4<=sizeLine;omega,λr10 hr10=>?_⟩);obtain⟨hp,e,he,ee⟩:=Ip tP.d (xs:=Ms x y k0 (draw c 22695477 ((m:Nat)+2) - 1)) (fE _ _) (m:=10) rfl c 1664525;exact⟨c,_,_,rfl,hp,i' o9 (i' ee ⟨_,.refl,q _ e (s2.trans (t8.trans (t9.trans (.new hr10)))) (KC he)⟩)⟩
def K2(G:Gl K mg a):Fq P w K mg base 5 a.br (Md a):=by
 refine fq G.br.toDG qX (λr u=>⟨_,(oQ (pB 4 qX (pM (pM (pM (pM (pM (Bf (qm (pT oV)) oU) (Bf (qm (pT oV)) oU)) (Bf (qm (pT oV)) oU)) (Bf (qm (pT oV)) oU)) (qm (qN oV oV oV))) (Bf (qm (pT oV)) oU)))
 (oQ (pB 4 qX (pz v4 (pq (qA G) r G.i (qN U1 oU (pH qk rfl G.g qc (pT v4))))))
 (oQ (pB 5 qX (pC (pN oV (qN oV oV oV))))
 (oQ (pE (pb u v4 oV)
 (oS (pB 5 qX (pC (rB oV oV))))
 pk)
 (oQ (pE (pb u v4 oV)
 (oS (pB 5 qX (pC (pT oV))))
 pk)
 (oQ (pE (W3.b3 (xl (pb u v4 oV) (xl (pb u v4 oV) (wH (pb u v4 oV)))))
 (oS (pB 5 qX (pC (pT oV))))
 pk)
 (oQ (pE (pb u v4 oV)
 (oS (oY (pC (pT oV))))
 pk)
 (oQ (pE (pb u (pq (qA G) r G.i (qN U1 oU oU)) oU)
 (oS (oY (pq (NW G) r G.bq (pN U1 (qN U2 U3 (pH qk rfl G.g qc (pT (oX v0))))))))
 pk)
 (oQ (pB 6 qX rF)
 (oQ (pE (pb u v4 oV)
 (oS (pB 6 qX (pq (JL G) r G.bp (pN v0 (qN U1 v4 v5)))))
 pk)
 (oQ (pE (pb u v6 rF)
 (oQ (pB 7 qX (pz U2 (pq (qA G) r G.i (qN U1 oU (pH qk rfl G.g qc (pT U2))))))
 (oS (pB 6 qX (pC (qN oV v7 (pz U3 (pq (qA G) r G.i (qN U1 oU (pH qk rfl G.g qc (pT U3))))))))))
 pk)
 (oS (oY v6))))))))))))),?_⟩)
 rintro ds M Q ⟨A,V,l,c,o,n,own,nm,rfl,rd,wf,ha,ho,hn,one,nne,ol,nl,q⟩
 have hz:=dM;refine SU (t:=FR _ _) (λδ M'=>qh M M'/\∃r,oy M' r=some (GJ.map D.str)/\δ=[some (.ref A.b),some (.int c),some (.ref o),some (.ref n),some (.ref r),none,none,none]) (λnx h=>?_) ?_
 .have Yg:∀{N:Mp} {δ:uM} (w0:Str) (m:Int) (nx:DK),qh M N->(0<=m/\m<=10)->(∀r N',qh M N'->qh N N'->oy N' r=some ((List.replicate m.toNat w0).map D.str)->nx (.ref r) N')->Us (SS (uP (L3.c3 (.str w0)) xF)) (L3.c3 (.int m)) δ N nx:=λ{N δ} w0 m nx sn hm Wy=>by refine⟨oO rfl,λr1 W5=>?_⟩;refine i' o9 ⟨⟨by omega,by omega,by show 1<=1000;decide⟩,λr2 YI=>?_⟩;have t:=(qh.new (c:=.lst [D.str w0]) W5).trans (qh.new (c:=.lst (List.replicate m.toNat [D.str w0]).flatten) YI);refine Wy r2 _ (sn.trans t) t (o9.trans (eE some ?_));rw[List.map_replicate];exact Du _ _
  have Xq:∀{N:Mp} {p r:Addr} {xs ys:List Str} (nx:DK),qh M N->oy N p=some (xs.map D.str)->oy N r=some (ys.map D.str)->xs.length+ys.length<=100->(∀r N',qh M N'->oy N' r=some ((xs++ys).map D.str)->nx (.ref r) N')->Uw .Add (.ref p) (.ref r) N nx:=λ{N p r xs ys} nx sn hx hy hl Wy=>by refine i' hx (i' hy ⟨by rw[cT,cT];omega,λr2 YI=>?_⟩);refine Wy r2 _ (sn.trans (.new YI)) (o9.trans (eE some ?_));rw[dP]
  dsimp only[FR,o3];refine Yg "call" 5 _ .refl (by decide) λp1 N1 s1 _ l1=>Yg "answer" 5 _ s1 (by decide) λq2 N2 s2 t2 l2=>Xq _ s2 (t2.lst l1) l2 (by decide) λp2 N3 s3 l3=>Yg "hang" 2 _ s3 (by decide) λq4 N4 s4 t4 l4=>Xq _ s4 (t4.lst l3) l4 (by decide) λp5 N5 s5 l5=>Yg "hold" 3 _ s5 (by decide) λq6 N6 s6 t6 l6=>Xq _ s6 (t6.lst l5) l6 (by decide) λp7 N7 s7 l7=>⟨oO rfl,λr8 hr8=>?_⟩;have t8:=qh.new (c:=.lst ((["back","hand","join"]:List Str).map D.str)) hr8;exact Xq (ys:=["back","hand","join"]) _ (s7.trans t8) (t8.lst l7) o9 (by decide) λp9 N9 s9 l9=>Yg "turn" 3 _ s9 (by decide) λq10 N10 s10 t10 l10=>Xq _ s10 (t10.lst l9) l10 (by decide) λp11 N11 s11 l11=>h _ _ ⟨s11,p11,l11,rfl⟩
 rintro δ M1 ⟨s1,r,lr,rfl⟩
 have s1n:=s1.lst hn;have s1o:=s1.lst ho;obtain⟨hp,w0,hw,ew⟩:=uu D.str (show GJ≠[]from fE _ _) c 48271;refine i' lr ⟨c,_,_,rfl,hp,i' lr (i' ew ?_)⟩;obtain⟨Yo,x1,hx1,ex1⟩:=uu D.str one c 16807;obtain⟨Ww,x2,hx2,ex2⟩:=uu D.str nne c 39373;have Yd:=rd.sub s1;have lc:((A.cs.map λk=>D.ref k.p).length:Int)=(V.calls.length:Nat):=by rw[cT,rd.bd.len]
 clear lr hp ew;have hw:w0="call"\/w0="turn"\/Qq w0:=by unfold GJ at hw;simp only[df,dB,eW]at hw;unfold Qq;rcases hw with h|h|h|h|h|h|h|h|h|h|h|h|h|h|h|h|h|h|h|h|h<;>simp[h]
 have Wp:∀M' (e:tP),qh M1 M'->e.ng->∃Wq,qh Wq M'/\Q e.d Wq:=λM' e s f=>⟨M',.refl,q M' e (s1.trans s) f⟩;rcases hw with rfl|rfl|hw
 .refine⟨oO rfl,c,_,_,rfl,by decide,qr (c:=draw c 950706376 9==0) (λ_=>oR Yd.bd.at_ (i' rfl (i' Yd.bd.ca ?_))) (λ_=>?_)⟩
  .rw[lc];exact⟨c,o,n,own,nm,V.calls.length,rfl,s1o,s1n,ol,nl,rd.k,Wp⟩
  exact i' s1o ⟨c,_,_,rfl,Yo,i' s1o (i' ex1 (i' s1n ⟨c,_,_,rfl,Ww,i' s1n (i' ex2 ⟨oO rfl,Wp M1 (.call x1 x2) .refl trivial⟩)⟩))⟩
 .exact⟨oO rfl,oO rfl,Wp M1 .turn .refl trivial⟩
 have lany:IZ [.int c,.ref o,.ref n,.int ((V.calls.length:Nat):Int)] M1 λd M'=>∃Wq,qh Wq M'/\Q d Wq:=⟨c,o,n,own,nm,V.calls.length,rfl,s1o,s1n,ol,nl,rd.k,Wp⟩;have hw':=hw;rcases hw with rfl|rfl|rfl|rfl|rfl|rfl
 all_goals
  first
   | refine⟨oO rfl,oO rfl,c,_,_,rfl,by decide,qr (c:=draw c 950706376 9==0) (λ_=>oR Yd.bd.at_ (i' rfl (i' Yd.bd.ca ?_))) (λ_=>⟨A,V,l,c,_,rfl,Yd,wf,ha,hw',λM' s=>⟨?_,λe f=>?_⟩⟩)⟩
   | refine⟨oO rfl,c,_,_,rfl,by decide,qr (c:=draw c 950706376 9==0) (λ_=>oR Yd.bd.at_ (i' rfl (i' Yd.bd.ca ?_))) (λ_=>⟨A,V,l,c,_,rfl,Yd,wf,ha,hw',λM' s=>⟨?_,λe f=>?_⟩⟩)⟩
  .rw[lc];exact lany
  .exact i' (s.lst s1o) ⟨c,_,_,rfl,Yo,i' (s.lst s1o) (i' ex1 (i' (s.lst s1n) ⟨c,_,_,rfl,Ww,i' (s.lst s1n) (i' ex2 ⟨oO rfl,Wp M' (.call x1 x2) s trivial⟩)⟩))⟩
  .cases e with
   | call y z=>exact Wp M' (.call y z) s f
   | num v y ns=>exact Wp M' (.num v y ns) s f
   | turn=>exact Wp M' .turn s f
   | sw b i=>exact Wp M' (.sw b i) s f
def JI{A A':so}{M M':Mp}{x:Addr}{c:uk}(st:qE A M A' M')(h:x∉A.foot)(hx:M x=some c):x∉A'.foot:=λz=>by
 rcases st.2.1 x z with y|y
 .exact h y
 .rw[hx]at y;cases y
theorem HG:∀(n:Nat) (d:D),uN n d=true->uN (n+1) d=true
 | 0,d,h=>by
  cases d with
  | tup ds=>cases h
  | ref _=>cases h
  | ty _=>cases h
  | rl _=>cases h
  | _=>rfl
 | n+1,d,h=>by
  cases d with
  | tup ds=>exact eL.mpr λd hd=>HG n d (eL.mp (show ds.all (uN n)=true from h) d hd)
  | ref _=>cases h
  | ty _=>cases h
  | rl _=>cases h
  | _=>rfl
noncomputable def vK(A:so)(M:Mp):Mp:=λx=>if x∈A.foot then none else M x
def xT{A:so}{M:Mp}{x:Addr}{ds:List D}(h:oy M x=some ds)(n:x∉A.foot):oy (vK A M) x=some ds:=rk (by unfold vK;rw[cY n];exact pJ h)
structure Lp(a:Ad)(M0 N M:Mp)(b:Addr)(A:so)(V:pX)(l:pj)(m:Nat):Prop where
 cu:tw a M0 M b A V l (1+m) (3+2200*m)
 wf:WF l V
 ps:V.ps.length<=3
 own:∀x c,N x=some c->M x=some c/\x∉A.foot
variable {N:Mp}{m:Nat}
def Lp.start{a:Ad}{M0 M:Mp}{b p:Addr}{A:so}{h:Int}{l:pj}(ok:rf l)(pl:rS a M0 p l)(hb:M0 b=none)(eb:A.b=b)(kp:rN b (oZ M0 b (.ins a.c [])) M)(fr:∀x∈A.foot,x=b\/oZ M0 b (.ins a.c []) x=none)(bd:pA a M A (V0 p h l [])):tw a M0 M b A (V0 p h l []) l 1 3/\WF l (V0 p h l [])/\(V0 p h l []).ps.length<=3:=by
 have t:=qh.new (c:=.ins a.c []) hb;refine⟨⟨bd,pl,λx c e=>kp x c (Qe e hb) (t x c e),λx hx=>?_,eb,⟨eX _,eX _,eX _,CU ok,λk hk=>by cases hk⟩,ok,cT ..⟩,Rr ok,CU ok⟩;rcases fr x hx with z|z
 .rw[z];exact hb
 .exact t.none z
def GP{ns:List Int}{m:Int}(h2:2<=m)(h:m<=100):2<=(vP ns m).my.length:=by have:=(wk (s:=cell ns 0) h2 h).2;show 2<=((List.range (rc (cell ns 0) m)).map _).length;rw[cT,eD];exact this
noncomputable def Qg(ns:List Int):Int:=draw (cell ns 0) 22695477 24
def RL(a:Ad):qT:=λds M Q=>B8 λns m=>ds=[.rl (List.map D.int ns),.int m]/\2<=m/\m<=8/\∀M0 M' A p,qh M M0->(∀N,(∀x c,M x=none->M0 x=some c->N x=some c)->rS a N p (vP ns m))->tw a M0 M' A.b A (V0 p (Qg ns) (vP ns m) []) (vP ns m) 1 3->Q (.ref A.b) M'
def JS(a:Ad):qT:=λds M Q=>CN λA V l=>ds=[.ref (so.b A)]/\Rd a M A V l/\∀M' r ro rn,qh M M'->M ro=none->M rn=none->oy M' r=some [.ref ro,.ref rn]->oy M' ro=some (l.pn.map D.str)->oy M' rn=some (l.nm.map D.str)->Q (.ref r) M'
def MP(G:Gl K mg a):Fq P w K mg base 10 a.af (RL a):=by
 refine fq G.af.toDG vi (λr u=>⟨_,(oQ (GD (pq (Li G) r G.bm (rB v0 U1)) (uT (n:=3) rfl (ql (rg 2 vi) (ql (rg 3 vi) (ql (rg 4 vi) tK)))))
 (oS (oY (uV (Kr G) r G.c G.b5 G.ai.toDG (rB (uV (NC G) r G.h G.b6 G.aj.toDG (qN U2 U3 v4)) (pq (qA G) r G.i (qN (pq (Ly G) r G.O (rB v0 oU)) oU oU))))))),?_⟩)
 rintro ds M Q ⟨ns,m,rfl,h2,h8,q⟩
 have ok:rf (vP ns m):=PK h2 h8;refine⟨ns,m,rfl,h2,h8,λr1 r2 r3 M1 s1 e1 e2 e3=>⟨rfl,?_⟩⟩;generalize vP ns m=l at e1 e2 e3 ok q;refine λp hp=>?_;have t2:=qh.new (c:=.ins a.h []) hp;refine⟨p,r1,r2,r3,l,rfl,pG,t2.lst e1,t2.lst e2,t2.lst e3,ok,λM2 kp pa pf=>⟨rfl,?_⟩⟩;have s2:qh M1 M2:=λx c e=>kp x c (Qe e hp) (t2 x c e);refine⟨ns,0,rfl,_,_,_,rfl,by decide,λb hb=>?_⟩;have t5:=qh.new (c:=.ins a.c []) hb;have npb:p≠b:=λz=>by obtain⟨ph,gr,ws,XS,pr,gd,rs,i1,_⟩:=pa;rw[z,hb]at i1;cases i1
 refine⟨b,p,_,[],l,rfl,pG,pa.sub t5,ok,npb,(λx hx=>by cases hx),λM5 A eb kp fr bd=>⟨rfl,M5,.refl,?_⟩⟩;obtain⟨cu,_⟩:=Lp.start ok pa hb eb kp fr bd;subst eb;exact q M2 M5 A p (s1.trans s2) (λN H=>pf N λx c hx e=>H x c (hx.elim (λz=>by rw[z];exact s1.none hp) λz=>s1.none (t2.none z)) e) cu
def Jt(G:Gl K mg a):Fq P w K mg base 1 a.bs (JS a):=by
 refine fq G.bs.toDG yM (λr u=>⟨_,(oQ (uQ (i:=1) yM.nd rfl (Or.inl rfl) rfl (xV (ix:=[none]) (N':=["_law_phone"])) (qv (oX (oX v0))) (qu 0) rC (pz v0 oU))
 (oS (oY (qm (rB U1 (pM U1 (qw rfl (xV (ix:=[none]) (N':=["_law_group"])) (qv (oX (oX v0))) (qu 0) rC (pz v0 oU)))))))),?_⟩)
 rintro ds M Q ⟨A,V,l,rfl,rd,q⟩
 have hz:=dM;have p8:=rd.ok.p8;have g3:=rd.ok.g3;have pl:l.pn.length=l.my.length:=cT ..;obtain⟨ph,gr,ws,XS,pr,gd,rs,i1,i2,i3,_⟩:=rd.pl;refine oR rd.bd.at_ (i' rfl (oR i1 (i' rfl (i' i2 (qM (f:=Al) i2 _ [] _ (by rw[cT];simp only[dI];omega) (λd hd k hk=>?_) λro hro=>?_)))))
 .obtain⟨x,_,rfl⟩:=dz.mp hd;exact hk
 rw[dX,wb];have t3:=qh.new (c:=.lst ((l.my.map (·.1)).map D.str)) hro;have lo:oy (oZ M ro (.lst ((l.my.map (·.1)).map D.str))) ro=some (l.pn.map D.str):=o9;show zS (oZ M ro (.lst ((l.my.map (·.1)).map D.str)) A.b) _;generalize oZ M ro (.lst ((l.my.map (·.1)).map D.str))=M3 at lo t3 ⊢;refine oR (t3 _ _ rd.bd.at_) (i' rfl (oR (t3 _ _ i1) (i' rfl (i' (t3.lst i3) (qM (f:=Al) (t3.lst i3) _ [] _ (by rw[cT];simp only[dI];omega) (λd hd k hk=>?_) λp hp=>?_)))))
 .obtain⟨x,_,rfl⟩:=dz.mp hd;exact hk
 rw[dX,wD];have t:=qh.new (c:=.lst ((l.groups.map (·.1)).map D.str)) hp;refine i' (t.lst lo) (i' o9 ⟨by rw[cT,cT,cT];omega,λrn hrn=>⟨oO rfl,λr hr=>?_⟩⟩);have t2:=t.trans (.new (c:=.lst (l.pn.map D.str++(l.groups.map (·.1)).map D.str)) hrn);have t3':=t2.trans (.new (c:=.lst [D.ref ro,.ref rn]) hr);refine⟨_,.refl,q _ r ro rn (t3.trans t3') hro ((t3.trans t).none hrn) o9 (t3'.lst lo) ((qh.new hr).lst ?_)⟩;rw[o9,<-dP];rfl
def Qd{l:pj}{V:pX}{p:Addr}{F:List Addr}(h:WF l V):WF l (V.at_ p F):=⟨h.ok,h.un,h.ln,h.wt,h.nx⟩
theorem MV:∀(es:List Ev) (V:pX),(qz V es).fo=V.fo
 | [],_=>rfl
 | e::r,V=>(MV r _).trans (HS V e)
def H9{A:so}{M:Mp}{x:Addr}{c:uk}(e:vK A M x=some c):M x=some c/\x∉A.foot:=by
 unfold vK at e;split at e
 .cases e
 .rename_i h;exact⟨e,h⟩
def zu{A:so}{M:Mp}{x:Addr}{c:uk}(e:M x=some c)(n:x∉A.foot):vK A M x=some c:=(cY n).trans e
def BL{A:so}{M:Mp}{x:Addr}(n:x∈A.foot):vK A M x=none:=c9 n
def TM{a:Ad}{M:Mp}{A:so}{p:Addr}{h:Int}{l:pj}{F F':List Addr}(bd:pA a M A (V0 p h l F))(hF:∀x∈F',∃c,M x=some c):pA a M A (V0 p h l F'):=
 ⟨bd.at_,bd.ca,bd.le,bd.nx,bd.on,bd.lo,bd.len,λi k c e1 e2=>by simp[V0]at e2,bd.nl,bd.np,hF⟩
def pA.oo{a:Ad}{M M':Mp}{A A1 A2:so}{V:pX}(h:pA a M A V)(st:qE A1 M A2 M')(h1:∀x∈A1.foot,x∉A.foot)(h2:V.fo=A1.foot)(h3:∀x∈A2.foot,∃c,M' x=some c):pA a M' A (V.at_ V.p A2.foot):=by
 have b:=h.frame st h1 λx hx=>.inl (h2 ▸ hx);refine⟨b.at_,b.ca,b.le,b.nx,b.on,b.lo,b.len,λi k c e1 e2=>?_,b.nl,b.np,h3⟩;obtain⟨ad,md,g1,g2,g3,g4,g5,g6⟩:=h.cs i k c e1 e2;obtain⟨f1,f2,f3,f4,f5,f6,f7⟩:=A.mI;have no:∀{x:Addr} {ds:List D},x∉A.lists++V.fo->oy M x=some ds->oy M' x=some ds/\x∉A.lists++A2.foot:=λ{x ds} hx e=>by
  have n1:x∉A1.foot:=λz=>hx (dZ _ (h2 ▸ z));refine⟨rk (st.1 x _ n1 (pJ e)),λz=>?_⟩;rcases dW.mp z with z|z
  .exact hx (fg _ z)
  .rcases st.2.1 x z with y|y
   .exact n1 y
   .rw[pJ e]at y;cases y
 have hf:∀x∈A.foot,∀c,M x=some c->M' x=some c:=λx hx c e=>st.1 x c (λz=>h1 x z hx) e;exact⟨ad,md,hf _ (f6 k (qp e1)) _ g1,rk (hf _ (f7 k (qp e1)) _ (pJ g2)),(no g5 g3).1,(no g6 g4).1,(no g5 g3).2,(no g6 g4).2⟩
structure Tw(a:Ad)(N M:Mp)(b:Addr)(A:so)(V:pX)(l:pj)(c n:Nat)(b2:Addr)(A2:so)(V2:pX)(l2:pj)(c2 n2:Nat):Prop where
 x:tw a N M b A V l c n
 y:tw a N M b2 A2 V2 l2 c2 n2
 f:V.fo=A2.foot
 g:V2.fo=A.foot
 ne:∀x∈A.foot,x∉A2.foot
variable {b2:Addr}{A2:so}{V2:pX}{l2:pj}{c' n' c2 n2:Nat}
section
variable {c:Nat}
def Tw.swap(t:Tw a N M b A V l c n b2 A2 V2 l2 c2 n2):Tw a N M b2 A2 V2 l2 c2 n2 b A V l c n:=⟨t.y,t.x,t.g,t.f,λx h z=>t.ne x z h⟩
def Tw.sub(t:Tw a N M b A V l c n b2 A2 V2 l2 c2 n2)(s:qh M M'):Tw a N M' b A V l c n b2 A2 V2 l2 c2 n2:=⟨t.x.sub s,t.y.sub s,t.f,t.g,t.ne⟩
def Tw.one(t:Tw a N M b A V l c n b2 A2 V2 l2 c2 n2)(st:qE A M A' M')(cu:tw a N M' b A' V' l c' n')(hf:V'.fo=V.fo):Tw a N M' b A' V' l c' n' b2 A2 (V2.at_ V2.p A'.foot) l2 c2 n2:=by
 have dm:=cu.bd.ou.2;refine⟨cu,⟨t.y.bd.oo st t.ne t.g dm,t.y.oi,cu.s0,t.y.fr,t.y.b,⟨t.y.sz.lo,t.y.sz.le,t.y.sz.ca,t.y.sz.ps,t.y.sz.cs⟩,t.y.ok,t.y.on⟩,hf.trans t.f,rfl,λx h z=>?_⟩;rcases st.2.1 x h with y|y
 .exact t.ne x y z
 .exact t.y.bd.nj y z
def Tw.mono(t:Tw a N M b A V l c n b2 A2 V2 l2 c2 n2){c3 n3 c4 n4:Nat}(h1:c<=c3)(h2:n<=n3)(h3:c2<=c4)(h4:n2<=n4):Tw a N M b A V l c3 n3 b2 A2 V2 l2 c4 n4:=⟨t.x.mono h1 h2,t.y.mono h3 h4,t.f,t.g,t.ne⟩
end
def pA.refo{a:Ad}{M M':Mp}{A:so}{V:pX}{F:List Addr}(h:pA a M A V)(s:qh M M')(hn:∀x∈F,M x=none)(hF:∀x∈F,∃c,M' x=some c):pA a M' A (V.at_ V.p F):=by
 have b:=h.sub s;refine⟨b.at_,b.ca,b.le,b.nx,b.on,b.lo,b.len,λi k c e1 e2=>?_,b.nl,b.np,hF⟩;obtain⟨ad,md,g1,g2,g3,g4,g5,g6⟩:=h.cs i k c e1 e2;have no:∀{x:Addr} {ds:List D},x∉A.lists++V.fo->oy M x=some ds->x∉A.lists++F:=λ{x ds} hx e z=>by
  rcases dW.mp z with z|z
  .exact hx (fg _ z)
  .have:=hn x z;rw[pJ e]at this;cases this
 exact⟨ad,md,s _ _ g1,s.lst g2,s.lst g3,s.lst g4,no g5 g3,no g6 g4⟩
def Tw.join{a:Ad}{M01 M1 M3 Y4 M4 M2 M:Mp}{b b2:Addr}{A A2:so}{V V2:pX}{l l2:pj}{c n d k:Nat}(c1:tw a M01 M1 b A V l c n)(s1:qh M1 M3)(s2:qh M3 Y4)(pf:∀N,(∀x c,M3 x=none->Y4 x=some c->N x=some c)->rS a N V2.p l2)(s4:qh Y4 M4)(c2:tw a M4 M2 b2 A2 V2 l2 d k)(s3:qh M2 M)(hf:V2.fo=A.foot):Tw a (vK A2 (vK A M)) M b A (V.at_ V.p A2.foot) l c n b2 A2 V2 l2 d k:=by
 have d1:∀x∈A.foot,∃c,M3 x=some c:=λx hx=>by obtain⟨c,e⟩:=c1.bd.ou.2 x hx;exact⟨c,s1 x c e⟩
 have s24:=s2.trans s4;have ne:∀x∈A.foot,x∉A2.foot:=λx hx z=>by obtain⟨c,e⟩:=d1 x hx;have:=c2.fr x z;rw[s24 x c e]at this;cases this
 have s23:=c2.s0.trans s3;have s14:=s1.trans s24;have sM:=s14.trans s23;have k1:qh M01 (vK A2 (vK A M)):=λx c e=>by
  have e1:=c1.s0 x c e;refine zu (zu (sM x c e1) λz=>?_) λz=>?_
  .rw[c1.fr x z]at e;cases e
  .have:=c2.fr x z;rw[s14 _ _ e1]at this;cases this
 have k2:rS a (vK A2 (vK A M)) V2.p l2:=pf _ λx c e1 e2=>zu (zu (s23 x c (s4 x c e2)) λz=>by
  obtain⟨d,e⟩:=d1 x z;rw[e1]at e;cases e) λz=>by have:=c2.fr x z;rw[s4 x c e2]at this;cases this
 have k3:qh (vK A2 (vK A M)) M:=λx c e=>(H9 (H9 e).1).1;have d2:∀x∈A2.foot,∃c,M x=some c:=λx hx=>by obtain⟨c,e⟩:=c2.bd.ou.2 x hx;exact⟨c,s3 x c e⟩
 refine⟨⟨c1.bd.refo sM (λx hx=>s14.none (c2.fr x hx)) d2,c1.oi.sub k1,k3,λx hx=>?_,c1.b,⟨c1.sz.lo,c1.sz.le,c1.sz.ca,c1.sz.ps,c1.sz.cs⟩,c1.ok,c1.on⟩,⟨c2.bd.sub s3,k2,k3,λx hx=>BL hx,c2.b,c2.sz,c2.ok,c2.on⟩,rfl,hf,ne⟩;by_cases z:x∈A2.foot
 .exact BL z
 .exact(cY z).trans (BL hx)
def Tw.start{a:Ad}{M01 M1 M3 Y4 M2 M:Mp}{b b2 p p2:Addr}{A A2:so}{l l2:pj}{h:Int}(c1:tw a M01 M1 b A (V0 p h l []) l 1 3)(s1:qh M1 M3)(s2:qh M3 Y4)(pf:∀N,(∀x c,M3 x=none->Y4 x=some c->N x=some c)->rS a N p2 l2)(c2:tw a Y4 M2 b2 A2 (V0 p2 h l2 []) l2 1 3)(s3:qh M2 M):Tw a (vK A2 (vK A M)) M b A (V0 p h l A2.foot) l 1 3 b2 A2 (V0 p2 h l2 A.foot) l2 1 3:=
 Tw.join (V2:=V0 p2 h l2 A.foot) c1 s1 s2 pf .refl ⟨TM c2.bd (λx hx=>by
  obtain⟨c,e⟩:=c1.bd.ou.2 x hx;exact⟨c,c2.s0 x c (s2 x c (s1 x c e))⟩),c2.oi,c2.s0,c2.fr,c2.b,⟨c2.sz.lo,c2.sz.le,c2.sz.ca,c2.sz.ps,c2.sz.cs⟩,c2.ok,c2.on⟩ s3 rfl
noncomputable def LX(c:oW)(x:Str)(i:Nat):List Ev:=if c.mH x=true then[.over i "left"]else if hasS c.at_ x=true then .leaves i x::(if qQ c.at_ x=[]then[.over i "refused"]else[])else if 2<c.ms.length then[.leaves i x]else[.over i "done"]
def Kv(a:Ad):qT:=λds M Q=>Ij λl L k c x (i:Nat)=>ds=[.ref (qV.p k),.str x,.int i]/\rm a M L k c/\uU l false c/\c.mU x=true/\∀r,M r=none->Q (.ref r) (oZ M r (.lst ((LX c x i).map Ev.d)))
def NH(a:Ad):qT:=λds M Q=>AU λA V l e=>ds=[.ref (so.b A),tP.d e]/\Rd a M A V l/\WF l V/\e.ng/\xu l V e=none/\((∃b i,e=.sw b i)\/∃w x ns,e=.num w x ns)/\∀r M',qh M M'->oy M' r=some ((sr l V e).map Ev.d)->Q (.ref r) M'
def FH{ss:List Str}{x:Str}:hasS ss x=true↔x∈ss:=by unfold hasS;rw[gp];exact⟨λ⟨y,hy,e⟩=>(eq_of_beq e) ▸ hy,λh=>⟨x,h,eM x⟩⟩
def Iu(G:Gl K mg a):Fq P w K mg base 1 a.ag (vw a):=by
 refine fq G.ag.toDG Eu (λr u=>⟨_,(oS (oY (pz (qw rfl (xV (ix:=[none,some 1]) (N':=["_law_phone","_law_a"])) (qv (oX v0)) (qu 0) (uX (pb u v0 U1)) v0) oU))),?_⟩)
 rintro ds M Q ⟨L,k,c,x,y,r,rfl,hc,hl,e,q⟩
 have hz:=dM;obtain⟨ad,md,h1,h2,h3,h4,_⟩:=id hc;refine oR h1 (i' rfl (i' h4 (sv (f:=id) (t:=LH x) h4 _ [] _ (by rw[cT];simp only[dI];omega) (λd hd k0 hk=>?_) (λd hd _ k0 hk=>?_) λp hp=>?_)))
 .obtain⟨y,hy,rfl⟩:=dz.mp hd;exact hk
 .obtain⟨y,hy,rfl⟩:=dz.mp hd;exact hk
 rw[yN,e];exact i' o9 (i' (wO _ _) ⟨M,.new hp,q⟩)
def ME(G:Gl K mg a):Fq P w K mg base 1 a.bu (Kv a):=by
 refine fq G.bu.toDG Fj (λr u=>⟨_,(oQ (pE (W3.b3 (vF (pb u (oX v0) oV) (vj (pb u (pH qk rfl G.g qc (pT (oX v0))) oU))))
 (oS (oY (qm (pT (pC (qN oV U2 U1))))))
 pk)
 (oQ (pE (W3.b3 (xl (pb u (oX v0) oV) (wH (pb u (oX v0) oV))))
 (oS (oY (qm (pT (pC (qN oV U2 oV))))))
 pk)
 (oQ (pE (pb u (oX v0) U1)
 (oS (oY (qm (pT (pC (qN oV U2 oV))))))
 pk)
 (oQ (pE (pb u (pH qk rfl G.g qc (pT (oX v0))) oU)
 (oS (oY (qm (rB (pC (qN oV U2 U1)) (pC (qN oV U2 oV))))))
 pk)
 (oS (oY (qm (pT (pC (qN oV U2 U1)))))))))),?_⟩)
 rintro ds M Q ⟨l,L,k,c,x,i,rfl,⟨ad,md,h1,h2,h3,h4,_⟩,ok,lv,q⟩
 have hz:=dM;have q1:∀es,LX c x i=es->∀r,M r=none->∃M',qh M' (oZ M r (.lst (es.map Ev.d)))/\Q (.ref r) M':=λes h r hr=>⟨_,.refl,h ▸ q r hr⟩;have an:=ok.an;have sh:=ok.sh;clear ok q;obtain⟨st,cr,way,at_,ms,hd,si,wd⟩:=c;unfold oW.mU oW.mH at lv;unfold MH at sh;dsimp only at lv sh an h3 h4;rcases sh with⟨rfl,rfl,rfl,rfl,_,_⟩|⟨_,⟨rfl,rfl,rfl,rfl,_⟩|⟨rfl,hm,rfl,rfl,rfl⟩|⟨y,rfl,hm,rfl,_,rfl,rfl⟩|⟨rfl,rfl,rfl,rfl,_⟩⟩
 .refine oR h1 (i' rfl (oR h1 (i' rfl (oR h1 (i' rfl (oR h1 (i' rfl ?_)))))));refine qr (c:=cr==x) (λg=>?_) (λg=>?_)
  .obtain rfl:=eq_of_beq g;exact⟨oO rfl,oO rfl,λr hr=>q1 _ (c9 (by show(true&&(cr==cr))=true;rw[eM];rfl)) r hr⟩
  have g':¬((true&&(x==cr))=true):=λz=>g (by rw[eq_of_beq (show(x==cr)=true from z)];exact eM _);have hx:hasS at_ x=true:=by have z:((true&&(x==cr))||(hasS at_ x||false))=true:=lv;rw[dE.mpr g',fC,iy]at z;exact z
  have dl:=uY an (FH.mp hx);refine oR h1 (i' rfl (i' h3 ?_));refine qr (c:=((at_.map D.str).length:Int)==1) (λg2=>?_) (λg2=>?_)
  .rw[cT]at g2;have g2:=eq_of_beq g2;have z:qQ at_ x=[]:=fL.mp (by omega);exact⟨oO rfl,oO rfl,oO rfl,λr hr=>q1 [.leaves i x,.over i "refused"] ((cY g').trans ((c9 hx).trans (eE (Ev.leaves i x::·) (c9 z)))) r hr⟩
  .have z:qQ at_ x≠[]:=λz=>g2 (by rw[z]at dl;rw[cT,<-dl];rfl);exact⟨oO rfl,oO rfl,λr hr=>q1 [.leaves i x] ((cY g').trans ((c9 hx).trans (eE (Ev.leaves i x::·) (cY z)))) r hr⟩
 .refine oR h1 (i' rfl (oR h1 (i' rfl (oR h1 (i' rfl (oR h1 (i' rfl ?_)))))));refine qr (c:=cr==x) (λg=>?_) (λg=>?_)
  .obtain rfl:=eq_of_beq g;exact⟨oO rfl,oO rfl,λr hr=>q1 _ (c9 (by show(true&&(cr==cr))=true;rw[eM];rfl)) r hr⟩
  have g':¬((true&&(x==cr))=true):=λz=>g (by rw[eq_of_beq (show(x==cr)=true from z)];exact eM _);have hx:hasS at_ x=true:=by have z:((true&&(x==cr))||(hasS at_ x||false))=true:=lv;rw[dE.mpr g',fC,iy]at z;exact z
  have dl:=uY an (FH.mp hx);refine oR h1 (i' rfl (i' h3 ?_));refine qr (c:=((at_.map D.str).length:Int)==1) (λg2=>?_) (λg2=>?_)
  .rw[cT]at g2;have g2:=eq_of_beq g2;have z:qQ at_ x=[]:=fL.mp (by omega);exact⟨oO rfl,oO rfl,oO rfl,λr hr=>q1 [.leaves i x,.over i "refused"] ((cY g').trans ((c9 hx).trans (eE (Ev.leaves i x::·) (c9 z)))) r hr⟩
  .have z:qQ at_ x≠[]:=λz=>g2 (by rw[z]at dl;rw[cT,<-dl];rfl);exact⟨oO rfl,oO rfl,λr hr=>q1 [.leaves i x] ((cY g').trans ((c9 hx).trans (eE (Ev.leaves i x::·) (cY z)))) r hr⟩
 .refine oR h1 (i' rfl (oR h1 (i' rfl (i' h4 ?_))));refine qr (c:=((ms.map D.str).length:Int)==3) (λg=>?_) (λg=>?_)
  .rw[cT]at g;have g:=eq_of_beq g;exact⟨oO rfl,oO rfl,λr hr=>q1 [.leaves i x] (show(if 2<ms.length then[Ev.leaves i x]else[.over i "done"])=_ from c9 (by omega)) r hr⟩
  .have g:ms.length≠3:=λz=>g (by rw[cT,z];rfl);exact oR h1 (i' rfl ⟨oO rfl,oO rfl,λr hr=>q1 [.over i "done"] (show(if 2<ms.length then[Ev.leaves i x]else[.over i "done"])=_ from cY (by omega)) r hr⟩)
 .exact oR h1 (i' rfl (oR h1 (i' rfl (oR h1 (i' rfl ⟨oO rfl,oO rfl,λr hr=>q1 [.over i "done"] (show(if 2<ms.length then[Ev.leaves i x]else[.over i "done"])=_ from cY (by omega)) r hr⟩)))))
 .cases(show false=true from lv)
def OS(G:Gl K mg a):Fq P w K mg base 2 a.bv (NH a):=by
 refine fq G.bv.toDG tM (λr u=>⟨_,(oQ (pB 2 tM (pz U1 oU))
 (oQ (pE (W3.b3 (xl (pb u U2 oV) (wH (pb u U2 oV))))
 (oS (oY (qm (pT U1))))
 pk)
 (oQ (pB 3 tM (pz U1 oU))
 (oQ (pB 4 tM (pz U1 oU))
 (oQ (pB 5 tM (pz (oX v0) v4))
 (oQ (pE (pb u U2 oV)
 (oS (oY (qm (pT (pC (qN oV v4 (pC (rB (oX v5) U3))))))))
 pk)
 (oQ (pE (pb u U2 oV)
 (oS (oY (pq (ME G) r G.bu (qN v5 U3 v4))))
 pk)
 (oQ (pE (pb u U2 oV)
 (oS (oY (qm (pT (pC (qN oV v4 U3))))))
 pk)
 (oQ (pE (pb u U2 oV)
 (oS (oY (qm (pT (pC (qN oV v4 (qg tS rfl G.H tW (pT (oX v5)))))))))
 pk)
 (oQ (pB 6 tM (pC (rB (pq (Iu G) r G.ag (rB v5 U3)) (pq (Iu G) r G.ag (rB (pz (oX v0) (pz U1 oU)) U3)))))
 (oQ (pE (pb u U2 oV)
 (oS (pB 6 tM (pM (pC (pT U3)) v6)))
 pk)
 (oS (oY (qm (pT (pC (pN oV (qN v4 (pz U1 oU) v6)))))))))))))))))),?_⟩)
 .rintro ds M Q ⟨A,V,l,e,rfl,rd,wf,hf,hr,he,q⟩
  have hz:=dM;have one:∀(ev:Ev),sr l V e=[ev]->∀r,M r=none->∃M',qh M' (oZ M r (.lst [ev.d]))/\Q (.ref r) M':=λev h r hr=>⟨_,.refl,q r _ (.new hr) (by rw[h];exact o9)⟩;rcases he with⟨b,i,rfl⟩|⟨wd,x,ns,rfl⟩
  .obtain⟨h1,h2⟩:=Ky hr;obtain⟨i,rfl⟩:=uc h1;cases b with
   | true=>exact i' rfl ⟨oO rfl,one (.sw true i) rfl⟩
   | false=>exact i' rfl ⟨oO rfl,one (.sw false i) rfl⟩
  .obtain⟨hx,no⟩:=Ef hf hr;cases no with
   | answer i c0 hi hc0 h1 h2 h3=>obtain⟨i,rfl⟩:=uc hi;obtain⟨k,ek,ca⟩:=rd.call hc0;obtain⟨ad,md,h1,h2,h3,h4,n1,n2⟩:=ca;refine i' rfl (i' rfl (i' rfl ?_));refine oR rd.bd.at_ (i' rfl (i' rfl (i' rd.bd.ca (i' (qx ek) ?_))));exact oR h1 (i' rfl ⟨oO rfl,oO rfl,oO rfl,one (.talks i [c0.cr,x]) (eE (λev=>[ev]) (wK hc0))⟩)
   | hang i c0 hi hc0 h1=>
    obtain⟨i,rfl⟩:=uc hi;obtain⟨k,ek,ca⟩:=rd.call hc0;refine i' rfl (i' rfl (i' rfl ?_));refine oR rd.bd.at_ (i' rfl (i' rfl (i' rd.bd.ca (i' (qx ek) ?_))));refine⟨l,_,k,c0,x,i,rfl,ca,wf.ok i c0 hc0,h1,λr hr=>⟨_,.refl,q r _ (.new hr) ?_⟩⟩;have z:sr l V (.num "hang" x [(i:Int)])=LX c0 x i:=by show uL V x i=_;unfold uL;rw[show V.calls[i]?=some c0 from hc0];rfl
    rw[z];exact o9
   | hold i c0 hi hc0 h1=>obtain⟨i,rfl⟩:=uc hi;obtain⟨k,ek,ca⟩:=rd.call hc0;refine i' rfl (i' rfl (i' rfl ?_));refine oR rd.bd.at_ (i' rfl (i' rfl (i' rd.bd.ca (i' (qx ek) ?_))));exact⟨oO rfl,oO rfl,one (.held i x) (eE (λev=>[ev]) (wK hc0))⟩
   | back i c0 hi hc0 h1 h2=>obtain⟨i,rfl⟩:=uc hi;obtain⟨k,ek,ca⟩:=rd.call hc0;obtain⟨ad,md,h1,h2,h3,h4,n1,n2⟩:=ca;refine i' rfl (i' rfl (i' rfl ?_));refine oR rd.bd.at_ (i' rfl (i' rfl (i' rd.bd.ca (i' (qx ek) ?_))));exact oR h1 (i' rfl (i' h4 ⟨oO rfl,oO rfl,one (.talks i c0.ms) (eE (λev=>[ev]) (wK hc0))⟩))
   | two _ i j c0 d0 hi hj hw hc0 hd0 h1 h2=>
    obtain⟨i,rfl⟩:=uc hi;obtain⟨j,rfl⟩:=uc hj;have k0:=wf.ok _ c0 hc0;have k1:=wf.ok _ d0 hd0;obtain⟨_,u2,u3,_⟩:=AQ k0 h1;obtain⟨_,v2,v3⟩:=xG.mp h2;obtain⟨y1,r1,e1⟩:=fD (AM k0.mn u2 u3);obtain⟨y2,r2,e2⟩:=fD (AM k1.mn v3 v2);obtain⟨k,ek,ca⟩:=rd.call hc0;obtain⟨k',ek',ca'⟩:=rd.call hd0;have o1:pU c0 x=y1:=by unfold pU;rw[e1];rfl
    have o2:pU d0 x=y2:=by unfold pU;rw[e2];rfl
    have he:sr l V (.num wd x [(i:Int),(j:Int)])=[.merge i j (if (wd=="hand")=true then[pU c0 x,pU d0 x]else[x,pU c0 x,pU d0 x])]:=eE (λev=>[ev]) (Fb hc0 hd0);rw[o1,o2]at he;rcases hw with rfl|rfl
    .refine i' rfl (i' rfl (i' rfl ?_));refine oR rd.bd.at_ (i' rfl (i' rfl (i' rd.bd.ca (i' (qx ek) ?_))));refine⟨_,k,c0,x,y1,r1,rfl,ca,(rd.ms c0 (qp hc0)).2,e1,?_⟩;refine oR rd.bd.at_ (i' rfl (i' rd.bd.ca (i' (qx ek') ?_)));refine⟨_,k',d0,x,y2,r2,rfl,ca',(rd.ms d0 (qp hd0)).2,e2,?_⟩;exact⟨oO rfl,i' rfl ⟨oO rfl,oO rfl,one _ he⟩⟩
    .refine i' rfl (i' rfl (i' rfl ?_));refine oR rd.bd.at_ (i' rfl (i' rfl (i' rd.bd.ca (i' (qx ek) ?_))));refine⟨_,k,c0,x,y1,r1,rfl,ca,(rd.ms c0 (qp hc0)).2,e1,?_⟩;refine oR rd.bd.at_ (i' rfl (i' rd.bd.ca (i' (qx ek') ?_)));refine⟨_,k',d0,x,y2,r2,rfl,ca',(rd.ms d0 (qp hd0)).2,e2,?_⟩;exact⟨oO rfl,oO rfl,fE _ _,by show 1+2<=sizeLine;omega,i' rfl ⟨oO rfl,oO rfl,one _ he⟩⟩
seal L3.E3 L3.B3 L3.A3 L3.S3 L3.Hv
def LC:qT:=λds M Q=>∃ns:List Int,ds=[.rl (ns.map D.int)]/\ns.length<=63/\Q (.bl true) M
def Se{M:Mp}{x:Addr}{ds:List D}(h:oy M x=some ds):VV M (.ref x)=some (.type "list"):=by show GH (M x)=_;rw[pJ h];rfl
def tw.szs{a:Ad}{N M:Mp}{b:Addr}{A:so}{V V1:pX}{l:pj}{c n c' n':Nat}{p:Addr}{F:List Addr}(h:tw a N M b A V l c n)(z:Sz V1 c' n')(e:V=V1.at_ p F):tw a N M b A V l c' n':=⟨h.bd,h.oi,h.s0,h.fr,h.b,by subst e;exact⟨z.lo,z.le,z.ca,z.ps,z.cs⟩,h.ok,h.on⟩
def R1(G:Gl K mg a):Fq P w K mg base 17 a.ah LC:=by
 refine fq G.ah.toDG ww (λr u=>⟨_,(oQ (pB 1 ww (pq (MP G) r G.af (rB v0 oU)))
 (oQ (pB 2 ww (pq (MP G) r G.af (rB v0 oU)))
 (oQ (GD (pq (Jt G) r G.bs (pT U1)) (O2 (n:=2) rfl (ql (rg 3 ww) (ql (rg 4 ww) tK))))
 (oQ (uB fu rfl (qv (rR v0 (se oU) (se oU))) (rg 5 ww)
 (oQ (pB 6 ww (pq (K2 G) r G.br (pN U1 (qN v5 U3 v4))))
 (oQ (pB 7 ww (pq (Pe G) r G.bt (rB U1 v6)))
 (oQ (pE (uS (pH JG rfl G.cB Ck (rB v7 (TN rfl G.cC R0))))
 (oS Fh)
 pk)
 (oQ (pE (W3.b3 (vF (pb u (pz v6 oU) oV) (vF (pb u (pz v6 oU) oV) (vj (pb u v7 (pq (OS G) r G.bv (rB U2 v6)))))))
 (oS (oY yd))
 pk)
 (oS (uB fu rfl (qv v7) (rg 8 ww)
 (oS (pD (pK U2 G.c.toCls G.k (qH G) r (pT v8)))))))))))
 (oS (oY yd)))))),?_⟩)
 rintro ds M Q ⟨ns,rfl,hns,q⟩
 have hz:=dM;refine⟨ns,6,rfl,by decide,by decide,λM0 M1 A p s0 _ cu=>?_⟩;refine⟨ns,6,rfl,by decide,by decide,λY4 M2 A2 p2 s02 pf Yt=>?_⟩;have Ww:2<=(vP ns 6).my.length:=GP (by decide) (by decide);generalize vP ns 6=l at cu Yt Ww pf;generalize Qg ns=h at cu Yt;have p8:=cu.ok.p8;have g3:=cu.ok.g3;have pl:l.pn.length=l.my.length:=cT ..;have nl:l.nm.length=l.my.length+l.groups.length:=by unfold pj.nm pj.pn pj.gn;rw[cX,cT,cT]
 have cuM:=cu.sub (s02.trans Yt.s0);refine⟨A,_,l,rfl,cuM.rd (by decide) (Rr cu.ok),λM3 r ro rn s3 hro hrn lr lo ln=>i' lr ⟨rfl,?_⟩⟩;dsimp only[ud,zR,Fs];have nro:=cuM.bd.nj hro;have nrn:=cuM.bd.nj hrn;have nro2:=Yt.bd.nj hro;have nrn2:=Yt.bd.nj hrn;refine λsl Yj=>i' o9 ?_;have t7:=qh.new (c:=.lst (L3.tq (ns.map D.int) (some 1) (some 64))) Yj;have l7:=@o9 M3 sl (L3.tq (ns.map D.int) (some 1) (some 64));have hL:(L3.tq (ns.map D.int) (some 1) (some 64)).length<=63:=by unfold L3.tq;rw[fM,fY,cT];omega
 have hLi:∀d∈L3.tq (ns.map D.int) (some 1) (some 64),∃c,d=.int c:=λd hd=>by unfold L3.tq at hd;obtain⟨c,_,rfl⟩:=dz.mp (iN (iM hd));exact⟨c,rfl⟩
 generalize L3.tq (ns.map D.int) (some 1) (some 64)=L at t7 l7 hL hLi ⊢;have n7:sl∉A.foot:=(cuM.sub s3).bd.nj Yj;have n72:sl∉A2.foot:=(Yt.sub s3).bd.nj Yj;have lo:=t7.lst lo;have ln:=t7.lst ln;have s7:=s3.trans t7;generalize oZ M3 sl (.lst L)=M4 at l7 lo ln s7 ⊢;have i9:=Tw.start cu .refl s02 pf Yt s7;have l7:=xT (xT l7 n7) n72;have lo:=xT (xT lo nro) nro2;have ln:=xT (xT ln nrn) nrn2;have sE:=s0.trans (cu.s0.trans (s02.trans (Yt.s0.trans s7)));have wf0:WF l (V0 p h l A2.foot):=Rr cu.ok;have q0:∃N0,qh M N0/\qh N0 (vK A2 (vK A M4)):=⟨M,.refl,λx c e=>by
  have e1:=s0 x c e;refine zu (zu (sE x c e) λz=>?_) λz=>?_
  .rw[cu.fr x z]at e1;cases e1
  .have:=Yt.fr x z;rw[s02 _ _ (cu.s0 _ _ e1)]at this;cases this⟩
 obtain⟨N0,n0,n1⟩:=q0;generalize vK A2 (vK A M4)=N at i9 l7 lo ln n1;generalize hb:A.b=b at i9 ⊢;generalize hb2:A2.b=b2 at i9 ⊢;have sN:=n0.trans n1;clear cu Yt cuM pf nro nrn nro2 nrn2 n7 n72 s7 t7 Yj hro hrn lr sE n0 n1;refine wm L (λpre δ M'=>(∃A V A2,Tw a N M' b A V l (1+pre.length) (3+2200*pre.length) b2 A2 (V.at_ p2 A.foot) l (1+pre.length) (3+2200*pre.length)/\WF l V)/\∃y5 y6 y7 y8,δ=[some (.rl (ns.map D.int)),some (.ref b),some (.ref b2),some (.ref ro),some (.ref rn),y5,y6,y7,y8]) (λ_ _ M' j=>by obtain⟨A,V,A2,g,_⟩:=j.1;exact g.x.s0.lst l7) _ [] _ _ rfl ⟨⟨A,_,A2,i9,wf0⟩,none,none,none,none,rfl⟩ ?_ ?_
 .clear i9 wf0 hb hb2
  rintro pre d post e δ M' ⟨⟨A,V,A2,t,wf⟩,y5,y6,y7,y8,rfl⟩ nx2 Wy
  have hx:L[pre.length]?=some d:=by rw[<-e];simp
  have pl5:pre.length<63:=dH (cV.mp hx).1 hL;obtain⟨c0,rfl⟩:=hLi d (qp hx);rw[cX,dQ]at Wy;generalize pre.length=m at t pl5 Wy;dsimp only[ud,zR,Fs];have eb:=t.x.b;subst eb;refine⟨A,V,l,_,ro,rn,l.pn,l.nm,rfl,t.x.rd (by omega) wf,wf,λk hk=>(t.x.sz.cs k hk).2.1,t.x.s0.lst lo,t.x.s0.lst ln,λz=>by rw[z]at pl;simp only[dI]at pl;omega,λz=>by rw[z]at nl;simp only[dI]at nl;omega,by omega,by omega,λM2 e s f=>?_⟩;have t:=t.sub s;refine⟨N,A.b,A,V,l,_,_,e,rfl,t.x,by omega,by omega,wf,f,λhr M3 A3 r c3 W0 XZ=>?_,λw0 _=>?_⟩
  rotate_left
  .exact i' rfl ⟨λC z=>(by cases z),i' G.cz (Wy _ _ ⟨⟨A,V,A2,t.mono (by omega) (by omega) (by omega) (by omega),wf⟩,_,_,_,_,rfl⟩)⟩
  have ok:=t.x.ok;have ok3:=Mw p2 A3.foot _ V (QK ok wf (λk hk=>(t.x.sz.cs k hk).2.2) f hr);have Y3:=S' ok wf f hr;have t3:=t.one W0 c3 (MV _ _);have nr:=t3.y.bd.nj XZ;have Wr:(sr l V e).length<=3+2200*m+40+33*(1+m):=by have:=c3.sz.lo;rw[DC,cX]at this;omega
  have eVr:∀F,qz (V.at_ p2 F) (sr l V e)=(qz V (sr l V e)).at_ p2 F:=λF=>IM p2 F _ V;have eV2:sr l ((V.at_ p2 A.foot).at_ p2 A3.foot) e=sr l ((V.at_ p2 A.foot).at_ p2 A3.foot) e:=rfl;have t4:=t3.sub (.new (c:=.lst ((sr l V e).map Ev.d)) XZ);have lr:=@o9 M3 r ((sr l V e).map Ev.d);clear t3 c3 W0 t s XZ;generalize oZ M3 r (.lst ((sr l V e).map Ev.d))=M4 at t4 lr ⊢;refine i' (Se lr) ⟨λC z=>(by cases z),i' G.cA (GN ?_)⟩;dsimp only[Uy];refine SU (t:=NX _ _ _) (λδ M5=>qh M4 M5/\δ=[some (.rl (ns.map D.int)),some (.ref A.b),some (.ref b2),some (.ref ro),some (.ref rn),some (.int c0),some e.d,some (.ref r),y8]) (λnx h=>?_) ?_
  .have wf2:WF l (V.at_ p2 A3.foot):=Qd wf;have Yf:=t4.y.b;have XI:=t4.y.rd (by omega) wf2;have lr':∀M5 q,qh M4 M5->oy M5 q=some ((sr l V e).map Ev.d)->yI M5 9 (.ref r) (.ref q)=some true:=λM5 q s5 lq=>Jd (s5.lst lr) lq λd hd=>by obtain⟨v,_,rfl⟩:=dz.mp hd;exact GB 7 _ (HG 6 _ (Ox v))
   clear t4 lr ok3 Y3 Wr eVr;cases e with
   | call y z=>exact i' rfl (h _ _ ⟨.refl,rfl⟩)
   | turn=>exact i' rfl (i' rfl (h _ _ ⟨.refl,rfl⟩))
   | sw b0 i=>
    cases b0 with
    | true=>exact i' rfl (i' rfl ⟨A2,_,l,.sw true i,by rw[Yf],XI,wf2,f,hr,.inl ⟨_,_,rfl⟩,λq M5 s5 lq=>i' (lr' M5 q s5 lq) (GN (h _ _ ⟨s5,rfl⟩))⟩)
    | false=>exact i' rfl (i' rfl ⟨A2,_,l,.sw false i,by rw[Yf],XI,wf2,f,hr,.inl ⟨_,_,rfl⟩,λq M5 s5 lq=>i' (lr' M5 q s5 lq) (GN (h _ _ ⟨s5,rfl⟩))⟩)
   | num wd x ms=>
    have f':=f;have en:sr l (V.at_ p2 A3.foot) (.num wd x ms)=sr l V (.num wd x ms):=by
     match ms with
     | []=>rfl
     | [_]=>rfl
     | [_,_]=>rfl
     | _::_::_::_=>rfl
    rcases f' with⟨rfl|rfl|rfl|rfl,_⟩|⟨rfl|rfl,_⟩<;>exact i' (wO _ _) (i' (wO _ _) ⟨A2,V.at_ p2 A3.foot,l,.num _ x ms,by rw[Yf],XI,wf2,f,hr,.inr ⟨_,_,_,rfl⟩,λq M5 s5 lq=>i' (lr' M5 q s5 (en ▸ lq)) (GN (h _ _ ⟨s5,rfl⟩))⟩)
  rintro δ M5 ⟨s5,rfl⟩
  have t:=t4.sub s5;have lr:=s5.lst lr;clear t4;generalize hes:sr l V e=es at lr ok3 Y3 Wr t eVr;generalize hV3:qz V es=V3 at t Y3 eVr;refine i' lr (wm (es.map Ev.d) (λpre δ M'=>(∃V1 A2,Tw a N M' A.b A3 V1 l (1+m+1) (3+2200*m+40+33*(1+m)) b2 A2 (qz (V.at_ p2 A3.foot) (es.take pre.length)) l (1+m+pre.length) (3+2200*m+pre.length)/\V1=V3.at_ V3.p V1.fo/\Fg (qz (V.at_ p2 A3.foot) (es.take pre.length)) (es.drop pre.length)/\oy M' r=some (es.map Ev.d)/\r∉A2.foot)/\∃y8,δ=[some (.rl (ns.map D.int)),some (.ref A.b),some (.ref b2),some (.ref ro),some (.ref rn),some (.int c0),some e.d,some (.ref r),y8]) (λpre δ M' j=>by obtain⟨⟨V1,A2,_,_,_,lr,_⟩,_⟩:=j;exact lr) _ [] _ _ rfl ⟨⟨V3,A2,t,rfl,ok3,lr,nr⟩,y8,rfl⟩ ?_ ?_)
  .clear t lr nr ok3
   rintro pre d post e0 δ M' ⟨⟨V1,A2,t,eV,o1,lr,nr⟩,y,rfl⟩ Uy ZA
   obtain⟨ev,e1,rfl,e2,e3⟩:=Km e0;have hp:pre.length<es.length:=(cV.mp e1).1;rw[e3]at o1;rw[cX,dQ,e2,sf]at ZA;generalize qz (V.at_ p2 A3.foot) (es.take pre.length)=V2 at t o1 ZA;refine oR t.y.at_ ⟨rfl,_,⟨rfl,rfl⟩,b2,A2,V2,ev,rfl,t.y.b,t.y.bd,t.y.lim (by omega) (by omega),o1.1,λM2 A4 Yf WC XB=>ZA _ _ ⟨⟨_,A4,(t.swap.one WC ((t.y.after o1.1 Yf WC XB).mono (c':=1+m+(pre.length+1)) (Nat.add_le_add_left (T4 ev) _) (by omega)) (HS _ _)).swap,?_,o1.2,rk (WC.1 r _ nr (pJ lr)),JI WC nr (pJ lr)⟩,_,rfl⟩⟩;rw[eV];rfl
  .rintro δ M' ⟨⟨V1,A4,t,eV,_,_,_⟩,y,rfl⟩
   rw[cT,fN]at t;refine Wy _ _ ⟨⟨A3,V1,A4,?_,by rw[eV];exact Qd Y3⟩,_,_,_,_,rfl⟩;have e4:qz (V.at_ p2 A3.foot) es=V1.at_ p2 A3.foot:=by rw[eVr,eV];rfl
   rw[e4]at t;have tx:=t.x.mono (c':=1+(m+1)) (n':=3+2200*(m+1)) (by omega) (by omega);exact⟨tx,t.y.szs tx.sz rfl,t.f,t.g,t.ne⟩
 .rintro δ M' ⟨⟨A,V,A2,t,wf⟩,y5,y6,y7,y8,rfl⟩
  exact⟨M,sN.trans t.x.s0,q⟩
end Z
structure PySem.W.Fast:Prop where(tw9382672277522768356 tw834767640511729222 tw6920430450030963558 tw5763629925534881255 tw5381613040108344722 tw5079088392456340104 tw4987413053125071016 tw3963053971831174982 tw3223275902194849661 tw2528153855801408807 tw2518346473056764048 tw2423119927020679341 tw2043005475045229106 tw1893550978601987191 tw17722670653861736514 tw17221785170806578139 tw15918909018444218089 tw14598489311498778133 tw14245345889153884100 tw14000554835292158851 tw1359188115081050565 tw13229453586369646893 tw1320542186860316178 tw12779983835327296465 tw11883092840246640339 tw11033992488155635080 tw10744533261189885731 tw10695109114031472686 tw10465491510990078357 tw12000903927060262904 tw8174892301307886184 tw17627475435070186776 tw17402367254064895403 tw742951305442435648 tw8310763933659354621 tw3070705009832398686 tw9174818593828497299 tw12227735909900588063 tw3008104101114724187 tw14956653657325683828 tw16677096644361755181 tw6450177075524236300 tw14810328738158848386 tw13004952461842605324 tw3591137915464108429 tw3760121311807571667 tw4344348386643008161 tw4361913095785022223 tw9501226453573960524 tw2581900533733217064 tw8671680473352725960 tw18269166269841116238 tw8691333071591838368 tw12703751533238880035 tw3524397484839176194 tw8125415883996031363 tw667009717776208968 tw2670701359561685004 tw18402364806492091483 tw1488988981888259691 tw2011640604026672658 tw84293799314380763 tw16039028006022731531 tw6817269102739354828 tw16185185293361803228 tw6603402292488949554 tw8296916512363530119 tw1389438243543703509 tw12222531526080901151 tw2266163072104081006 tw13825585541073651310 tw11804078754090805384 tw7251398708432682880 tw17838058690179285118 tw17337755747573592893 tw13159814193679372191 tw3013316649803168834 tw7381759149698772758 tw15898312851174517829 tw15184089924808622615 tw13134321038162539274 tw5401224567528874565 tw12556448741702894341 tw6438194666202144077 tw12399799796014524708 tw14705039726571061481 tw11565347448301388910 tw8418172705049079664 tw992701546081330755 tw3116350033415662952 tw13352976789113473139 tw10613372386499320668 tw1814915767220999378 tw3222637638721946319 tw10440252996410254308 tw2237176018001514229 tw11681428984914188620 tw12954848769365424190 tw14355579772175564650 tw606268115198215779 tw10521036922916094301 tw7710918216526145791 tw14531318797817107648 tw17004492830057322454 tw15704606075802893006 tw5389322061134048610 tw12038717469471976657 tw11641274176951200688 tw12238948183485997902 tw11676809252959112908 tw9825549427574195879 tw10497626668435941735 tw9568880126814360675 tw7412314728245560791 tw15306848411305282703 tw11582109516143228266 tw3313324587711572036 tw12262588984622468692 tw10829690600912044095 tw4620717537397341475 tw5350949071587724005 tw4426669044096240515 tw13635267239603289260 tw15512008244833081995 tw11807299524652192315 tw12003894989059497224 tw12759814902176352473 tw10704433318320274470 tw3574197687575623530 tw12373588033927153621 tw7537779553874413764 tw17938897735680419054 tw13142828433291808480 tw5074240114168257123 tw18286022923873657393 tw16294738184940275023 tw11457981750193037406 tw11119416882390052152 tw8719282151860001118 tw18315168151788501008 tw7371401776544516817 tw6791977131953218168 tw1999644241695648328 tw16021569527966458307 tw17511751974590953181 tw12566952123206305352 tw6535531697879240733 tw10787685679963131255 tw14839291322725990618 tw7889347700101741948 tw9206867441402741835 tw6742273421497993491 tw11133804388932331494 tw14180645384561652927 tw10666404035057687267 tw12747079430523933808 tw13905886324157970930 tw2160526409879729243 tw1122576911738355136 tw5856786103398737829 tw8848097538159336323 tw9853678934565798799 tw3094062683910635880 tw2495792886437864528 tw7995942153879033954 tw13466242053123015057 tw17308568047288099322 tw12318742543382245774 tw3023546706443412248 tw438876233599056222 tw3177691943651528840 tw11604600643616284282 tw5187270191459260963 tw15055963000884359094 tw13099147454380609358 tw774920604254248158 tw4747679071638856117 tw15321685720167448299 tw7509612306828816814 tw17311322315597938850 tw2611811855043416040 tw11334617101580323505 tw3573145194863822403 tw5492265846795178491 tw17494906337438949563 tw12549664719744582047 tw6019932314367286887 tw4439712092021431715 tw12307107588353235359 tw13207387168979201098 tw10501351872537446869 tw13643651187784092553 tw12188658693618332440 tw4723777624905625069 tw9142286005868351013 tw7951736205463440105 tw4254530790623310349 tw17464379819206174869 tw11139547343540301999 tw3585627584819352842 tw8928766974355126337 tw9503152961847765836 tw12355206901993015781 tw1964170959194490751 tw4157981389806107830 tw13003062869112086852 tw12998896243696331211 tw4960244141374047850 tw1731222447845562062 tw13888216356398069712 tw9676704697529111293 tw15463193012271830959 tw2370598796549261158 tw16722534934006765562 tw13870982494148436917 tw15966787209446154665 tw3883711041502139319 tw11915899805137334543 tw9624374299477205305 tw6106020378982271124 tw8855444837575085533 tw13080884731532626892 tw8554402303364990454 tw8584851832832923769 tw6500826386986554129 tw2378698239963458080 tw4698636272261141314 tw16009337788428043551 tw5975209789953256585 tw18249023484075860469 tw6294354670555931205 tw16162282650215263161 tw13446440146620169806 tw15013323907813421864 tw4086994485109180200 tw8759614412219492247 tw2985567824964761976 tw6276975797884026506 tw1481591828171082240 tw7440057110153772221 tw10362435278868454567 tw11088905010094755665 tw7233279711527989911 tw928603743515905505 tw6205016197646122211 tw11077843746425951307 tw17251693522915568090 tw4677130643928320661 tw13746572768599747495 tw3749502029674248573 tw12257542600048958323 tw12302106517993578256 tw1505680878202265610 tw9311692815991270815 tw18159276267535314521 tw6639902767065407222 tw14539607438334320761 tw2112077974415075096 tw3914774557472713333 tw1401247374520591514 tw5667906209860744742 tw10283406119766640402 tw12617801246284934898 tw355007825296181692 tw10829699938615310874 tw14183910708450313174 tw4441314693293554696 tw3787647932499138099 tw12959912337515733459 tw13524893126217430914 tw11707904851916844985 tw9238016153041114988 tw5088936961886289692 tw13150231453575420562 tw2673030592315791219 tw9290179474050765718 tw13476660331857708300 tw13867675149797503328 tw2476509981617810199 tw13666127010841234958 tw15564294268063105049 tw239204861798004060 tw7945443189059805612 tw9639430097922874580 tw15090710673858374220 tw7828134506246217923 tw13389820282504702242 tw1257329406524479432 tw1335963793481576733 tw13620945429187068582 tw2592092503213231869 tw16741697320173534167 tw13356908120055977405 tw13254217320675776669 tw7264550827371152507 tw16091525292844698509 tw12591467474355439644 tw12063007013220393683 tw17432189728646728239 tw10427950219566898840 tw16313305502923786378 tw14612705118162637059 tw20596990471515822 tw13900293577840750732 tw16751878667263561405 tw16443020233505809576 tw14417279383384810642 tw15151588312507720943 tw6209671017413689642 tw18205151777638576315 tw1195744974287967688 tw1981693194848082740 tw721305171249364235 tw14089704851195909595 tw9145654356778251962 tw3540540285473640640 tw8335508954499908849 tw3586114817201256690 tw977640341408654066 tw1906245298384817173 tw6671190983870043802 tw14838136550054113694 tw1226891745217955254 tw9501974248921576424 tw7566864096526717414 tw1027658097330761304 tw6156459422561587285 tw8844441087063733055 tw15952801093240652935 tw4419500535816440115 tw13238335443609773180 tw8076388479310783924 tw1040884883468057785 tw10166778752722082385 tw2075784059723163173 tw6485472980030979439 tw1669297304956636430 tw17684010117958695765 tw10073403843402512060 tw2888777655445759937 tw3265094155302087927 tw1308769866869233798 tw11506557604526952099 tw11467382370572552292 tw3225240167867222851 tw852604380625429323 tw8009165404551837887 tw4756800242220713876 tw13954924554056523996 tw11695506713523016057 tw11087095748168467341 tw5298333142388443777 tw12293291724990756065 tw18010585002502760924 tw7912629719512531963 tw5792204042524534305 tw4159087030730026338 tw492618383886223716 tw18143742821045387728 tw693845702369266267 tw11818866019062384766 tw1135215009784363356 tw181151543374748814 tw9497916793115736266 tw9448946235190637955 tw1513038559532106509 tw3780925596622422400 tw1559291298068727143 tw10401041297286842769 tw7362547478400346476 tw3804500656770806806 tw10968935929919097646 tw10564085402508585681 tw84590231481396586 tw16619920817054389051 tw15081742764981675037 tw10125727185505212764 tw1762659952173113621 tw5816510600176449199 tw8519306424647917698 tw4143495507337144009 tw17540623558616867787 tw8125700622173127373 tw12477700583017159036 tw10895994489696032406 tw12597520574242845516 tw10904012757397270113 tw6713182194212889870 tw4002737669357786914 tw3822618583547309709 tw3381557477712594618 tw14491722309846020413 tw13311183179896046053 tw3463391574669039978 tw16789039880569877892 tw1203719820649202860 tw1168745681119641204 tw18380771369713138087 tw16499105530126230212 tw16351988125898136394 tw15584875753824121710 tw10022388704300812528 tw9505239905561731584 tw1662379704895515561 tw7342783714894409749 tw7303422733124279190 tw4581446648641501949 tw2391389300953895368 tw16197865731683963451 tw13154494192443971932 tw11047564866909698495 tw6077340574467725526 tw1893140309472216374 tw12447914469783904369 tw8862700262637521594 tw4039391614033547680 tw10999417308924032327 tw10687607311200133477 tw1046212501689874481 tw10308944292684911011 tw5912068140035043445 tw17863895883506301273 tw10905260692051214213 tw18135865648625852963 tw13190977806305497429 tw11655272772234725460 tw6911432957685000056 tw17663343105692962159 tw15331329154252058378 tw17605032990583778550 tw6224134705663111023 tw15337818038000730809 tw2924545019101493457 tw13611686225688436162 tw5584658612299847901 tw4193573630120251035 tw7727846745778726351 tw5367334062395656338 tw1422982442473513267 tw1215307975835084316 tw6260887751765064939 tw7742559102127732382 tw503549520026012038 tw12205134307166835832 tw3960327992115285890 tw16328455344827277884 tw15870302042439035552 tw517488845300346266 tw9007537531297876046 tw633297618881317289 tw18281316742908811852 tw11435267142660265730 tw10601255269244105083 tw14659531823941496156 tw1302772605530351713 tw11884060458548912514 tw17162716678221145359 tw3939260447155482317 tw2677559504122134830 tw17340500795708985329 tw458066680744428115 tw1456503817404358445 tw12645987880877870287 tw1156887846802207996 tw10941761322000212478 tw8452898611584716879 tw8090586935720716311 tw15238121319778011924 tw15765730704033171070 tw18061769332128320561 tw7174421660207735244 tw15410357770443475933 tw10203178659733899805 tw7376184063576275793 tw13106684577793537735 tw9346463618316262470 tw6816527394515252831 tw13804809007985738378 tw5647453311189532065 tw5113136080910834072 tw8917582391979692434 tw17700634531541918498 tw6387004869418139727 tw4825132049238409464 tw164292322899821077 tw17161115566269219389 tw7434327242822841588 tw6723430541704007792 tw6237353282630201726 tw3134541011647804905 tw2338965342868322328 tw2142874585138061266 tw18277630848522673141 tw12795335794175105378 tw11403580023729498213 tw17096309978546387002 tw12902858182079456379 tw1290497004308021994 tw103218353074823206 tw8826243871635931643 tw10978391429227421479 tw13680044672939774231 tw7972276495171558898 tw17913459529687394126 tw1740392175907611539 tw13372417227773010778 tw18387729739349069338 tw8675403074969693547 tw1944302037148000341 tw9733208560321735471 tw8429949237128568536 tw14599160618376565878 tw12388251838368241738 tw5644246181418867779 tw1984558360127723311 tw10213530384540591788 tw682140152795244902 tw1916233402046827269 tw14947056484607617763 tw11757943591210732752 tw8685417269950713241 tw9708761852177628166 tw8863302863547975967 tw7364532054162877381 tw7047612349844558668 tw11793755130219882863 tw8542260139727065808 tw12063892153950067719 tw6971359859490844014 tw11940826925270157075 tw4918222145727801668 tw18218438607530977762 tw4692541110242264941 tw16204943113842345747 tw8251800886105962361 tw776155410298161679 tw6449611402565429434 tw3066926970444018969 tw3299490839642295942 tw16847479356981255621 tw12004301334082048135 tw1017212082671138795 tw16151581988051246304 tw3801571907105906614 tw13023136776664511816 tw3848138102471120459 tw3541316085318779740 tw17371028076845369867 tw5981403513932544029 tw4949054081800670747 tw8281354465921233275 tw4420940016454575150 tw5910203680770668891 tw11999927878934569273 tw743762874932551654 tw10897807898781899407 tw417890198035354968 tw6707732741373988914 tw917860210404782218 tw5116571970585716594 tw3005524399840282964 tw15927050616448177747 tw14903720908088381849 tw8491369894888087955 tw6862488694353965645 tw6188529805331379815 tw5065873744700381445 tw444071668076996310 tw2554291175642347672 tw192924103938279805 tw17582820383409057742 tw13227096555180194576 tw1209299344413900790 tw11683710009867791415 tw10915504148660715552 tw2183021323766184991 tw14252031547437393428 tw10074789238117050653 tw12205394552106266375 tw2909712425986189167 tw1926761297864167077 tw17637983061287145085 tw15766364717389403642 tw13262416024845113706 tw9571345248896155071 tw954969014976884382 tw7920369904416519419 tw6949999667944308103 tw374423524190162536 tw367296124532118422 tw2239302193993217904 tw2071234244879289286 tw17750226899360157431 tw17409224422261949658 tw6458762879283719188 tw2979318437311886855 tw16393911995507874827 tw15072011808375614846 tw6411912635107060108 tw5318852483097985101 tw12510701702968802395 tw12371213846001971560 tw1152689231150850363 tw8029118819921905642 tw8019421700233721321 tw6797519878471594390 tw6745270719353551401 tw4769071036646576747 tw282048880158376632 tw17950841162450199303 tw16821793210757139127 tw16736056697802449668 tw16190918191087922135 tw15126587600020412141 tw13633552558193492573 tw1205715601329731357 tw5969791524120311106 tw13184395564771775337 tw13017257403850006484 tw9723101960355359272 tw9482976595807433314 tw17183813211489624421 tw7661198444297008343 tw2628949028093061601 tw13787468608422211240 tw9005675903019635183 tw3200843135390804674 tw3205430714225348857:True)
open PySem PySem.W PyProof.Rows L2 L3
def xZqN:Option Obj->Option Obj
|some ⟨_,_,.freed,_⟩=>none
|o=>o
def xZqP (h:Heap):List Nat->Nat->List Obj->List (Option Obj)
|[],_,_=>[]
|a::l,i,r=>bif i.ble a then xZqN (r.drop (a-i)).head?::xZqP h l a (r.drop (a-i)) else h.get? a::xZqP h l i r
theorem xZqQ (h:Heap):∀l i r,r=h.objs.toList.drop i->xZqP h l i r=l.map h.get?
|[],_,_,_=>rfl
|a::l,i,r,e=>by
 unfold xZqP;cases z:i.ble a with
 |false=>exact congrArg (h.get? a::·) (xZqQ h l i r e)
 |true=>
  have d:r.drop (a-i)=h.objs.toList.drop a:=by have:=Nat.le_of_ble_eq_true z;rw [e,List.drop_drop];congr 1;omega
  show xZqN (r.drop (a-i)).head?::xZqP h l a (r.drop (a-i))=_;rw [xZqQ h l a _ d,d,List.head?_drop,Array.getElem?_toList];rfl
def xZqH (K:Params->Frag) (as:List Addr) (e:∀P,as=(K P).map (·.1)) (_:Unit):Hook:=⟨_,λs=>xZqP s.heap as 0 s.heap.objs.toList,λw=>(K w.params).map λp=>some p.2,InK K,λw s x=>InK.of e w s ((xZqQ s.heap as 0 s.heap.objs.toList rfl).symm.trans x),InK.keeps⟩
local macro_rules|`(tactic|o_head ($f $k $a $e))=>`(tactic|o_head (xZqH $k $a $e ()))
set_option maxRecDepth 100000 in
set_option maxHeartbeats 0 in
theorem PySem.Challenge.cw_callboard_k42_deeds_at_calls_holds : PySem.Challenge.rw_callboard_k42_deeds_at_calls.Holds := by
 w_on;o_law;k_head;(case hw=>w_witness2)
 k_fill
 refine L3.Nb (l:=PySem.Challenge.rw_callboard_k42_deeds_at_calls) (sp:=Z.LC) (k:=17) (x:="_law_script") rfl rfl ⟨rfl,by decide,by decide⟩ (λ_ _ Y=>Y) (λns hl=>⟨ns,rfl,hl,rfl⟩) ?F;case F=>
  intro w mg fa h KX G hmg;suffices h:∃a:Z.Ad,Z.Gl _ mg a/\∀(s:Shared) (u:Value),BindsTo s a.ah.d ⟨[u],[]⟩ [("_law_script",u)]by obtain⟨a,g,hb⟩:=h;have e:=hmg.symm.trans g.ah.mg;cases e;exact⟨a.ah.d,hb,λbase _ _=>g.ah.pe ▸ Z.R1 g⟩
  refine'⟨⟨_,_,_,_,_,_,_,_,_,_,_,_,_,_,_,_,_,_,_,_,_,_,_,_,_,_,_,_,_,_,_,_,_,_,_,_,_,_,_,_,_,_,_,_,_,_,_,_,_,_,_,_,_,_,_,_,_,_,_,_,_,_,_,_,_,_,_,_,_,_,_,_,_,_,_,_,_,_,_,_,_,_,_,_,_,_,_,_,_,_,_,_,_,_,_,_,_,_,_,_,_,_,_,_,_,_,_,_,_,_,_,_,_,_,_,_,_,_,_,_,_,_,_,_,_,_,_,_,_,_,_⟩,⟨vL KX G ..,vL KX G ..,vL KX G ..,vL KX G ..,vL KX G ..,vL KX G ..,vL KX G ..,vL KX G ..,vL KX G ..,vL KX G ..,vL KX G ..,vL KX G ..,vL KX G ..,PySem.W.mg_of KX G ?_,PySem.W.mg_of KX G ?_,pZ KX G ..,pZ KX G ..,pZ KX G ..,pZ KX G ..,pZ KX G ..,pZ KX G ..,pZ KX G ..,pZ KX G ..,pZ KX G ..,pZ KX G ..,pZ KX G ..,pZ KX G ..,pZ KX G ..,pZ KX G ..,pZ KX G ..,pZ KX G ..,pZ KX G ..,pZ KX G ..,pZ KX G ..,pZ KX G ..,pZ KX G ..,pZ KX G ..,pZ KX G ..,pZ KX G ..,pZ KX G ..,pZ KX G ..,pZ KX G ..,pZ KX G ..,pZ KX G ..,pZ KX G ..,pZ KX G ..,pZ KX G ..,pZ KX G ..,pZ KX G ..,pZ KX G ..,pZ KX G ..,pZ KX G ..,pZ KX G ..,pZ KX G ..,pZ KX G ..,pZ KX G ..,pZ KX G ..,pZ KX G ..,pZ KX G ..,pZ KX G ..,pZ KX G ..,pZ KX G ..,pZ KX G ..,pZ KX G ..,pZ KX G ..,pZ KX G ..,pZ KX G ..,pZ KX G ..,pZ KX G ..,pZ KX G ..,pZ KX G ..,pZ KX G ..,pZ KX G ..,pZ KX G ..,pZ KX G ..,pP ..,pP ..,pP ..,pP ..,pP ..,pP ..,pP ..,pP ..,pP ..,pP ..,pP ..,pP ..,pP ..,pP ..,pP ..,pP ..,pP ..,pP ..,pP ..,pP ..,pP ..,pP ..,pP ..,pP ..,pP ..,pP ..,pP ..,pP ..,pP ..,pP ..,pP ..,pP ..,pP ..,pP ..,pP ..,pP ..,pP ..,pP ..,pP ..,pP ..,pP ..,pP ..,pP ..,pP ..,pP ..,pP ..,pP ..,pP ..,pP ..,pP ..,pP ..,pP ..,pP ..,pP ..,pP ..,pP ..,Nf ?_ ?_ ?_ ?_ ?_ ?_ ?_ ?_ ?_ ?_,JR ?_ ?_ ?_,⟨Tb ?_ ?_ ?_ ?_ ?_ ?_ ?_ ?_,?_,?_⟩,Pc ?_ ?_ ?_ ?_,⟨?_,?_,?_,?_⟩,⟨?_,?_,?_,?_⟩,⟨?_,?_,?_,?_⟩,⟨?_,?_,?_,?_⟩,⟨?_,?_,?_,?_⟩,⟨?_,?_,?_,?_⟩,⟨?_,?_,?_,?_⟩,⟨?_,?_,?_,?_⟩,⟨?_,?_,?_,?_⟩,⟨?_,?_,?_,?_⟩,⟨?_,?_,?_,?_⟩,⟨?_,?_,?_⟩,⟨?_,?_,?_⟩,⟨?_,?_,?_⟩,⟨?_,?_,?_⟩,⟨?_,?_,?_⟩,⟨?_,?_,?_⟩,⟨?_,?_,?_⟩,⟨?_,?_,?_⟩,⟨?_,?_,?_⟩,⟨?_,?_,?_⟩,⟨?_,?_,?_⟩,⟨?_,?_,?_⟩,⟨?_,?_,?_⟩,⟨?_,?_,?_⟩,⟨?_,?_,?_⟩,⟨?_,?_,?_⟩,⟨?_,?_,?_⟩,⟨?_,?_,?_⟩,⟨?_,?_,?_⟩,⟨?_,?_,?_⟩,⟨?_,?_,?_⟩,(pF ?_ (pF ?_ (pF ?_ (pF ?_ (pF ?_ (pF ?_ (pF ?_ (pF ?_ sH)))))))),(pF ?_ (pF ?_ (pF ?_ (pF ?_ (pF ?_ (pF ?_ sH)))))),(pF ?_ (pF ?_ (pF ?_ (pF ?_ (pF ?_ (pF ?_ (pF ?_ (pF ?_ sH)))))))),(pF ?_ (pF ?_ (pF ?_ sH))),(pF ?_ (pF ?_ (pF ?_ sH))),(pF ?_ (pF ?_ (pF ?_ sH))),(pF ?_ (pF ?_ (pF ?_ (pF ?_ (pF ?_ sH))))),(pF ?_ (pF ?_ (pF ?_ sH))),(pF ?_ (pF ?_ (pF ?_ (pF ?_ sH)))),(pF ?_ (pF ?_ sH)),(pF ?_ (pF ?_ sH)),M9,Qs QJ ?_ (λ_=>rfl),PySem.W.mg_none_of KX G ?_,PySem.W.mg_none_of KX G ?_,PySem.W.mg_none_of KX G ?_,PySem.W.mg_none_of KX G ?_,PySem.W.mg_none_of KX G ?_,PySem.W.mg_none_of KX G ?_,PySem.W.mg_none_of KX G ?_,PySem.W.mg_none_of KX G ?_,PySem.W.mg_none_of KX G ?_,PySem.W.mg_none_of KX G ?_,PySem.W.mg_none_of KX G ?_,PySem.W.mg_none_of KX G ?_,PySem.W.mg_none_of KX G ?_,vG (PySem.W.mg_of KX G ?_),vG (PySem.W.mg_of KX G ?_),vG (PySem.W.mg_of KX G ?_),vG (PySem.W.mg_of KX G ?_),Pf (PySem.W.mg_of KX G ?_) (tU (ss:=["all","turns"]) ?_ (.cons ⟨_,rfl⟩ (.cons ⟨_,rfl⟩ .nil)) (Nat.le_of_ble_eq_true rfl)),vG (PySem.W.mg_of KX G ?_),vG (PySem.W.mg_of KX G ?_),vG (PySem.W.mg_of KX G ?_),R9 (PySem.W.mg_of KX G ?_),OZ (es:=[⟨_,.str "bar" _,.ref _⟩,⟨_,.str "shut" _,.ref _⟩,⟨_,.str "always" _,.ref _⟩,⟨_,.str "night" _,.ref _⟩,⟨_,.str "busy" _,.ref _⟩,⟨_,.str "silent" _,.ref _⟩,⟨_,.str "wait" _,.ref _⟩,⟨_,.str "breaks" _,.ref _⟩]) (PySem.W.mg_of KX G ?_) ?_ ?_ (.cons rfl ⟨_,rfl,(tU (ss:=["phone","names"]) ?_ (.cons ⟨_,rfl⟩ (.cons ⟨_,rfl⟩ .nil)) (Nat.le_of_ble_eq_true rfl))⟩ (.cons rfl ⟨_,rfl,(tU (ss:=["name","phones"]) ?_ (.cons ⟨_,rfl⟩ (.cons ⟨_,rfl⟩ .nil)) (Nat.le_of_ble_eq_true rfl))⟩ (.cons rfl ⟨_,rfl,(tU (ss:=["name","name"]) ?_ (.cons ⟨_,rfl⟩ (.cons ⟨_,rfl⟩ .nil)) (Nat.le_of_ble_eq_true rfl))⟩ (.cons rfl ⟨_,rfl,(tU (ss:=["name","name","hour","hour"]) ?_ (.cons ⟨_,rfl⟩ (.cons ⟨_,rfl⟩ (.cons ⟨_,rfl⟩ (.cons ⟨_,rfl⟩ .nil)))) (Nat.le_of_ble_eq_true rfl))⟩ (.cons rfl ⟨_,rfl,(tU (ss:=["name","name"]) ?_ (.cons ⟨_,rfl⟩ (.cons ⟨_,rfl⟩ .nil)) (Nat.le_of_ble_eq_true rfl))⟩ (.cons rfl ⟨_,rfl,(tU (ss:=["name","name","turns"]) ?_ (.cons ⟨_,rfl⟩ (.cons ⟨_,rfl⟩ (.cons ⟨_,rfl⟩ .nil))) (Nat.le_of_ble_eq_true rfl))⟩ (.cons rfl ⟨_,rfl,(tU (ss:=["phone"]) ?_ (.cons ⟨_,rfl⟩ .nil) (Nat.le_of_ble_eq_true rfl))⟩ (.cons rfl ⟨_,rfl,(tU (ss:=["phone"]) ?_ (.cons ⟨_,rfl⟩ .nil) (Nat.le_of_ble_eq_true rfl))⟩ .nil)))))))),vG (PySem.W.mg_of KX G ?_),vG (PySem.W.mg_of KX G ?_),vG (PySem.W.mg_of KX G ?_)⟩,λs u=>.of_eq rfl⟩
  all_goals try first|k_is|(intro _ _ _ _ _ _ us hl;rcases us with _|⟨_,_|⟨_,_|⟨_,_|⟨_,_|⟨_,_|⟨_,us⟩⟩⟩⟩⟩⟩<;>first|rfl|(exfalso;revert hl;simp;done))|rfl
