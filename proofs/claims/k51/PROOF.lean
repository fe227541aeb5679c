import PyProof.Rows.All
import Wide.All
import OpenK.AllK
import Wide.FinOn
import PyProof.EqAt
import PyProof.EqKinds
import PyProof.TupleCall
import PyProof.AttrMiss
import PyProof.IsiH_list
import PyProof.Rows.SetFrom
import KE.KDictOf
import KE.KTab
import PyProof.AutoListH
import KE.KSortTup
import KE.KItemsList
import KE.KEqDict
import KE.KIntText
import Lean
import PyProof.RulesRaise
import PyProof.RulesTry
import KE.KTryDeep
import KE.KTryMore
import KE.KTryOn
import KE.TryInHelper
import KE.TryLedger
import PyProof.ExcArgsOwn
import PyProof.ExcAttrAll.ValueError
import KE.KIsAll
import PyProof.ExcBaseAll.ValueError
import PyProof.InstStoreFacts
import PyProof.ExcInit
import PyProof.SeqI3
import PyProof.ConsumeWalk
import PySem.Challenge.RW_callboard_k51_made_again
set_option Elab.async false
set_option linter.all false
set_option maxRecDepth 100000
set_option maxHeartbeats 4000000
open List renaming length_map->cV,getElem?_eq_some_iff->cX,getElem?_eq_getElem->cY,length_append->cZ,mem_cons->dh,mem_singleton->dv,size_toArray->dz,mem_cons_of_mem->dC,getElem?_map->dD,not_mem_nil->dE,mem_map->dF,mem_cons_self->dJ,length_nil->dN,length_singleton->dP,map_append->dQ,nodup_cons->dS,mem_append->dU,map_cons->dY,map_map->d6,nil_append->d9,length_cons->eB,mem_append_right->eD,length_range->eE,all_eq_true->eF,lookup_cons->eI,replicate_succ->eJ,nodup_nil->eK,append_nil->eO,getElem?_append_right->eV,all_cons->eW,length_modify->eX,getElem?_append_left->eZ,append_assoc->fj,mem_of_getElem?->fk,cons_ne_nil->fA,length_pos_iff->fB,mem_append_left->fD,getElem?_set_ne->fE,getElem?_set_self->fF,take_length->fG,mem_filter->fJ,find?_cons->fK,flatten_cons->fP,length_take->fS,foldl_cons->fW,filterMap_cons->fX,filter_sublist->fY,any_cons->gb,getD_eq_getElem?_getD->gc,exists_cons_of_ne_nil->gf,mem_range->gg,mem_of_find?_eq_some->gh,getLast?_eq_none_iff->gi,nodup_append->gm,length_eq_zero_iff->gu,map_congr_left->gw,length_drop->gx,any_eq_true->gz,length_filter_le->gD,drop_eq_getElem_cons->gH,getLastD_eq_getLast?->gI,filter_cons->gK,getElem_of_mem->gM,filter_map->gR,find?_eq_none->gS,take_add_one->gW,findIdx?_map->gY,getElem?_eq_none->g9,getElem_mem->h9,mem_of_getLast?->ib,dropLast_subset->ic,length_set->ij,getElem?_zip_eq_some->ik,contains_cons->iw,filter_cons_of_pos->iB,filter_cons_of_neg->iC,getElem?_cons_zero->iD,take_of_length_le->iG,findIdx?_eq_some_iff_getElem->iH,length_replicate->iK,getElem?_toArray->iL,map_nil->iO,range_succ->iS,filter_nil->iT,getElem?_modify->iU,getElem?_range->iW,map_id->jb,filter_append->jg,sublist_append_right->js,pairwise_iff_getElem->jt,getLast?_eq_getElem?->ju,findIdx?_eq_none_iff->jv,all_map->jD,drop_length->jE,set_set->jF,any_map->jJ,eq_of_mem_replicate->jK,getElem?_replicate->jL,of_mem_zip->jO,forIn_cons->jP,forIn_nil->jZ,drop_zero->j7,set_append_right->j9,mem_of_mem_take->ko,mem_of_mem_drop->kq,map_drop->kz,filter_eq_self->kD,modify_eq_self->kE,mem_filterMap->kH,getElem_range->kT,set_cons_succ->kU,any_eq_false->kY,foldl_append->lb,getElem_inj->lD,zipIdx_cons->lN,getElem_map->lR,zipIdx_nil->lW,any_append->lY,find?_some->l0,map_take->mf,map_set->mv
open PySem renaming wpAny_bind->cW,wpAny_pure->dq,sizeLine_eq->dM,wpAny_mono->eh,wpAny_holding->eU,wpAny_field->fh,wpAny_truthy_bool->fi,wpAny_callSpecial?_slot->fN,wpAny_Call_Name_kw->fR,wpAny_call_entry->fT,wpAny_newObj_type->fU,codeAny_mono->gj,wpAny_seqItems->gy,wpAny_setField_rec->gB,wpAny_passesOwn->gC,mem_of_lookup->gL,wpAny_execs_nil->gN,codeAny_builtin->gP,wpAny_pyIter_list->gU,wpAny_loadPart_at->gX,wpAny_setField->hJ,wpAny_standAt->ie,wpAny_pyIter_tuple->iu,wpAny_call->iA,plainObj_wpAny_Assign_Attribute->iM,codeAny_call_builtin->iP,wpAny_updateSeq_pair->iQ,isSubtype_type->i9,tupleKind_room_in1->jc,slot_dict_contains->je,wpAny_onRaise->jj,wpAny_sequenceKey->jl,call_meets->jq,wpAny_execs_cons->jx,wpAny_typeOf->jA,wpAny_comprehension_free->jC,codeAny_of_tree->jR,wpAny_specialOf->jS,builtinLookup_eq_fast->j3,weight_type_call_type->j4,getitemInPython_of_ne->j5,wpAny_rule->kg,wpAny_letTemporaryGo->kl,plainId_quiet->kx,wpAny_isSubtype_exc->kC,concat_meets->kI,seqIndex_neg->kM,wpAny_assign_Name->kW,wpAny_Assign_Name->kX,slot_list_getitem->k9,slot_dict_getitem->lj,wpAny_pyIter_enum->lq,seqIndex_of->ly,wpAny_letGo->lz,wpAny_pyHash_str->lB,wpAny_eqBool_int->lC,wpAny_lookBehind->lE,pastItsLine_dict->lF,noFill_tuple_add->lH,check_set_init_1->lM,wpAny_pyIter_zip->lP,wpAny_Name->lT,typeIs_int->lU
def de:=@if_neg
def dg:=@if_pos
def dZ:=@decide_eq_true
def eA:=@decide_eq_true_eq
def eN:=@decide_eq_false
def eP:=@or_false
def eY:=@congrArg
def fg:=@beq_iff_eq
def fz:=@beq_self_eq_true
def fM:=@not_or
def fQ:=@of_decide_eq_true
def gv:=@beq_eq_false_iff_ne
def iZ:=@if_true
def ke:=@if_false
def lu:=@bne_self_eq_false
open PySem.Heap renaming get?_push_of_some->df,lt_size->dA,get?_push_size->dG,size_push->fm,get?_update_self->fH,get?_update_other->fZ,get?_none_of_le->hW,get?_push_ne->iF,size_update->iJ,get?_update_ne->iX
open Option.some renaming inj->dn,injEq->jn
open Nat renaming le_refl->dw,ne_of_lt->dH,lt_of_lt_of_le->dR,le_trans->dX,zero_le->eG,lt_irrefl->e9,lt_succ_self->fu,lt_succ_of_lt->fV,ne_of_gt->gJ,le_succ->gT,sub_self->hU,succ_le_succ->ia,lt_trans->im,lt_of_le_of_lt->iz,le_add_right->iI,le_succ_of_le->jo,le_of_lt->jw,le_of_not_lt->jB,mul_le_mul->j6,sub_zero->kO,min_eq_left->lZ,le_of_eq->mi,succ_mul->mo,zero_add->mq,succ_pos->mw
open Bool renaming false_ne_true->dB,eq_false_iff->dI,and_eq_true->dW,true_and->eL,false_and->eR,false_or->fO,eq_iff_iff->gk,not_eq_true'->gG,or_eq_true->gQ,true_or->gZ,not_eq_false->jp,or_false->ku,false_eq_true->kQ,or_true->kS,beq_comm->me
open Ne renaming symm->dO
open Int renaming eq_ofNat_of_zero_le->eC,emod_lt_of_pos->eM,emod_nonneg->eQ,mul_le_mul_of_nonneg_left->iV,toNat_natCast->jk,emod_add_mul_ediv->j8,zero_add->mx
open PySem.PassesOwn renaming never->ft
open PySem.F renaming called_set->fv,slot_tuple_iterator_next->gF,slot_list_getattribute->io,slot_zip_next->iR,args_tuple_iterator_next_1->ja,entry_tuple_iterator_next->jf,slot_dict_getitem->jr,args_tuple_add_2->jz,store_ValueError->jI,entry_tuple_add->jM,slot_dict_items->jN,slot_tuple_add->jV,excBase_ValueError->km,entry_type_call->lh,args_zip_next_1->ls,typeCall_set_1->lK,entry_set_init->lL,entry_zip_next->lO,slot_int_rmul->lV
open PyProof.Rows renaming slot_tuple_getitem->fC,callWith_type1->fL,callWith_builtin1->gO,SetOf_congr->iq,setObjOf_fresh->jd,subscriptTail_builtinR->jW,listUpdate_at->ky,entry_tuple_getitem->kA,args_tuple_getitem->kK,seqEpoch_at->lA,size_push'->lX
open PySem.W renaming kia_one->gp,callWith_K->iN,methodCall_KW->jT,plainGet_of->kr,looks_clsIn->kt,kitx_list->lw,cellsFrom_some->lG,looks_findIn->l8
open List.cons renaming inj->gq
open PyProof.Rows.F renaming plain_set_update_loop->gA,entry_set_update_loop->ip
open PySem.Around renaming under_plainId->hZ,under_plain->kN
open Array renaming getElem?_setIfInBounds_self_of_lt->ig,length_toList->ii,toList_append->iY,size_setIfInBounds->jG,mem_toList_iff->kc
open PySem.Calls renaming spliced_cons->il,spliced_nil->iE,Name_function_global->ji,callWith_builtin->jX
open PySem.Code renaming quiet_builtin->ir
open List.Nodup renaming sublist->iy
open PySem.Paired renaming length->jh,snoc->mz
open Option renaming isSome_map->jm,isSome_iff_exists->jy,map_some->jQ,map_eq_some_iff->jY,getD_none->lJ,bind_some->lQ
open Sum.inr renaming inj->jU
open PySem.Walks renaming list->kh
open PySem.Heap.SameBut renaming update->kB
open PySem.SeqAt.EqAt renaming int_str->kF,str_int->kG
open PySem.Obj renaming data_mapFields->kP
open PySem.Heap.Ns1 renaming of_empty->kZ
open Eq renaming symm->ma
open PySem.W.Looks renaming here->mh
open Prod renaming ext->mj
open PySem.Heap.FunFrames renaming of_keeps->my
open PySem.Moved renaming trans->mB
open PySem.Heap.IsSliceOf renaming new->mC
abbrev ql:=PySem.W.Frag
local macro_rules | `(tactic| walk_at "l") => `(tactic| (intro _ _ _ h; repeat (first | (obtain ⟨e, _⟩ := h; subst e; rfl; done) | (cases h; rename_i h))))
local macro_rules | `(tactic| walk_at "m") => `(tactic| (intro _ _ _ _ h; repeat (first | (obtain ⟨e, _⟩ := h; subst e; rfl; done) | (cases h; rename_i h))))
abbrev Vl:=PySem.Value
abbrev Sd:=PySem.Shared
abbrev Pg:=PySem.Program
abbrev Ar:=PySem.Around
abbrev Wo:=PySem.World
namespace L2
open PySem PySem.Spec PyProof.Rows
def x5{α:Sort u}{β:Sort v}{p q r:α->β->Prop}{C:Prop}(h:∃a b,p a b/\q a b/\r a b)(f:∀a b,p a b->q a b->r a b->C):C:=by obtain⟨a,b,h1,h2,h3⟩:=h;exact f a b h1 h2 h3
abbrev qS:=Sum Int Str
def CA:qS->Vl->Bool
 | .inl k,v=>Value.isInt k v
 | .inr x,v=>Value.isStrOf x v
def VL(w:Wo):qS->Int
 | .inl k=>hashInt k
 | .inr x=>hashStr w x
def rJ:∀{k:qS} {v:Vl},CA k v=true->(∃i t,k=Sum.inl i/\v=Value.int i t)\/(∃x t,k=Sum.inr x/\v=Value.str x t)
 | .inl i,v,h=>by obtain⟨t,e⟩:=Value.isInt_shape (k:=i) (v:=v) h;exact .inl ⟨i,t,rfl,e⟩
 | .inr x,v,h=>by obtain⟨t,e⟩:=Value.isStrOf_shape (x:=x) (v:=v) h;exact .inr ⟨x,t,rfl,e⟩
def KI(i:Int)(t:Tok):CA (.inl i) (.int i t)=true:=by simp[CA,Value.isInt]
def Km(x:Str)(t:Tok):CA (.inr x) (.str x t)=true:=by simp[CA,Value.isStrOf]
def Rv(a b:Int):decide ((Sum.inl a:qS)=Sum.inl b)=(a==b):=by
 by_cases e:a=b
 .subst e;simp
 .have h:¬(Sum.inl a:qS)=Sum.inl b:=λq=>e (Sum.inl.inj q);rw[eN h];exact(gv.mpr e).symm
def Sv(a b:Str):decide ((Sum.inr a:qS)=Sum.inr b)=decide (a=b):=by
 by_cases e:a=b
 .subst e;simp
 .have h:¬(Sum.inr a:qS)=Sum.inr b:=λq=>e (jU q);rw[eN h,eN e]
def RG(a:Int)(b:Str):decide ((Sum.inl a:qS)=Sum.inr b)=false:=eN (λq=>nomatch q)
def SN(a:Str)(b:Int):decide ((Sum.inr a:qS)=Sum.inl b)=false:=eN (λq=>nomatch q)
def rf(prog:Pg)(w:Wo):PySem.KeyKind prog w qS where
 is:=CA
 hash:=VL w
 inj:=λv a b ha hb=>by
  rcases rJ ha with⟨i,t,rfl,rfl⟩|⟨x,t,rfl,rfl⟩
  .rcases rJ hb with⟨j,u,rfl,e⟩|⟨y,u,rfl,e⟩
   .injection e with e1 _;rw[e1]
   .exact nomatch e
  .rcases rJ hb with⟨j,u,rfl,e⟩|⟨y,u,rfl,e⟩
   .exact nomatch e
   .injection e with e1 _;rw[e1]
 byValue:=λk v h=>by rcases rJ h with⟨i,t,rfl,rfl⟩|⟨x,t,rfl,rfl⟩<;>rfl
 pyHash:=λhv h=>by
  rcases rJ hv with⟨i,t,rfl,rfl⟩|⟨x,t,rfl,rfl⟩
  .exact wpAny_pyHash_int h
  .exact lB h
 eqBool:=λhu hv h=>by
  rcases rJ hu with⟨i,t,rfl,rfl⟩|⟨x,t,rfl,rfl⟩
  .rcases rJ hv with⟨j,u,rfl,rfl⟩|⟨y,u,rfl,rfl⟩
   .rw[Rv]at h;exact lC h
   .rw[RG]at h;exact kF i t y u _ _ _ _ h
  .rcases rJ hv with⟨j,u,rfl,rfl⟩|⟨y,u,rfl,rfl⟩
   .rw[SN]at h;exact kG x t j u _ _ _ _ h
   .rw[Sv]at h;exact wpAny_eqBool_str h
 «strs»:=λk x t v h=>by
  rcases rJ h with⟨i,u,rfl,e⟩|⟨y,u,rfl,e⟩
  .exact nomatch e
  .injection e with e1 _
   subst e1;cases v<;>rfl
def Gw(prog:Pg)(w:Wo)(i:Int)(t:Tok):(rf prog w).is (.inl i) (.int i t)=true:=KI i t
def Am(prog:Pg)(w:Wo)(x:Str)(t:Tok):(rf prog w).is (.inr x) (.str x t)=true:=Km x t
inductive V where
 | mH|bl (b:Bool)|int (i:Int)|str (x:Str)|byt (b:Array UInt8)|flt (b:UInt64)|ref (a:Addr)|ty (n:String)
 deriving DecidableEq
def qH:V->Vl->Prop
 | .mH,u=>u=Value.none
 | .bl b,u=>u=Value.bool b
 | .int i,u=>∃t,u=Value.int i t
 | .str x,u=>∃t,u=Value.str x t
 | .byt b,u=>∃t,u=Value.bytes b t
 | .flt b,u=>∃t,u=Value.float b t
 | .ref a,u=>u=Value.ref a
 | .ty n,u=>u=Value.type n
abbrev qw:List V->List Vl->Prop:=Paired qH
def qw.length{xs:List V}{us:List Vl}(r:qw xs us):xs.length=us.length:=jh r
theorem qw.get:∀{xs:List V} {us:List Vl} {i:Nat} {x:V},qw xs us->xs[i]?=some x->∃u,us[i]?=some u/\qH x u
 | _,_,_,_,.nil,e=>by simp at e
 | _,_,0,_,.cons r _,e=>by simp at e;subst e;exact⟨_,rfl,r⟩
 | _,_,i+1,x,.cons _ t,e=>by obtain⟨u,h1,h2⟩:=qw.get (i:=i) (x:=x) t (by simpa using e);exact⟨u,by simpa using h1,h2⟩
theorem qw.set{x:V}{u:Vl}(r:qH x u):∀{xs:List V} {us:List Vl} (i:Nat),qw xs us->qw (xs.set i x) (us.set i u)
 | _,_,_,.nil=>.nil
 | _,_,0,.cons _ t=>.cons r t
 | _,_,i+1,.cons q t=>.cons q (qw.set r i t)
theorem qw.append:∀{xs ys:List V} {us ws:List Vl},qw xs us->qw ys ws->qw (xs++ys) (us++ws)
 | _,_,_,_,.nil,s=>s
 | _,_,_,_,.cons r t,s=>.cons r (qw.append t s)
theorem qw.take:∀{xs:List V} {us:List Vl} (n:Nat),qw xs us->qw (xs.take n) (us.take n)
 | _,_,0,_=>.nil
 | _,_,_+1,.nil=>.nil
 | _,_,n+1,.cons r t=>.cons r (qw.take n t)
theorem qw.drop:∀{xs:List V} {us:List Vl} (n:Nat),qw xs us->qw (xs.drop n) (us.drop n)
 | _,_,0,r=>r
 | _,_,_+1,.nil=>.nil
 | _,_,n+1,.cons _ t=>qw.drop n t
def xY:Option V->Option Vl->Prop
 | some v,some u=>qH v u
 | none,none=>True
 | _,_=>False
def KV{κ:Type}:List (κ×V)->List (κ×Vl)->Prop:=Paired λ(p:κ×V) (q:κ×Vl)=>p.1=q.1/\qH p.2 q.2
def kV:qS->V
 | .inl i=>.int i
 | .inr x=>.str x
inductive HO where
 | lst (xs:List V)
 | tup (xs:List V)
 | dK (kvs:List (qS×V))|dT (kvs:List (List qS×V))
 | set (S:Int->Bool) (n:Nat)
 | ins (C dx:Addr) (fs:List (Str×V))
 | own (x:Addr)
 | xd (fs:List (Str×V))
 | met (f x:Addr)
 | rng (lo hi:Int)
 | frz (o:Obj) (u:HO)
 | tbl (ps:Array Vl)
 | ext (φ:Heap->Prop)
abbrev Hp:=Addr->Option HO
def upd(H:Hp)(a:Addr)(o:HO):Hp:=λb=>if b=a then some o else H b
def qe{H:Hp}{a:Addr}{o:HO}:upd H a o a=some o:=by unfold upd;rw[dg rfl]
def pZ{H:Hp}{a b:Addr}{o:HO}(h:b≠a):upd H a o b=H b:=by unfold upd;rw[de h]
def Po{H:Hp}{a:Addr}{o u:HO}:upd (upd H a o) a u=upd H a u:=by funext b;unfold upd;split<;>rfl
def Tf{H:Hp}{a b:Addr}{o u:HO}(h:H a=some o)(h':H b=some u)(d:o≠u):a≠b:=by intro e;subst e;rw[h]at h';exact d (dn h')
def qJ{H:Hp}{a b:Addr}{o:HO}(h:H a=some o)(h':H b=none):a≠b:=by intro e;subst e;rw[h]at h';cases h'
section
variable (P:Pg)(w:Wo)
def D7(h:Heap)(a:Addr)(its:Array Vl):Prop:=∃o,h.get? a=some o/\o.cls=.type "tuple"/\(∃n,o.data=.seq its n)/\o.dict=none
def rP(H:Hp)(h:Heap)(a:Addr):HO->Prop
 | .lst xs=>xs.length<=sizeLine/\∃(its:List Vl) (n:Nat),qw xs its/\h.get? a=some {cls:=.type "list",data:=.seq its.toArray n}
 | .tup xs=>xs.length<=sizeLine/\∃its:List Vl,qw xs its/\D7 h a its.toArray
 | .dK kvs=>kvs.length<=sizeLine/\(a==sysModules)=false/\∃vs,KV kvs vs/\h.DictOf (rf P w) a vs
 | .dT kvs=>kvs.length<=sizeLine/\(a==sysModules)=false/\∃xs:List (List qS×Addr×Vl),Paired (λ(p:List qS×V) (q:List qS×Addr×Vl)=>p.1=q.1/\H q.2.1=some (.tup (p.1.map kV))/\qH p.2 q.2.2) kvs xs/\
   ∃o es ep,h.get? a=some o/\o.ExactDict/\o.data=.dict es ep/\es.toList=xs.map (entryOfKey (tupleKind (rf P w)))/\(xs.map (·.1)).Nodup
 | .set S n=>h.SetOf (intKind P w) a S n
 | .ins C dx fs=>H dx=some (.own a)/\fs.length<=1000/\dx≠a/\h.get? a=some (W.instObj C dx)/\
   ∃mA,h.Ns1 dx mA/\(∀f,xY (fs.lookup f) (mA f))/\PySem.Within mA (fs.map (·.1))
 | .own _=>∃o,h.get? a=some o
 | .xd fs=>∃mA,h.Ns1 a mA/\∀f,xY (fs.lookup f) (mA f)
 | .rng lo hi=>∃t u v,h.get? a=some {cls:=.type "range",data:=.fields #[.int lo t,.int hi u,.int 1 v]}
 | .frz o u=>h.get? a=some o/\rP H h a u
 | .tbl ps=>h.get? a=some {cls:=.none,data:=.fields ps}
 | .met f x=>h.get? a=some (W.methodObj (.ref f) (.ref x))
 | .ext φ=>φ h/\(∃o,h.get? a=some o)/\∀h1 h2:Heap,φ h1->(∀o,h1.get? a=some o->h2.get? a=some o)->φ h2
def ya(H:Hp)(h:Heap):Prop:=∀a o,H a=some o->rP P w H h a o
end
variable {H H':Hp}{h h':Heap}
section
variable {P:Pg}{w:Wo}{a:Addr}{o:HO}
def D7.is{its:Array Vl}(x:D7 h a its):IsTup h a its:=let⟨o,e,c,d,_⟩:=x;⟨o,e,c,d⟩
def D7.new(h:Heap)(WO:Array Vl):D7 (h.push {cls:=.type "tuple",data:=.seq WO}) h.objs.size WO:=⟨_,dG _ rfl,rfl,⟨_,rfl⟩,rfl⟩
def rP.lt(x:rP P w H h a o):a<h.objs.size:=by
 cases o with
 | lst xs=>obtain⟨_,_,_,_,e⟩:=x;exact dA e
 | tup xs=>obtain⟨_,_,_,_,e,_⟩:=x;exact dA e
 | dK kvs=>obtain⟨_,_,_,_,o,_,_,e,_⟩:=x;exact dA e
 | dT kvs=>obtain⟨_,_,_,_,o,_,_,e,_⟩:=x;exact dA e
 | set S n=>obtain⟨o,_,_,_,e,_⟩:=x;exact dA e
 | ins C dx fs=>obtain⟨_,_,_,e,_⟩:=x;exact dA e
 | own y=>obtain⟨_,e⟩:=x;exact dA e
 | xd fs=>obtain⟨_,⟨_,_,_,e,_⟩,_⟩:=x;exact dA e
 | rng lo hi=>obtain⟨_,_,_,e⟩:=x;exact dA e
 | frz ob u=>obtain⟨e,_⟩:=x;exact dA e
 | tbl ps=>exact dA (show h.get? a=some _ from x)
 | met f y=>exact dA (show h.get? a=some _ from x)
 | ext φ=>obtain⟨_,⟨_,e⟩,_⟩:=x;exact dA e
theorem Paired.og{α β:Type}{F G:α->β->Prop}:∀{l₁:List α} {l₂:List β},Paired F l₁ l₂->(∀a b,F a b->G a b)->Paired G l₁ l₂
 | _,_,.nil,_=>.nil
 | _,_,.cons r t,f=>.cons (f _ _ r) (Paired.og t f)
def rP.nj(x:rP P w H h a o)(k:∀b u,(b=a\/H b=some (.own a))->h.get? b=some u->h'.get? b=some u) (ho:∀b,H b=some (.own a)->H' b=some (.own a)) (ht:∀b xs,H b=some (.tup xs)->H' b=some (.tup xs)):rP P w H' h' a o:=by
 induction o with
 | lst xs=>obtain⟨z,its,n,r,e⟩:=x;exact⟨z,its,n,r,k _ _ (.inl rfl) e⟩
 | tup xs=>obtain⟨z,its,r,ob,e,c⟩:=x;exact⟨z,its,r,ob,k _ _ (.inl rfl) e,c⟩
 | dK kvs=>obtain⟨z,y,vs,r,ob,es,ep,e,c⟩:=x;exact⟨z,y,vs,r,ob,es,ep,k _ _ (.inl rfl) e,c⟩
 | dT kvs=>obtain⟨z,y,xs,r,ob,es,ep,e,c⟩:=x;exact⟨z,y,xs,Paired.og r λp q z=>⟨z.1,ht _ _ z.2.1,z.2.2⟩,ob,es,ep,k _ _ (.inl rfl) e,c⟩
 | set S n=>obtain⟨ob,es,ep,t,e,c⟩:=x;exact⟨ob,es,ep,t,k _ _ (.inl rfl) e,c⟩
 | ins C dx fs=>obtain⟨d,z,ne,e,mA,⟨od,es,ep,e2,c⟩,r⟩:=x;exact⟨ho _ d,z,ne,k _ _ (.inl rfl) e,mA,⟨od,es,ep,k _ _ (.inr d) e2,c⟩,r⟩
 | own y=>obtain⟨ob,e⟩:=x;exact⟨ob,k _ _ (.inl rfl) e⟩
 | xd fs=>obtain⟨mA,⟨od,es,ep,e,c⟩,r⟩:=x;exact⟨mA,⟨od,es,ep,k _ _ (.inl rfl) e,c⟩,r⟩
 | rng lo hi=>obtain⟨t,u,v,e⟩:=x;exact⟨t,u,v,k _ _ (.inl rfl) e⟩
 | frz ob u ih=>obtain⟨e,q⟩:=x;exact⟨k _ _ (.inl rfl) e,ih q⟩
 | tbl ps=>have e:h.get? a=some {cls:=.none,data:=.fields ps}:=x;show h'.get? a=some {cls:=.none,data:=.fields ps};exact k a _ (.inl rfl) e
 | met f y=>have e:h.get? a=some (W.methodObj (.ref f) (.ref y)):=x;show h'.get? a=some (W.methodObj (.ref f) (.ref y));exact k a _ (.inl rfl) e
 | ext φ=>obtain⟨p,⟨o,e⟩,st⟩:=x;exact⟨st _ _ p λo q=>k _ _ (.inl rfl) q,⟨o,k _ _ (.inl rfl) e⟩,st⟩
def ya.lt(x:ya P w H h)(e:H a=some o):a<h.objs.size:=(x a o e).lt
def ya.fresh(x:ya P w H h)(e:h.objs.size<=a):H a=none:=by
 cases q:H a with
 | none=>rfl
 | some u=>exact absurd (dR (x.lt q) e) (e9 _)
def ya.kept(x:ya P w H h)(k:∀b u,h.get? b=some u->h'.get? b=some u):ya P w H h':=λa o e=>(x a o e).nj (λb u _ q=>k b u q) (λ_ q=>q) λ_ _ q=>q
def ya.laid(x:ya P w H h)(k:∀b u,h.get? b=some u->h'.get? b=some u)(hp:h.objs.size<=a)(new:rP P w (upd H a o) h' a o):ya P w (upd H a o) h':=λb u e=>by
 have hn:=x.fresh hp;by_cases hb:b=a
 .subst hb;rw[qe]at e;cases e;exact new
 .rw[pZ hb]at e;exact(x b u e).nj (λc v _ q=>k c v q) (λc q=>by rw[pZ (qJ q hn)];exact q) λc xs q=>by rw[pZ (qJ q hn)];exact q
end
def Rd(H:Hp)(a:Addr)(u:HO):Prop:=H a=some u\/∃o,H a=some (.frz o u)
def Rd.ok{P:Pg}{w:Wo}{H:Hp}{h:Heap}{a:Addr}{u:HO}(r:Rd H a u)(x:ya P w H h):rP P w H h a u:=by
 rcases r with r|⟨o,r⟩
 .exact x a u r
 .obtain⟨_,q⟩:=x a _ r;exact q
def UM:Option HO->Prop
 | some (.lst _)=>True
 | some (.dK _)=>True
 | some (.dT _)=>True
 | some (.set _ _)=>True
 | some (.ins _ _ _)=>True
 | some (.ext _)=>True
 | _=>False
variable {o':HO}
section
variable {P:Pg}{w:Wo}{x e:Addr}
def ya.write(ok:ya P w H h)(mu:UM (H x))(he:e=x\/H e=some (.own x))(k:∀b u,b≠e->h.get? b=some u->h'.get? b=some u)(heo:∃u,h'.get? e=some u) (new:rP P w (upd H x o') h' x o'):ya P w (upd H x o') h':=λb u q=>by
 have nown:∀c y,H c=some (.own y)->c≠x:=λc y r z=>by subst z;rw[r]at mu;exact mu
 have ntup:∀c xs,H c=some (.tup xs)->c≠x:=λc xs r z=>by subst z;rw[r]at mu;exact mu
 by_cases hb:b=x
 .subst hb;rw[qe]at q;cases q;exact new
 .rw[pZ hb]at q;by_cases hbe:b=e
  .have q':H b=some (.own x):=by
    rcases he with z|z
    .exact absurd (hbe.trans z) hb
    .rw[hbe];exact z
   rw[q]at q';cases q';obtain⟨v,hv⟩:=heo;exact⟨v,by rw[hbe];exact hv⟩
  .refine(ok b u q).nj (λc v hc r=>k c v ?_ r) (λc r=>by rw[pZ (nown c b r)];exact r) λc xs r=>by rw[pZ (ntup c xs r)];exact r
   rcases hc with rfl|hc
   .exact hbe
   .rintro rfl
    rcases he with z|z
    .exact nown c b hc z
    .rw[hc]at z;cases z;exact hb rfl
end
structure Un(fs ex:List Addr)(H H':Hp)(h h':Heap):Prop where
 keep:∀b o,h.get? b=some o->H b=none->b∉fs->b∉ex->h'.get? b=some o
 slot:∀b o,h.get? b=some o->H b=none->b∈fs->b∉ex->∃sl,h'.get? b=some {o with slots:=sl}
 free:∀b o,h.get? b=some o->H b=none->b∉ex->H' b=none
 there:∀b o,h.get? b=some o->b∉ex->∃o',h'.get? b=some o'
 nG:∀b xs,H b=some (.tup xs)->H' b=some (.tup xs)
 nE:∀b o u,H b=some (.frz o u)->H' b=some (.frz o u)
 nH:∀b ps,H b=some (.tbl ps)->∃more,H' b=some (.tbl (ps++more))
variable {ex ex':List Addr}{H1 H2:Hp}{h1 h2:Heap}
section
variable {fs fs':List Addr}{a x e:Addr}{o:HO}
def Un.any(u:Un fs ex H H1 h h1){b:Addr}{ob:Obj}(q:h.get? b=some ob)(n:H b=none)(hx:b∉ex):∃sl,h1.get? b=some {ob with slots:=sl}:=by
 by_cases hb:b∈fs
 .exact u.slot b ob q n hb hx
 .exact⟨ob.slots,u.keep b ob q n hb hx⟩
def Un.kept(k:∀b u,h.get? b=some u->h'.get? b=some u):Un fs ex H H h h':=
 ⟨λb ob q _ _ _=>k b ob q,λb ob q _ _ _=>⟨ob.slots,k b ob q⟩,λ_ _ _ n _=>n,λb ob q _=>⟨ob,k b ob q⟩,λ_ _ q=>q,λ_ _ _ q=>q,λ_ ps q=>⟨#[],by rw[q];simp⟩⟩
def Un.refl:Un fs ex H H h h:=Un.kept λ_ _ q=>q
def Un.laid(k:∀b u,h.get? b=some u->h'.get? b=some u)(hp:h.objs.size<=a)(hn:H a=none):Un fs ex H (upd H a o) h h' where
 keep:=λb u q _ _ _=>k b u q
 slot:=λb u q _ _ _=>⟨u.slots,k b u q⟩
 free:=λb u q n _=>by rw[pZ (dH (dR (dA q) hp))];exact n
 there:=λb u q _=>⟨u,k b u q⟩
 nG:=λb xs q=>by rw[pZ (qJ q hn)];exact q
 nE:=λb u xs q=>by rw[pZ (qJ q hn)];exact q
 nH:=λb ps q=>⟨#[],by rw[pZ (qJ q hn),q];simp⟩
def Un.write(mu:UM (H x))(he:e=x\/H e=some (.own x))(k:∀b u,b≠e->h.get? b=some u->h'.get? b=some u)(heo:∃u,h'.get? e=some u):Un fs ex H (upd H x o) h h':=by
 have hx:∀b,H b=none->b≠x:=λb n z=>by subst z;rw[n]at mu;exact mu
 have hb:∀b,H b=none->b≠e:=λb n z=>by
  subst z;rcases he with r|r
  .exact hx b n r
  .rw[n]at r;cases r
 have hm:∀b u,H b=some u->¬UM (some u)->b≠x:=λb u q nm z=>by subst z;rw[q]at mu;exact nm mu
 refine⟨λb u q n _ _=>k b u (hb b n) q,λb u q n _ _=>⟨u.slots,k b u (hb b n) q⟩,λb u q n _=>by rw[pZ (hx b n)];exact n,λb u q _=>?_,λb xs q=>by rw[pZ (hm b _ q λz=>z)];exact q,λb u xs q=>by rw[pZ (hm b _ q λz=>z)];exact q,λb ps q=>⟨#[],by rw[pZ (hm b _ q λz=>z),q];simp⟩⟩
 by_cases hbe:b=e
 .subst hbe;exact heo
 .exact⟨u,k b u hbe q⟩
end
def UT(h:Heap)(H:Hp):List Addr:=(List.range h.objs.size).filter λa=>(H a).isSome
def El(h:Heap)(H:Hp):Heap:=W.hideAll h (UT h H)
def Kr(h:Heap)(H:Hp):(El h H).objs.size=h.objs.size:=W.hideAll_size _ _
def L5{h:Heap}{H:Hp}{b:Addr}{o:Obj}(e:h.get? b=some o)(n:H b=none):(El h H).get? b=some o:=
 W.hideAll_get _ e λhm=>by have q:(H b).isSome=true:=(fJ.mp hm).2;rw[n]at q;simp at q
def Pi{h:Heap}{H:Hp}{b:Addr}{o:Obj}(e:(El h H).get? b=some o):h.get? b=some o/\H b=none:=by
 have e':h.get? b=some o:=W.of_hideAll (UT h H) e;refine⟨e',?_⟩;cases q:H b with
 | none=>rfl
 | some x=>have hm:b∈UT h H:=fJ.mpr ⟨gg.mpr (dA e'),by simp[q]⟩;have z:(El h H).get? b=none:=W.hideAll_none (UT h H) hm;rw[z]at e;cases e
structure Mod(K:ql)(mg:Str->Option Vl)(base:Heap):Prop where
 oz:K.In base
 glob:base.Ns mainGlobals mg
 blt:∃mb,base.Ns builtinsNs mb/\∀x:Str,x≠"__name__"->mb x=bootBuiltins x
 nolimit:base.NoLimit
structure Cx where
 prog:Pg
 w:Wo
 K:ql
 mg:Str->Option Vl
 base:Heap
 A:Ar
 N:List Str
 s₀:Sd
 H₀:Hp
 env:Env
 outer:List Env
 stack:List Env
 ex:List Addr
 fn:Str->Bool
 calm:Bool
 pn:List (Addr×Obj)
 xe:Vl->Sd->Prop
abbrev AH(X:Cx)(e:Expr)(es:List Expr):Prop:=starEach (e::es) X.env=(false,eval e X.env)::starEach es X.env
abbrev Cw(X:Cx)(p:Pos)(es:List Expr):Prop:=(backTo p (starEach es X.env)).any (·.1)=false
abbrev yk(x:Str):Prop:=(x==("__debug__":Str))=false
abbrev KO(X:Cx)(x:Str):Prop:=X.fn x=true\/X.env.scope.names.lookup x=some .local
def vS(l:List Env):List Addr:=l.filterMap (·.frame)
abbrev Cx.fs(X:Cx):List Addr:=vS X.outer
def Ul(sc:Scope)(x:Str):Prop:=sc.names.lookup x=some .local\/sc.names.lookup x=some .cell\/sc.names.lookup x=some .free
def KQ(sc:Scope)(x:Str):Prop:=sc.names.lookup x=some .local\/sc.names.lookup x=some .cell
def Va(env:Env)(h:Heap)(m:Str->Option Vl)(x:Str)(u:Vl):Prop:=
 (env.kindOf x=some .local/\m x=some u)\/((env.kindOf x=some .cell\/env.kindOf x=some .free)/\∃c,env.cells.lookup x=some c/\h.IsCell c (some u))
structure Cx.Ok(X:Cx):Prop where
 mod:Mod X.K X.mg X.base
 kind:X.env.scope.kind=.function
 glob:X.env.globals=mainGlobals
 blt:X.env.builtins=builtinsNs
 above:X.s₀.heap.objs.size<=X.env.locals
 inj:∀x y c,X.env.cells.lookup x=some c->X.env.cells.lookup y=some c->x=y
 has:∀x,(X.env.kindOf x=some .cell\/X.env.kindOf x=some .free)->∃c,X.env.cells.lookup x=some c
 oi:∀x c,X.fn x=true->X.env.cells.lookup x=some c->X.s₀.heap.objs.size<=c
 hd:X.calm=true->X.A.handled=none
 frames:X.A.frames=some X.stack
 oC:X.stack=X.outer\/(X.stack=X.env::X.outer/\X.env.frame=some X.env.locals)
 oR:∀b∈X.ex,b≠X.env.locals/\∀x c,X.env.cells.lookup x=some c->c≠b
 bs:∀b o,X.base.get? b=some o->X.s₀.heap.get? b=some o/\X.H₀ b=none
 nW:X.base.objs.size<=X.s₀.heap.objs.size
 nL:∀b o,X.base.get? b=some o->b∉X.ex
 nR:∀b∈X.ex,b∉X.fs
 nu:X.s₀.heap.FunFrames X.base X.outer
 oa:∀b∈X.fs,X.H₀ b=none
structure Inv(X:Cx)(WN:List (Addr×Obj))(σ:List (Option V))(H:Hp)(s:Sd):Prop where
 ok:X.Ok
 os:s.os=X.s₀.os
 bare:AllBare s.gens
 base:Un X.fs X.ex X.H₀ H X.s₀.heap s.heap
 loc:∃m,s.heap.Ns X.env.locals m/\∀(i:Nat) (x:Str) (v:V),X.N[i]?=some x->σ[i]?=some (some v)->Ul X.env.scope x->∃u,qH v u/\Va X.env s.heap m x u
 cell:∀x c,X.env.cells.lookup x=some c->∃v,s.heap.IsCell c v
 free:H X.env.locals=none
 mV:∀x c,X.env.cells.lookup x=some c->H c=none
 pin:∀p∈X.pn++WN,s.heap.get? p.1=some p.2/\H p.1=none/\p.1≠X.env.locals/\p.1∉X.fs/\∀v,p.2.data≠.cell v
 mO:ya X.prog X.w H s.heap
 len:σ.length=X.N.length
variable {X:Cx}{WN:List (Addr × Obj)}{s:Sd}
section
variable {σ:List (Option V)}
def Cx.Ok.nofr(ok:X.Ok){b:Addr}{o:Obj}(e:X.base.get? b=some o):b∉X.fs:=λhb=>by have:=(ok.nu.mem hb).1;rw[e]at this;cases this
def Inv.bs(I:Inv X WN σ H s):∀b o,X.base.get? b=some o->s.heap.get? b=some o/\H b=none:=λb o e=>⟨I.base.keep b o (I.ok.bs b o e).1 (I.ok.bs b o e).2 (I.ok.nofr e) (I.ok.nL b o e),I.base.free b o (I.ok.bs b o e).1 (I.ok.bs b o e).2 (I.ok.nL b o e)⟩
def Inv.bk(I:Inv X WN σ H s):∀b o,X.base.get? b=some o->s.heap.get? b=some o:=λb o e=>(I.bs b o e).1
def Inv.mod(I:Inv X WN σ H s):Mod X.K X.mg X.base:=I.ok.mod
def Inv.mY(I:Inv X WN σ H s):X.K.In s.heap:=I.ok.mod.oz.keeps I.bk
def Inv.lt(I:Inv X WN σ H s):X.env.locals<s.heap.objs.size:=let⟨_,hn,_⟩:=I.loc;hn.lt
def Inv.sz(I:Inv X WN σ H s):X.s₀.heap.objs.size<=s.heap.objs.size:=dX I.ok.above (jw I.lt)
def Inv.oM(I:Inv X WN σ H s){a:Addr}(h:s.heap.objs.size<=a):a∉X.fs:=λhb=>by obtain⟨_,o,ho,_⟩:=I.ok.nu.mem hb;exact absurd (dR (dA ho) (dX I.sz h)) (e9 _)
def Inv.oU(I:Inv X WN σ H s):∀x c,X.env.cells.lookup x=some c->c≠X.env.locals:=λx c e z=>by obtain⟨v,o,ho,hd⟩:=I.cell x c e;obtain⟨m,⟨o',es,ep,Xr,hd',_⟩,_⟩:=I.loc;rw[z,Xr]at ho;cases ho;rw[hd']at hd;cases hd
def Inv.nu(I:Inv X WN σ H s):s.heap.FunFrames X.base X.outer:=by
 have all:∀(l:List Env),(∀b∈vS l,b∈X.fs)->X.s₀.heap.FunFrames X.base l->s.heap.FunFrames X.base l:=by
  intro l;induction l with
  | nil=>intro _ _;trivial
  | cons env r ih=>intro hs hl;obtain⟨hk,⟨L,o,hf,hn,ho,hd⟩,hr⟩:=hl;have hL:L∈X.fs:=hs L (by unfold vS;rw[fX,hf];exact dJ);obtain⟨sl,e⟩:=I.base.slot L o ho (I.ok.oa L hL) hL λz=>I.ok.nR L z hL;exact⟨hk,⟨L,_,hf,hn,e,hd⟩,ih (λb hb=>hs b (by unfold vS;rw[fX,hf];exact dC _ hb)) hr⟩
 exact all X.outer (λ_ hb=>hb) I.ok.nu
def Inv.stack(I:Inv X WN σ H s):s.heap.FunFrames X.base X.stack:=by
 rcases I.ok.oC with e|⟨e,hf⟩
 .rw[e];exact I.nu
 .rw[e];obtain⟨m,hn,_⟩:=I.loc;refine .cons (by rw[I.ok.kind];decide) hf hn ?_ I.nu;exact hW (dX I.ok.nW I.ok.above)
def Inv.nq(I:Inv X WN σ H s):∀b∈vS X.stack,b∈X.env.locals::X.fs:=λb hb=>by
 rcases I.ok.oC with e|⟨e,hf⟩
 .rw[e]at hb;exact dC _ hb
 .rw[e]at hb;unfold vS at hb;rw[fX,hf]at hb;exact hb
def Inv.nz(I:Inv X WN σ H s):∀b∈vS X.stack,H b=none:=λb hb=>by
 rcases dh.mp (I.nq b hb)with e|hb
 .rw[e];exact I.free
 .obtain⟨_,o,ho,_⟩:=I.ok.nu.mem hb;exact I.base.free b o ho (I.ok.oa b hb) λz=>I.ok.nR b z hb
def Inv.step{g':Array GenState}{t':Nat}{d':Drawn}{ch:List Addr}(I:Inv X WN σ H s) (XN:∀b∈ch,(b∈X.ex\/X.s₀.heap.objs.size<=b)/\b≠X.env.locals/\(∀x c,X.env.cells.lookup x=some c->c≠b)/\∀p∈X.pn++WN,p.1≠b) (keep:∀b o,b≠X.env.locals->b∉X.fs->b∉ch->s.heap.get? b=some o->H b=none->h'.get? b=some o) (slot:∀b o,b≠X.env.locals->b∈X.fs->b∉ch->s.heap.get? b=some o->H b=none->∃sl,h'.get? b=some {o with slots:=sl}) (free:∀b o,b∉ch->s.heap.get? b=some o->H b=none->H' b=none)
  (there:∀b o,b∉ch->s.heap.get? b=some o->∃o',h'.get? b=some o')
  (nG:∀b xs,H b=some (.tup xs)->H' b=some (.tup xs)) (nE:∀b o u,H b=some (.frz o u)->H' b=some (.frz o u)) (nH:∀b ps,H b=some (.tbl ps)->∃more,H' b=some (.tbl (ps++more)))
  (ns:∀m,s.heap.Ns X.env.locals m->h'.Ns X.env.locals m) (mO:ya X.prog X.w H' h') (hg:AllBare g'):
  Inv X WN σ H' {s with heap:=h',gens:=g',drawn:=d',toks:=t'}:=by
 have neL:∀b o,X.s₀.heap.get? b=some o->b≠X.env.locals:=λb o e=>dH (dR (dA e) I.ok.above);have neC:∀b o,X.s₀.heap.get? b=some o->b∉X.ex->b∉ch:=λb o e hx hb=>by
  rcases(XN b hb).1 with z|z
  .exact hx z
  .exact absurd (dR (dA e) z) (e9 _)
 have Za:∀x c,X.env.cells.lookup x=some c->∀v,s.heap.IsCell c v->h'.IsCell c v:=λx c e v ⟨o,ho,hd⟩=>by
  have nch:c∉ch:=λz=>(XN c z).2.2.1 x c e rfl;by_cases hc:c∈X.fs
  .obtain⟨sl,q⟩:=slot c o (I.oU x c e) hc nch ho (I.mV x c e);exact⟨_,q,hd⟩
  .exact⟨o,keep c o (I.oU x c e) hc nch ho (I.mV x c e),hd⟩
 refine⟨I.ok,I.os,hg,⟨λb o e n hb hx=>?_,λb o e n hb hx=>?_,λb o e n hx=>?_,λb o e hx=>?_,λb xs e=>nG b xs (I.base.nG b xs e),λb o xs e=>nE b o xs (I.base.nE b o xs e),λb ps e=>?_⟩,?_,λx c e=>?_,?_,λx c e=>?_,λp hp=>?_,mO,I.len⟩
 .exact keep b o (neL b o e) hb (neC b o e hx) (I.base.keep b o e n hb hx) (I.base.free b o e n hx)
 .obtain⟨sl,e1⟩:=I.base.slot b o e n hb hx;obtain⟨Yn,e2⟩:=slot b _ (neL b o e) hb (neC b o e hx) e1 (I.base.free b o e n hx);exact⟨Yn,e2⟩
 .obtain⟨o',e1⟩:=I.base.there b o e hx;exact free b o' (neC b o e hx) e1 (I.base.free b o e n hx)
 .obtain⟨o',e1⟩:=I.base.there b o e hx;exact there b o' (neC b o e hx) e1
 .obtain⟨m1,e1⟩:=I.base.nH b ps e;obtain⟨m2,e2⟩:=nH b _ e1;exact⟨m1++m2,by rw[e2,Array.append_assoc]⟩
 .obtain⟨m,hn,hl⟩:=I.loc;refine⟨m,ns m hn,λi x v e1 e2 e3=>?_⟩;obtain⟨u,r,l⟩:=hl i x v e1 e2 e3;refine⟨u,r,?_⟩;rcases l with l|⟨k,c,e,z⟩
  .exact .inl l
  .exact .inr ⟨k,c,e,Za x c e _ z⟩
 .obtain⟨v,z⟩:=I.cell x c e;exact⟨v,Za x c e v z⟩
 .obtain⟨m,⟨o,_,_,ho,_⟩,_⟩:=I.loc;exact free _ o (λz=>(XN _ z).2.1 rfl) ho I.free
 .obtain⟨v,o,ho,hd⟩:=I.cell x c e;exact free c o (λz=>(XN c z).2.2.1 x c e rfl) ho (I.mV x c e)
 .obtain⟨e,n,ne,nf,d⟩:=I.pin p hp;have nch:p.1∉ch:=λz=>(XN p.1 z).2.2.2 p hp rfl;exact⟨keep p.1 p.2 ne nf nch e n,free p.1 p.2 nch e n,ne,nf,d⟩
def Inv.un{t':Nat}(I:Inv X WN σ H s)(u:Un X.fs [] H H' s.heap h')(mO:ya X.prog X.w H' h'):Inv X WN σ H' {s with heap:=h',toks:=t'}:=by
 obtain⟨m,⟨o,es,ep,ho,r⟩,_⟩:=id I.loc;obtain⟨sl,hL⟩:=u.any ho I.free (by simp);exact I.step (g':=s.gens) (d':=s.drawn) (ch:=[]) (λ_ z=>nomatch z) (λb o _ hb _ e n=>u.keep b o e n hb (by simp)) (λb o _ hb _ e n=>u.slot b o e n hb (by simp)) (λb o _ e n=>u.free b o e n (by simp)) (λb o _ e=>u.there b o e (by simp)) u.nG u.nE u.nH (λm' hm=>by
  obtain⟨o',es',ep',Xr,r'⟩:=hm;rw[ho]at Xr;cases Xr;exact⟨_,es',ep',hL,r'⟩) mO I.bare
def Inv.call{g':Array GenState}{t':Nat}{d':Drawn}{ch:List Addr}(I:Inv X WN σ H s)(u:Un (vS X.stack) ch H H' s.heap h')(mO:ya X.prog X.w H' h')(hg:AllBare g') (XN:∀b∈ch,(b∈X.ex\/X.s₀.heap.objs.size<=b)/\b≠X.env.locals/\(∀x c,X.env.cells.lookup x=some c->c≠b)/\∀p∈X.pn++WN,p.1≠b):
  Inv X WN σ H' {s with heap:=h',gens:=g',drawn:=d',toks:=t'}:=by
 obtain⟨m,⟨o,es,ep,ho,r⟩,_⟩:=id I.loc;obtain⟨sl,hL⟩:=u.any ho I.free λz=>(XN _ z).2.1 rfl;exact I.step (ch:=ch) XN (λb o hL hb hc e n=>u.keep b o e n (λz=>(dh.mp (I.nq b z)).elim hL hb) hc) (λb o _ _ hc e n=>u.any e n hc) (λb o hc e n=>u.free b o e n hc) (λb o hc e=>u.there b o e hc) u.nG u.nE u.nH (λm' hm=>by
  obtain⟨o',es',ep',Xr,r'⟩:=hm;rw[ho]at Xr;cases Xr;exact⟨_,es',ep',hL,r'⟩) mO hg
def Inv.turned{t':Nat}{it:Addr}(I:Inv X WN σ H s)(k:∀b o,b≠it->s.heap.get? b=some o->h'.get? b=some o)(hn:H it=none)(hL:it≠X.env.locals) (h1:it∈X.ex\/X.s₀.heap.objs.size<=it) (h2:∀x c,X.env.cells.lookup x=some c->c≠it) (h3:∀p∈X.pn++WN,p.1≠it):Inv X WN σ H {s with heap:=h',toks:=t'}:=by
 have nit:∀b u,H b=some u->b≠it:=λb u e z=>by rw[z,hn]at e;cases e
 refine I.step (g':=s.gens) (d':=s.drawn) (ch:=[it]) (λb hb=>?_) (λb o _ _ hc e _=>k b o (λz=>hc (by simp[z])) e) (λb o _ _ hc e _=>⟨o.slots,k b o (λz=>hc (by simp[z])) e⟩) (λ_ _ _ _ n=>n)
  (λb o hc e=>⟨o,k b o (λz=>hc (by simp[z])) e⟩) (λ_ _ e=>e) (λ_ _ _ e=>e) (λb ps e=>⟨#[],by rw[e];simp⟩) (λm hm=>?_) (λb u e=>?_) I.bare
 .have e:b=it:=by simpa using hb
  subst e;exact⟨h1,hL,h2,h3⟩
 .obtain⟨o,es,ep,ho,r⟩:=hm;exact⟨o,es,ep,k _ o (dO hL) ho,r⟩
 .refine(I.mO b u e).nj (λc v hc q=>k c v ?_ q) (λ_ q=>q) λ_ _ q=>q;rcases hc with z|z
  .rw[z];exact nit b u e
  .exact nit c _ z
def Inv.tok(I:Inv X WN σ H s)(t:Nat):Inv X WN σ H {s with toks:=t}:=I.un (h':=s.heap) (t':=t) Un.refl I.mO
def Inv.kept{t':Nat}(I:Inv X WN σ H s)(k:∀b u,s.heap.get? b=some u->h'.get? b=some u):Inv X WN σ H {s with heap:=h',toks:=t'}:=I.un (Un.kept k) (I.mO.kept k)
def Inv.laid{a:Addr}{o:HO}{t':Nat}(I:Inv X WN σ H s)(k:∀b u,s.heap.get? b=some u->h'.get? b=some u)(hp:s.heap.objs.size<=a)(new:rP X.prog X.w (upd H a o) h' a o):
  Inv X WN σ (upd H a o) {s with heap:=h',toks:=t'}:=I.un (Un.laid k hp (I.mO.fresh hp)) (I.mO.laid k hp new)
def Inv.write{x e:Addr}{o:HO}{t':Nat}(I:Inv X WN σ H s)(mu:UM (H x))(he:e=x\/H e=some (.own x))(k:∀b u,b≠e->s.heap.get? b=some u->h'.get? b=some u)(heo:∃u,h'.get? e=some u) (new:rP X.prog X.w (upd H x o) h' x o):Inv X WN σ (upd H x o) {s with heap:=h',toks:=t'}:=I.un (Un.write mu he k heo) (I.mO.write mu he k heo new)
def Inv.nJ{XO:List (Addr×Obj)}(I:Inv X WN σ H s)(h:∀p∈XO,s.heap.get? p.1=some p.2/\H p.1=none/\p.1≠X.env.locals/\p.1∉X.fs/\∀v,p.2.data≠.cell v):Inv X XO σ H s:=
 ⟨I.ok,I.os,I.bare,I.base,I.loc,I.cell,I.free,I.mV,λp hp=>(dU.mp hp).elim (λz=>I.pin p (fD _ z)) (h p),I.mO,I.len⟩
def F8{N:List Str}(hN:N.Nodup){i j:Nat}{x:Str}(a:N[i]?=some x)(b:N[j]?=some x):i=j:=by obtain⟨h1,e1⟩:=cX.mp a;obtain⟨h2,e2⟩:=cX.mp b;exact(lD hN).mp (e1.trans e2.symm)
def DM{M:Model}{A:Ar}{E:Vl->Sd->Prop}{i:Nat}{x:Str}{v:V}{u:Vl}{Q:Unit->Sd->Prop}(I:Inv X WN σ H s)(hN:X.N.Nodup)(hi:X.N[i]?=some x)(hx:KQ X.env.scope x)(r:qH v u) (h:∀s',Inv X WN (σ.set i (some v)) H s'->(∃a,Heap.SameBut a s.heap s'.heap/\(a=X.env.locals\/X.env.cells.lookup x=some a))->Q () s') (hf:KO X x:=by first|exact .inl rfl|exact .inr rfl|assumption):wpAny M A (storeName X.env x u) Q E s:=by
 obtain⟨m,hn,hl⟩:=id I.loc;have hcls:(X.env.scope.kind==.class||(X.env.scope.kind==.module&&X.env.locals != X.env.globals))=false:=by rw[I.ok.kind];rfl
 have hiσ:i<σ.length:=by rw[I.len];exact(cX.mp hi).1
 have oU:=I.oU;have W2:∀{a:Addr} {h':Heap},(∃o,s.heap.get? a=some o/\H a=none)->Heap.SameBut a s.heap h'->ya X.prog X.w H h':=λ{a h'} ha hs b ob e=>by
  obtain⟨_,_,Xw⟩:=ha;refine(I.mO b ob e).nj (λc w' hc q=>(hs.2 c ?_).trans q) (λ_ q=>q) λ_ _ q=>q
  rintro rfl
  rcases hc with rfl|hc
  .rw[Xw]at e;cases e
  .rw[Xw]at hc;cases hc
 rcases hx with hk|hk
 .refine wpAny_storeName_local hk hn (λh' YG hs=>?_) hcls;obtain⟨oL,_,_,hoL,_⟩:=id hn;refine h _ ⟨I.ok,I.os,I.bare,⟨λb o e n hb hx=>?_,λb o e n hb hx=>?_,I.base.free,λb o e hx=>?_,I.base.nG,I.base.nE,I.base.nH⟩,⟨_,YG,λj y v' e1 e2 e3=>?_⟩,λy c e=>?_,I.free,I.mV,λp hp=>?_,W2 ⟨oL,hoL,I.free⟩ hs,by simpa using I.len⟩ ⟨_,hs,.inl rfl⟩
  .exact(hs.2 b (dH (dR (dA e) I.ok.above))).trans (I.base.keep b o e n hb hx)
  .obtain⟨sl,e1⟩:=I.base.slot b o e n hb hx;exact⟨sl,(hs.2 b (dH (dR (dA e) I.ok.above))).trans e1⟩
  .obtain⟨o',e1⟩:=I.base.there b o e hx;exact⟨o',(hs.2 b (dH (dR (dA e) I.ok.above))).trans e1⟩
  .by_cases hj:j=i
   .subst hj;rw[hi]at e1;cases e1;rw[fF hiσ]at e2;cases e2;exact⟨u,r,.inl ⟨hk,by simp⟩⟩
   .rw[fE (dO hj)]at e2;obtain⟨u',r',q⟩:=hl j y v' e1 e2 e3;refine⟨u',r',?_⟩;rcases q with⟨k,e⟩|⟨k,c,e,z⟩
    .refine .inl ⟨k,?_⟩;have:y≠x:=λe=>hj (F8 hN e1 (e ▸ hi));simp[this,e]
    .exact .inr ⟨k,c,e,z.sameBut hs (oU y c e)⟩
  .obtain⟨w',z⟩:=I.cell y c e;exact⟨w',z.sameBut hs (oU y c e)⟩
  .obtain⟨e,n,ne,nf,d⟩:=I.pin p hp;exact⟨(hs.2 p.1 ne).trans e,n,ne,nf,d⟩
 .have hfn:X.fn x=true:=by
   rcases hf with z|z
   .exact z
   .rw[z]at hk;cases hk
  obtain⟨c,hc⟩:=I.ok.has x (.inl hk);obtain⟨w',z⟩:=I.cell x c hc;refine wpAny_storeName_cell I.ok.kind hk hc z (λh' hc' hs=>?_);obtain⟨oc,hoc,hocd⟩:=id z;refine h {s with heap:=h'} ⟨I.ok,I.os,I.bare,⟨λb o e n hb hx=>?_,λb o e n hb hx=>?_,I.base.free,λb o e hx=>?_,I.base.nG,I.base.nE,I.base.nH⟩,⟨m,hn.sameBut hs (dO (oU x c hc)),λj y v' e1 e2 e3=>?_⟩,λy c' e=>?_,I.free,I.mV,λp hp=>?_,W2 ⟨oc,hoc,I.mV x c hc⟩ hs,by simpa using I.len⟩ ⟨c,hs,.inr hc⟩
  .exact(hs.2 b (dH (dR (dA e) (I.ok.oi x c hfn hc)))).trans (I.base.keep b o e n hb hx)
  .obtain⟨sl,e1⟩:=I.base.slot b o e n hb hx;exact⟨sl,(hs.2 b (dH (dR (dA e) (I.ok.oi x c hfn hc)))).trans e1⟩
  .obtain⟨o',e1⟩:=I.base.there b o e hx;exact⟨o',(hs.2 b (dH (dR (dA e) (I.ok.oi x c hfn hc)))).trans e1⟩
  .by_cases hj:j=i
   .subst hj;rw[hi]at e1;cases e1;rw[fF hiσ]at e2;cases e2;exact⟨u,r,.inr ⟨.inl hk,c,hc,hc'⟩⟩
   .rw[fE (dO hj)]at e2;obtain⟨u',r',q⟩:=hl j y v' e1 e2 e3;refine⟨u',r',?_⟩;rcases q with q|⟨k,c',e,z'⟩
    .exact .inl q
    .refine .inr ⟨k,c',e,z'.sameBut hs ?_⟩
     rintro rfl
     exact hj (F8 hN e1 (I.ok.inj _ _ _ e hc ▸ hi))
  .by_cases Zb:c'=c
   .subst Zb;exact⟨_,hc'⟩
   .obtain⟨w2,z2⟩:=I.cell y c' e;exact⟨w2,z2.sameBut hs Zb⟩
  .obtain⟨e,n,ne,nf,d⟩:=I.pin p hp;refine⟨(hs.2 p.1 ?_).trans e,n,ne,nf,d⟩;intro q;rw[q,hoc]at e;have q':oc=p.2:=dn e;exact d w' (by rw[<-q'];exact hocd)
def B8{M:Model}{A:Ar}{E:Vl->Sd->Prop}{i:Nat}{x:Str}{v:V}{u:Vl}{Q:Unit->Sd->Prop}(I:Inv X WN σ H s)(hN:X.N.Nodup)(hi:X.N[i]?=some x)(hx:KQ X.env.scope x)(r:qH v u) (h:∀s',Inv X WN (σ.set i (some v)) H s'->Q () s') (hf:KO X x:=by first|exact .inl rfl|exact .inr rfl|assumption):wpAny M A (storeName X.env x u) Q E s:=
 DM I hN hi hx r (λs' I' _=>h s' I') hf
def Inv.oF{s':Sd}{ch:List Addr}(I:Inv X WN σ H s)(ho:s'.os=s.os)(u:Un (vS X.stack) ch H H' s.heap s'.heap)(mO:ya X.prog X.w H' s'.heap)(hg:AllBare s'.gens) (XN:∀b∈ch,(b∈X.ex\/X.s₀.heap.objs.size<=b)/\b≠X.env.locals/\(∀x c,X.env.cells.lookup x=some c->c≠b)/\∀p∈X.pn++WN,p.1≠b):Inv X WN σ H' s':=by
 obtain⟨h',g',d',t',o'⟩:=s';have e:o'=s.os:=ho;subst e;exact I.call (g':=g') (t':=t') (d':=d') u mO hg XN
end
abbrev XK:=Vl->Option Addr->Hp->Prop
abbrev St:=List (Option V)
abbrev VK:=V->Hp->Prop
abbrev TE:=St->Hp->VK->Prop
abbrev TT:=St->Hp->(Bool->Hp->Prop)->Prop
abbrev TA:=St->Hp->(List V->Hp->Prop)->Prop
structure EQ where
 nx:St->Hp->Prop
 rt:VK
 bk:St->Hp->Prop:=λ_ _=>False
 ct:St->Hp->Prop:=λ_ _=>False
abbrev TS:=EQ->St->Hp->Prop
def EP(X:Cx)(WN:List (Addr×Obj))(σ:St)(Q:VK)(u:Vl)(s':Sd):Prop:=∃v H',Inv X WN σ H' s'/\qH v u/\Q v H'
def TP(X:Cx)(WN:List (Addr×Obj))(σ:St)(Q:Bool->Hp->Prop)(b:Bool)(s':Sd):Prop:=∃H',Inv X WN σ H' s'/\Q b H'
def AP(X:Cx)(WN:List (Addr×Obj))(σ:St)(Q:List V->Hp->Prop)(us:List Vl)(s':Sd):Prop:=∃vs H',Inv X WN σ H' s'/\qw vs us/\Q vs H'
def SP(X:Cx)(WN:List (Addr×Obj))(D:EQ)(f:Flow)(s':Sd):Prop:=
 match f with
 | .next=>∃σ' H',Inv X WN σ' H' s'/\D.nx σ' H'
 | .brk=>∃σ' H',Inv X WN σ' H' s'/\D.bk σ' H'
 | .cont=>∃σ' H',Inv X WN σ' H' s'/\D.ct σ' H'
 | .ret u=>∃v σ' H',Inv X WN σ' H' s'/\qH v u/\D.rt v H'
def PE(X:Cx)(e:Expr)(t:TE):Prop:=
 ∀(WN:List (Addr×Obj)) (s:Sd) (σ:St) (H:Hp) (Q:VK),Inv X WN σ H s->t σ H Q->wpAny (model X.prog X.w) X.A (eval e X.env) (EP X WN σ Q) X.xe s
def PT(X:Cx)(e:Expr)(t:TT):Prop:=
 ∀(WN:List (Addr×Obj)) (s:Sd) (σ:St) (H:Hp) (Q:Bool->Hp->Prop),Inv X WN σ H s->t σ H Q->wpAny (model X.prog X.w) X.A (isTrue e X.env (eval e X.env)) (TP X WN σ Q) X.xe s
def PW(X:Cx)(e:Expr)(t:TT):Prop:=
 ∀(Xl:Sem Vl) (WN:List (Addr×Obj)) (s:Sd) (σ:St) (H:Hp) (Q:Bool->Hp->Prop),Inv X WN σ H s->t σ H Q->wpAny (model X.prog X.w) X.A (isTrue e X.env Xl) (TP X WN σ Q) X.xe s
def PW.pt{X:Cx}{e:Expr}{t:TT}(h:PW X e t):PT X e t:=h _
def PA(X:Cx)(es:List Expr)(t:TA):Prop:=
 ∀(pos:Pos) (WN:List (Addr×Obj)) (s:Sd) (σ:St) (H:Hp) (Q:List V->Hp->Prop),Inv X WN σ H s->t σ H Q->wpAny (model X.prog X.w) X.A (spliced (backTo pos (starEach es X.env))) (AP X WN σ Q) X.xe s
def PS(X:Cx)(st:Stmt)(t:TS):Prop:=
 ∀(WN:List (Addr×Obj)) (s:Sd) (σ:St) (H:Hp) (D:EQ),Inv X WN σ H s->t D σ H->wpAny (model X.prog X.w) X.A (exec st X.env) (SP X WN D) X.xe s
def BR(X:Cx)(st:List Stmt)(t:TS):Prop:=
 ∀(WN:List (Addr×Obj)) (s:Sd) (σ:St) (H:Hp) (D:EQ),Inv X WN σ H s->t D σ H->wpAny (model X.prog X.w) X.A (execs st X.env) (SP X WN D) X.xe s
def su{α:Type}{t:Sem α}{Q Q':α->Sd->Prop}{M:Model}{A:Ar}{E:Vl->Sd->Prop}{s:Sd}(h:wpAny M A t Q E s)(hQ:∀a s,Q a s->Q' a s):wpAny M A t Q' E s:=eh h hQ λ_ _ x=>x
variable {tA tB':TT}{ta tb:TE}{pos:Pos}
section
def Ii(i:Nat):TE:=λσ H Q=>∃v,σ[i]?=some (some v)/\Q v H
def tC(v:V):TE:=λ_ H Q=>Q v H
def RP{i:Nat}{x:Str}{pos:Pos}(hN:X.N[i]?=some x)(hv:Ul X.env.scope x)(hd:yk x:=by decide)(X1:(x==("__classdict__":Str))=false:=by decide):PE X (.Name x pos) (Ii i):=by
 intro WN s σ H Q I h;obtain⟨v,e,h⟩:=h;obtain⟨m,hn,hl⟩:=I.loc;obtain⟨u,r,l⟩:=hl i x v hN e hv;have WR:EP X WN σ Q u s:=⟨v,H,I,r,h⟩;rcases l with⟨hk,hm⟩|⟨hk,c,hc,hcell⟩
 .exact lT (wpAny_loadName_local I.ok.kind hk hn hm WR) hd
 .rcases hk with hk|hk
  .exact lT (wpAny_loadName_cell I.ok.kind hk hc hcell WR) hd
  .exact lT (wpAny_loadName_free I.ok.kind hk hc hcell WR X1) hd
def RY{i j pos}:PE X (.Constant (.int i) j pos) (tC (.int i)):=λ_ _ _ H _ I h=>wpAny_Constant_int ⟨.int i,H,I.tok _,⟨_,rfl⟩,h⟩
def Td{b j pos}:PE X (.Constant (.bool b) j pos) (tC (.bl b)):=λ_ _ _ H _ I h=>Constant_bool ⟨.bl b,H,I,rfl,h⟩
def Q5{j pos}:PE X (.Constant .none j pos) (tC .mH):=λ_ _ _ H _ I h=>Constant_none ⟨.mH,H,I,rfl,h⟩
def SR{x j pos}:PE X (.Constant (.str x) j pos) (tC (.str x)):=λ_ _ _ H _ I h=>Calls.Constant_str ⟨.str x,H,I.tok _,⟨_,rfl⟩,h⟩
def Gl(X:Cx)(x:Str):Prop:=X.env.kindOf x=some .globalImplicit
def wK{E:Vl->Sd->Prop}{WN:List (Addr×Obj)}{s:Sd}{σ:St}{H:Hp}{x:Str}{u:Vl}{pos:Pos}{Q:Vl->Sd->Prop}(I:Inv X WN σ H s)(hg:Gl X x)(hm:X.mg x=some u)(h:Q u s) (hd:yk x:=by decide):wpAny (model X.prog X.w) X.A (eval (.Name x pos) X.env) Q E s:=
 ji I.ok.kind hg (Calls.loadGlobal_global (by rw[I.ok.glob];exact I.mod.glob.keeps I.bk) hm h) hd
def vO{E:Vl->Sd->Prop}{WN:List (Addr×Obj)}{s:Sd}{σ:St}{H:Hp}{x:Str}{u:Vl}{pos:Pos}{Q:Vl->Sd->Prop}(I:Inv X WN σ H s)(hg:Gl X x)(hm:X.mg x=none)(hv:bootBuiltins x=some u)(h:Q u s) (hn:x≠"__name__":=by decide) (hd:yk x:=by decide):wpAny (model X.prog X.w) X.A (eval (.Name x pos) X.env) Q E s:=by
 obtain⟨mb,h1,h2⟩:=I.mod.blt;exact ji I.ok.kind hg (Calls.loadGlobal_builtin (by rw[I.ok.glob];exact I.mod.glob.keeps I.bk) hm (by rw[I.ok.blt];exact h1.keeps I.bk) ((h2 x hn).trans hv) h) hd
def Be{x:Str}{v:V}{u:Vl}{pos:Pos}(hg:Gl X x)(hm:X.mg x=some u)(r:qH v u)(hd:yk x:=by decide):PE X (.Name x pos) (tC v):=
 λ_ _ _ H _ I h=>wK I hg hm ⟨v,H,I,r,h⟩ hd
def P0{x:Str}{v:V}{u:Vl}{pos:Pos}(hg:Gl X x)(hm:X.mg x=none)(hv:bootBuiltins x=some u)(r:qH v u)(hn:x≠"__name__":=by decide)(hd:yk x:=by decide):PE X (.Name x pos) (tC v):=
 λ_ _ _ H _ I h=>vO I hg hm hv ⟨v,H,I,r,h⟩ hn hd
variable {a b:Expr}
def tB(t:TE):TT:=λσ H Q=>t σ H λx H1=>∃c,x=.bl c/\Q c H1
def Rl{e:Expr}{t:TE}(h:PE X e t)(he:∀Xl,isTrue e X.env Xl=(do let v<-Xl;standAt e.pos;holding [v] (truthy v)):=by intro _;rfl):PT X e (tB t):=by intro WN s σ H Q I hw;refine isTrue_plain (su (h WN s σ H _ I hw) λv s1 zz=>x5 zz λx H1 I1 r1 q1=>?_) (he _);obtain⟨d,rfl,q⟩:=q1;cases r1;exact fi ⟨H1,I1,q⟩
variable {rest:List Expr}
def Vy(t u:TT):TT:=λσ H Q=>t σ H λc H1=>if c=true then u σ H1 Q else Q false H1
def WJ(t u:TT):TT:=λσ H Q=>t σ H λc H1=>if c=true then Q true H1 else u σ H1 Q
def VP(t:TT):TT:=λσ H Q=>t σ H λc H1=>Q (!c) H1
def OL(ha:PT X a tA):PW X (.BoolOp .And [a] pos) tA:=by
 intro wh WN s σ H Q I h;refine isTrue_and (su (ha WN s σ H Q I h) λc s1 e=>?_);cases c with
 | true=>exact isTrue_and_nil e
 | false=>exact e
def R8(ha:PT X a tA):PW X (.BoolOp .Or [a] pos) tA:=by
 intro wh WN s σ H Q I h;refine isTrue_or (su (ha WN s σ H Q I h) λc s1 e=>?_);cases c with
 | false=>exact isTrue_or_nil e
 | true=>exact e
def RF(ha:PT X a tA)(hb:PW X (.BoolOp .And (b::rest) pos) tB'):PW X (.BoolOp .And (a::b::rest) pos) (Vy tA tB'):=by
 intro wh WN s σ H Q I h;refine isTrue_and (su (ha WN s σ H _ I h) λc s1 ⟨H1,I1,q1⟩=>?_);cases c with
 | true=>exact hb wh WN s1 σ H1 Q I1 q1
 | false=>exact⟨H1,I1,q1⟩
def TM(ha:PT X a tA)(hb:PW X (.BoolOp .Or (b::rest) pos) tB'):PW X (.BoolOp .Or (a::b::rest) pos) (WJ tA tB'):=by
 intro wh WN s σ H Q I h;refine isTrue_or (su (ha WN s σ H _ I h) λc s1 ⟨H1,I1,q1⟩=>?_);cases c with
 | true=>exact⟨H1,I1,q1⟩
 | false=>exact hb wh WN s1 σ H1 Q I1 q1
def Rp(ha:PT X a tA):PT X (.UnaryOp .Not a pos) (VP tA):=by intro WN s σ H Q I h;exact isTrue_not (ha WN s σ H (λc H1=>Q (!c) H1) I h)
def TU(ta tb:TE):TE:=λσ H Q=>ta σ H λx H1=>∃c,x=.bl c/\if c=true then tb σ H1 Q else Q (.bl false) H1
def Vn(ta tb:TE):TE:=λσ H Q=>ta σ H λx H1=>∃c,x=.bl c/\if c=true then Q (.bl true) H1 else tb σ H1 Q
def Ui(ta:TE):TE:=λσ H Q=>ta σ H λx H1=>∃c,x=.bl c/\Q (.bl (!c)) H1
def RX{op}{t:TE}(h:PE X a t):PE X (.BoolOp op [a] pos) t:=λWN s σ H Q I hw=>BoolOp_one (h WN s σ H Q I hw)
def Sg(ha:PE X a ta)(hb:PE X (.BoolOp .And (b::rest) pos) tb):PE X (.BoolOp .And (a::b::rest) pos) (TU ta tb):=by
 intro WN s σ H Q I h;refine BoolOp_and (su (ha WN s σ H _ I h) λv s1 zz=>x5 zz λx H1 I1 r1 q1=>?_);obtain⟨c,rfl,q1⟩:=q1;cases r1;refine fi ?_;cases c with
 | true=>exact hb WN s1 σ H1 Q I1 q1
 | false=>exact⟨.bl false,H1,I1,rfl,q1⟩
def T9(ha:PE X a ta)(hb:PE X (.BoolOp .Or (b::rest) pos) tb):PE X (.BoolOp .Or (a::b::rest) pos) (Vn ta tb):=by
 intro WN s σ H Q I h;refine BoolOp_or (su (ha WN s σ H _ I h) λv s1 zz=>x5 zz λx H1 I1 r1 q1=>?_);obtain⟨c,rfl,q1⟩:=q1;cases r1;refine fi ?_;cases c with
 | false=>exact hb WN s1 σ H1 Q I1 q1
 | true=>exact⟨.bl true,H1,I1,rfl,q1⟩
def Sh(ha:PE X a ta):PE X (.UnaryOp .Not a pos) (Ui ta):=by intro WN s σ H Q I h;refine UnaryOp_ (su (ha WN s σ H _ I h) λv s1 zz=>x5 zz λx H1 I1 r1 q1=>?_);obtain⟨c,rfl,q1⟩:=q1;cases r1;exact not_of (fi ⟨.bl (!c),H1,I1,rfl,q1⟩)
def WG(t:TT)(ta tb:TE):TE:=λσ H Q=>t σ H λc H1=>if c=true then ta σ H1 Q else tb σ H1 Q
def MV{c:Expr}(hc:PT X c tA)(ha:PE X a ta)(hb:PE X b tb):PE X (.IfExp c a b pos) (WG tA ta tb):=by
 intro WN s σ H Q I h;refine wpAny_IfExp (su (hc WN s σ H _ I h) λd s1 ⟨H1,I1,q1⟩=>?_);cases d with
 | true=>exact ha WN s1 σ H1 Q I1 q1
 | false=>exact hb WN s1 σ H1 Q I1 q1
end
def yR(K:ql)(H:Hp)(a:Addr)(xs:List V):Prop:=
 Rd H a (.lst xs)\/
  ∃(o:Obj) (its:Array Vl) (n:Nat),K.lookup a=some o/\o.cls=.type "list"/\o.dict=none/\o.data=.seq its n/\its.size<=sizeLine/\qw xs its.toList
def uR(K:ql)(H:Hp)(a:Addr)(xs:List V):Prop:=
 Rd H a (.tup xs)\/
  ∃(o:Obj) (its:Array Vl) (n:Nat),K.lookup a=some o/\o.cls=.type "tuple"/\o.dict=none/\o.data=.seq its n/\its.size<=sizeLine/\qw xs its.toList
def Vc:Vl->Option V
 | .none=>some .mH
 | .bool b=>some (.bl b)
 | .int i _=>some (.int i)
 | .str x _=>some (.str x)
 | .bytes b _=>some (.byt b)
 | .float b _=>some (.flt b)
 | .ref a=>some (.ref a)
 | .type n=>some (.ty n)
 | _=>none
def qH.abs{x:V}{u:Vl}(r:qH x u):Vc u=some x:=by
 cases x with
 | mH=>cases r;rfl
 | bl _=>cases r;rfl
 | int _=>obtain⟨t,rfl⟩:=r;rfl
 | str _=>obtain⟨t,rfl⟩:=r;rfl
 | byt _=>obtain⟨t,rfl⟩:=r;rfl
 | flt _=>obtain⟨t,rfl⟩:=r;rfl
 | ref _=>cases r;rfl
 | ty _=>cases r;rfl
def qH.inj{x y:V}{u:Vl}(r:qH x u)(q:qH y u):x=y:=dn (r.abs.symm.trans q.abs)
theorem qw.inj:∀{xs ys:List V} {us:List Vl},qw xs us->qw ys us->xs=ys
 | _,_,_,.nil,.nil=>rfl
 | _,_,_,.cons r t,.cons r' t'=>by rw[r.inj r',qw.inj t t']
variable {xs ys:List V}
section
variable {σ:St}{a:Addr}
def uR.of{K:ql}(h:H a=some (.tup xs)):uR K H a xs:=.inl (.inl h)
def Inv.list(I:Inv X WN σ H s)(h:yR X.K H a xs):∃its:List Vl,qw xs its/\PlainL s.heap a its.toArray/\xs.length<=sizeLine:=by
 rcases h with h|⟨o,its,n,hk,hc,hd,hs,hz,r⟩
 .obtain⟨z,its,n,r,e⟩:=h.ok I.mO;exact⟨its,r,⟨_,n,e,rfl,rfl,rfl⟩,z⟩
 .refine⟨its.toList,r,⟨o,n,I.mY a o hk,hc,hd,by simpa using hs⟩,?_⟩;have e:=r.length;simp only[ii]at e;omega
def Inv.tuple(I:Inv X WN σ H s)(h:uR X.K H a xs):∃its:List Vl,qw xs its/\IsTup s.heap a its.toArray/\xs.length<=sizeLine:=by
 rcases h with h|⟨o,its,n,hk,hc,hd,hs,hz,r⟩
 .obtain⟨z,its,r,p⟩:=h.ok I.mO;exact⟨its,r,p.is,z⟩
 .refine⟨its.toList,r,⟨o,I.mY a o hk,hc,n,by simpa using hs⟩,?_⟩;have e:=r.length;simp only[ii]at e;omega
def Inv.nM(I:Inv X WN σ H s)(h:yR X.K H a xs)(h':yR X.K H a ys):xs=ys:=by
 obtain⟨its,r,⟨o,n,e,_,_,d⟩,_⟩:=I.list h;obtain⟨its',r',⟨o',n',e',_,_,d'⟩,_⟩:=I.list h';rw[e]at e';cases e';rw[d]at d';injection d' with d1 _
 have:its=its':=by simpa using eY Array.toList d1
 subst this;exact r.inj r'
def Inv.m8(I:Inv X WN σ H s)(h:uR X.K H a xs)(h':uR X.K H a ys):xs=ys:=by
 obtain⟨its,r,⟨o,e,_,n,d⟩,_⟩:=I.tuple h;obtain⟨its',r',⟨o',e',_,n',d'⟩,_⟩:=I.tuple h';rw[e]at e';cases e';rw[d]at d';injection d' with d1 _
 have:its=its':=by simpa using eY Array.toList d1
 subst this;exact r.inj r'
end
abbrev Cx.nF(X:Cx)(E:Vl->Sd->Prop):Cx:={X with xe:=E}
abbrev Cx.ou(X:Cx):Cx:=X.nF λ_ _=>False
def Cx.Ok.nF{X:Cx}(ok:X.Ok)(E:Vl->Sd->Prop):(X.nF E).Ok:=
 ⟨ok.mod,ok.kind,ok.glob,ok.blt,ok.above,ok.inj,ok.has,ok.oi,ok.hd,ok.frames,ok.oC,ok.oR,ok.bs,ok.nW,ok.nL,ok.nR,ok.nu,ok.oa⟩
def Cx.Ok.m7{X:Cx}{E:Vl->Sd->Prop}(ok:(X.nF E).Ok):X.Ok:=
 ⟨ok.mod,ok.kind,ok.glob,ok.blt,ok.above,ok.inj,ok.has,ok.oi,ok.hd,ok.frames,ok.oC,ok.oR,ok.bs,ok.nW,ok.nL,ok.nR,ok.nu,ok.oa⟩
section
variable {σ:St}{E:Vl→Sd→Prop}
def Inv.nF(I:Inv X WN σ H s)(E:Vl->Sd->Prop):Inv (X.nF E) WN σ H s:=⟨I.ok.nF E,I.os,I.bare,I.base,I.loc,I.cell,I.free,I.mV,I.pin,I.mO,I.len⟩
def Inv.m7(I:Inv (X.nF E) WN σ H s):Inv X WN σ H s:=⟨I.ok.m7,I.os,I.bare,I.base,I.loc,I.cell,I.free,I.mV,I.pin,I.mO,I.len⟩
def SP.m7{D:EQ}{f:Flow}{s':Sd}(h:SP (X.nF E) WN D f s'):SP X WN D f s':=by
 cases f with
 | next=>obtain⟨σ',H',I,q⟩:=h;exact⟨σ',H',I.m7,q⟩
 | brk=>obtain⟨σ',H',I,q⟩:=h;exact⟨σ',H',I.m7,q⟩
 | cont=>obtain⟨σ',H',I,q⟩:=h;exact⟨σ',H',I.m7,q⟩
 | ret u=>obtain⟨v,σ',H',I,r,q⟩:=h;exact⟨v,σ',H',I.m7,r,q⟩
def BR.ou{st:List Stmt}{t:TS}(h:BR X.ou st t):BR X st t:=λWN s σ H D I hw=>eh (h WN s σ H D (I.nF _) hw) (λ_ _ q=>q.m7) λ_ _ z=>False.elim z
end
variable {st:Stmt}{u:TS}{te:TE}
section
variable {rest:List Stmt}{t:TS}{e:Expr}
def Ud:TS:=λD σ H=>D.nx σ H
def Vf(t u:TS):TS:=λD σ H=>t {D with nx:=u D} σ H
def Ph:BR X [] Ud:=λ_ _ σ H _ I h=>gN ⟨σ,H,I,h⟩
def Ls(h1:PS X st t)(h2:BR X rest u):BR X (st::rest) (Vf t u):=by
 intro WN s σ H D I h;refine jx (su (h1 WN s σ H {D with nx:=u D} I h) λf s1 q=>?_);cases f with
 | next=>obtain⟨σ',H',I',q⟩:=q;exact h2 WN s1 σ' H' D I' q
 | ret v=>exact q
 | brk=>exact q
 | cont=>exact q
def IU(h1:PS X st t):BR X [st] t:=by
 intro WN s σ H D I h;refine jx (su (h1 WN s σ H D I h) λf s1 q=>?_);cases f with
 | next=>exact gN q
 | ret v=>exact q
 | brk=>exact q
 | cont=>exact q
def Inv.quiet{WN:List (Addr×Obj)}{σ:St}{H:Hp}{s:Sd}(I:Inv X WN σ H s):interactive X.env=false:=by simp[interactive,I.ok.kind]
def TF(te:TE):TS:=λD σ H=>te σ H λ_ H1=>D.nx σ H1
def Pk(he:PE X e te)(hs:swapsWith e none pos.line X.env=pure false:=by rfl):PS X (.Expr e pos) (TF te):=by intro WN s σ H D I h;exact wpAny_Expr_any (su (he WN s σ H _ I h) λv s1 zz=>x5 zz λx H1 I1 r1 q1=>⟨σ,H1,I1,q1⟩) I.quiet hs
def Vt(te:TE):TS:=λD σ H=>te σ H D.rt
def Rz(he:PE X e te):PS X (.Return (some e) pos) (Vt te):=by intro WN s σ H D I h;exact wpAny_Return_some (su (he WN s σ H _ I h) λv s1 zz=>x5 zz λx H1 I1 r1 q1=>⟨x,σ,H1,I1,r1,q1⟩)
def VN(c:TT)(t u:TS):TS:=λD σ H=>c σ H λb H1=>if b=true then t D σ H1 else u D σ H1
def T8{c:Expr}{a b:List Stmt}{tc:TT}(hc:PT X c tc)(ha:BR X a t)(hb:BR X b u):PS X (.If c a b pos) (VN tc t u):=by
 intro WN s σ H D I h;refine wpAny_If (su (hc WN s σ H _ I h) λd s1 ⟨H1,I1,q1⟩=>?_);cases d with
 | true=>exact ha WN s1 σ H1 D I1 q1
 | false=>exact hb WN s1 σ H1 D I1 q1
def RD:TS:=λ_ _ _=>False
def L1:PS X st RD:=λ_ _ _ _ _ _ h=>h.elim
end
abbrev TG:=V->St->Hp->(St->Hp->Prop)->Prop
abbrev OY:=List V->St->Hp->(St->Hp->Prop)->Prop
def PG(X:Cx)(Xh:Expr)(t:TG):Prop:=
 ∀(WN:List (Addr×Obj)) (s:Sd) (σ:St) (H:Hp) (v:V) (u:Vl) (Q:St->Hp->Prop),Inv X WN σ H s->qH v u->t v σ H Q->
  wpAny (model X.prog X.w) X.A (assign Xh X.env u) (λ_ s'=>∃σ' H',Inv X WN σ' H' s'/\Q σ' H') X.xe s
def NJ(X:Cx)(ts:List Expr)(t:OY):Prop:=
 ∀(WN:List (Addr×Obj)) (s:Sd) (σ:St) (H:Hp) (vs:List V) (us:List Vl) (Q:St->Hp->Prop),Inv X WN σ H s->qw vs us->t vs σ H Q->
  wpAny (model X.prog X.w) X.A (assignInOrder ((assignEach ts X.env).map (·.2)) us) (λ_ s'=>∃σ' H',Inv X WN σ' H' s'/\Q σ' H') X.xe s
abbrev QY:=V->V->V->Hp->(Hp->Prop)->Prop
def Th(X:Cx)(t:QY):Prop:=
 ∀(WN:List (Addr×Obj)) (s:Sd) (σ:St) (H:Hp) (o i v:V) (ov iv u:Vl) (Q:Hp->Prop),Inv X WN σ H s->qH o ov->qH i iv->qH v u->t o i v H Q->
  wpAny (model X.prog X.w) X.A (setItem ov iv u) (λ_ s'=>∃H',Inv X WN σ H' s'/\Q H') X.xe s
def MB(i:Nat):TG:=λv σ H Q=>Q (σ.set i (some v)) H
def OH{i:Nat}{x:Str}(hN:X.N.Nodup)(hi:X.N[i]?=some x)(hx:KQ X.env.scope x)(hf:KO X x:=by first|exact .inl rfl|exact .inr rfl|assumption):PG X (.Name x pos) (MB i):=by intro WN s σ H v u Q I r h;exact kW (B8 I hN hi hx r (λs' I'=>⟨_,H,I',h⟩) hf)
def VC:OY:=λvs σ H Q=>vs=[]/\Q σ H
def UA(t:TG)(u:OY):OY:=λvs σ H Q=>∃v r,vs=v::r/\t v σ H λσ' H'=>u r σ' H' Q
def OC:NJ X [] VC:=by intro WN s σ H vs us Q I r h;obtain⟨e,h⟩:=h;subst e;cases r;exact assignInOrder_nil ⟨σ,H,I,h⟩
def KW{e:Expr}{es:List Expr}{t:TG}{u:OY}(h1:PG X e t)(h2:NJ X es u) (hs:(assignEach (e::es) X.env).map (·.2)=assign e X.env::(assignEach es X.env).map (·.2):=by rfl):NJ X (e::es) (UA t u):=by
 intro WN s σ H vs us Q I r h;obtain⟨v,vr,e1,h⟩:=h;subst e1;cases r with
 | cons r rr=>rw[hs];refine assignInOrder_cons (su (h1 WN s σ H _ _ _ I r h) λ_ s1 ⟨σ1,H1,I1,q1⟩=>?_);exact h2 WN s1 σ1 H1 _ _ Q I1 rr q1
def Wa(K:ql)(n:Nat)(t:OY):TG:=λv σ H Q=>∃a xs,v=.ref a/\uR K H a xs/\xs.length=n/\t xs σ H Q
def Q8{es:List Expr}{k:Nat}{t:OY}{n:Nat}(hc:X.calm=true)(h:NJ X es t) (hn:(assignEach es X.env).length=n:=by rfl) (Xc:(assignEach es X.env).findIdx? (·.1)=none:=by rfl):PG X (.Tuple es k pos) (Wa X.K n t):=by
 intro WN s σ H v u Q I r hw;obtain⟨a,xs,e1,hq,hl,hw⟩:=hw;subst e1;cases r;obtain⟨its,rv,ht,hz⟩:=I.tuple hq;refine assign_Tuple_tuple (I.ok.hd hc) ht (by simp[hn,<-hl,rv.length]) Xc λh' hx=>?_;have I1:Inv X WN σ H {s with heap:=h'}:=I.kept (t':=s.toks) λb o e=>hx b o (dH (dA e)) e;exact h WN _ σ H xs _ Q I1 (by simpa using rv) hw
def Vb(to ti:TE)(t:QY):TG:=λv σ H Q=>to σ H λo H1=>ti σ H1 λi H2=>t o i v H2 λH3=>Q σ H3
def Ro{o i:Expr}{to ti:TE}{t:QY}(ho:PE X o to)(hi:PE X i ti)(hs:Th X t) (ha:∀v,assign (.Subscript o i pos) X.env v=(do
   let ov<-holding [v] (eval o X.env);let iv<-holding [v,ov] (eval i X.env)
   standAt pos
   holding [v,ov,iv] (setItem ov iv v)
   release [v,ov,iv] []):=by intro _;rfl):PG X (.Subscript o i pos) (Vb to ti t):=by
 intro WN s σ H v u Q I r h;rw[ha];refine cW (eU (su (ho WN s σ H _ I h) λov s1 zz=>x5 zz λx H1 I1 r1 q1=>?_));refine cW (eU (su (hi WN s1 σ H1 _ I1 q1) λiv s2 zz=>x5 zz λy H2 I2 r2 q2=>?_));refine cW (ie (cW (eU (su (hs WN s2 σ H2 x y v ov iv u _ I2 r1 r2 r q2) λ_ s3 ⟨H3,I3,q3⟩=>?_))));exact wpAny_release ⟨σ,H3,I3,q3⟩
def RQ(te:TE)(g:TG):TS:=λD σ H=>te σ H λx H1=>g x σ H1 D.nx
def Rg{tg e:Expr}{te:TE}{g:TG}(he:PE X e te)(hg:PG X tg g)(hs:swapsWithSole [tg] e pos.line X.env=pure false:=by rfl)(hw:swappedStores [tg] e X.env=pure none:=by rfl)
  (h1:(assignEach [tg] X.env).map (·.2)=[assign tg X.env]:=by rfl):PS X (.Assign [tg] e pos) (RQ te g):=by
 intro WN s σ H D I h;refine wpAny_Assign_stores (su (he WN s σ H _ I h) λv s1 zz=>x5 zz λx H1 I1 r1 q1=>?_) hs hw;rw[h1];exact su (hg WN s1 σ H1 x v _ I1 r1 q1) λ_ s2 q=>q
def Rq{i:Nat}{x:Str}{e:Expr}{te:TE}{WV:Pos}(hN:X.N.Nodup)(hi:X.N[i]?=some x)(hx:KQ X.env.scope x)(he:PE X e te)(hs:swapsWith e (some (.Name x WV)) pos.line X.env=pure false:=by rfl)(hf:KO X x:=by first|exact .inl rfl|exact .inr rfl|assumption):
  PS X (.Assign [.Name x WV] e pos) (RQ te (MB i)):=by
 intro WN s σ H D I h;refine kX (su (he WN s σ H _ I h) λv s1 zz=>x5 zz λy H1 I1 r1 q1=>?_) hs;exact B8 I1 hN hi hx r1 (λs2 I2=>⟨_,H1,I2,q1⟩) hf
def SA(c:TT)(tb:TS):TS:=λD σ H=>∃W:Nat->St->Hp->Prop,(∃m,W m σ H)/\∀m σ H,W m σ H->
 c σ H λb H1=>if b=true then ∃N:St->Hp->Prop,(∀σ' H',N σ' H'->∃m',m'<m/\W m' σ' H')/\tb {D with nx:=N,ct:=N,bk:=D.nx} σ H1 else D.nx σ H1
def Mw{c:Expr}{body:List Stmt}{tc:TT}{tb:TS}(hp:PassesOwn (model X.prog X.w) X.A X.env X.xe)(hc:PT X c tc)(hb:BR X body tb):PS X (.While c body [] pos) (SA tc tb):=by
 intro WN s σ H D I h;obtain⟨W,⟨m0,w0⟩,turn⟩:=h;refine wpAny_While (codeAny_whileLoop (λn s'=>∃σ' H',Inv X WN σ' H' s'/\W n σ' H') ?_ m0 ⟨σ,H,I,w0⟩)
 rintro n s1 ⟨σ1,H1,I1,w1⟩
 refine gC hp (su (hc WN s1 σ1 H1 _ I1 (turn n σ1 H1 w1)) λb s2 ⟨H2,I2,q2⟩=>?_);cases b with
 | true=>
  obtain⟨N,hN,q2⟩:=q2;rw[dg rfl];refine gC hp (su (hb WN s2 σ1 H2 _ I2 q2) λf s3 q3=>?_);cases f with
  | next=>obtain⟨σ3,H3,I3,n3⟩:=q3;obtain⟨m',hm,w3⟩:=hN σ3 H3 n3;exact⟨m',hm,σ3,H3,I3,w3⟩
  | cont=>obtain⟨σ3,H3,I3,n3⟩:=q3;obtain⟨m',hm,w3⟩:=hN σ3 H3 n3;exact⟨m',hm,σ3,H3,I3,w3⟩
  | brk=>exact q3
  | ret v=>exact q3
 | false=>rw[de dB];exact gN ⟨σ1,H2,I2,q2⟩
structure It where
 go:Nat->Hp->Prop
 oN:Nat->Hp->V->Hp->Prop
 stop:Nat->Hp->Prop
def AC(X:Cx)(WN:List (Addr×Obj))(H:Hp)(b:Addr):Prop:=
 H b=none/\b≠X.env.locals/\b∉X.fs/\(b∈X.ex\/X.s₀.heap.objs.size<=b)/\(∀x c,X.env.cells.lookup x=some c->c≠b)/\∀p∈X.pn++WN,p.1≠b
def Inv.nP{X:Cx}{WN:List (Addr×Obj)}{σ:St}{H H':Hp}{s:Sd}{b:Addr}(I:Inv X WN σ H s)(hb:s.heap.objs.size<=b)(hn:H' b=none):AC X WN H' b:=by
 refine⟨hn,gJ (dR I.lt hb),I.oM hb,.inr (dX I.sz hb),λx c e z=>?_,λp hp z=>?_⟩
 .obtain⟨v,q⟩:=I.cell x c e;exact absurd (dR q.lt (by rw[z];exact hb)) (e9 _)
 .exact absurd (dR (dA (I.pin p hp).1) (by rw[z];exact hb)) (e9 _)
structure GM(P:Pg)(w:Wo)(K:ql)(tg:Expr)(J:It)(fp:List Addr)(it:Addr)(tn:Nat->Heap->Prop):Prop where
 mem:it∈fp
 obj:∀i h,tn i h->∀b∈fp,∃o,h.get? b=some o/\∀v,o.data≠.cell v
 keep:∀i h h',tn i h->(∀b∈fp,∀o,h.get? b=some o->h'.get? b=some o)->tn i h'
 item:∀(X:Cx),X.prog=P->X.w=w->X.K=K->X.calm=true->∀(i:Nat) (WN:List (Addr×Obj)) (s:Sd) (σ:St) (H:Hp) (E:Vl->Sd->Prop),Inv X WN σ H s->(∀b∈fp,AC X WN H b)->tn i s.heap->J.go i H->
  wpAny (model P w) X.A (pyNext (.ref it)) (λr s1=>∃u,r=some u/\
   wpAny (model P w) X.A (letOwnedTupleGo tg (.ref it) u) (λ_ s2=>∃x H',Inv X WN σ H' s2/\qH x u/\J.oN i H x H'/\tn (i+1) s2.heap/\∀b∈fp,H' b=none) E s1) E s
 done:∀(X:Cx),X.prog=P->X.w=w->X.K=K->X.calm=true->∀(i:Nat) (WN:List (Addr×Obj)) (s:Sd) (σ:St) (H:Hp) (E:Vl->Sd->Prop),Inv X WN σ H s->(∀b∈fp,AC X WN H b)->tn i s.heap->J.stop i H->
  wpAny (model P w) X.A (pyNext (.ref it)) (λr s1=>r=none/\Inv X WN σ H s1) E s
 self:∀(A:Ar) (i:Nat) (s:Sd) (Q:Vl->Sd->Prop) (E:Vl->Sd->Prop),tn i s.heap->Q (.ref it) s->wpAny (model P w) A (pyIter (.ref it)) Q E s
abbrev TI:=St->Hp->(It->Hp->Prop)->Prop
def Wc(X:Cx)(WN:List (Addr×Obj))(σ:St)(tg:Expr)(R:It->Hp->Prop)(itv:Vl)(s2:Sd):Prop:=
 ∃(it:Addr) (fp:List Addr) (tn:Nat->Heap->Prop) (J:It) (H':Hp),itv=.ref it/\Inv X WN σ H' s2/\GM X.prog X.w X.K tg J fp it tn/\tn 0 s2.heap/\(∀b∈fp,AC X WN H' b)/\R J H'
def PI(X:Cx)(tg iter:Expr)(wi:TI):Prop:=
 ∀(WN:List (Addr×Obj)) (s:Sd) (σ:St) (H:Hp) (R:It->Hp->Prop),Inv X WN σ H s->wi σ H R->
  wpAny (model X.prog X.w) X.A (eval iter X.env) (λv s1=>wpAny (model X.prog X.w) X.A (pyIter v) (Wc X WN σ tg R) X.xe s1) X.xe s
def JH{M:Model}{A:Ar}{E:Vl->Sd->Prop}{s:Sd}{tg:Expr}{it:Addr}{u:Vl}{o:Obj}{n:String}{vs:Array Vl}{Q:Unit->Sd->Prop}(ho:s.heap.get? it=some o)(hc:o.cls=.type n)(hd:o.data=.fields vs) (hn:["enumerate","zip","dict_itemiterator","dict_reverseitemiterator","odict_iterator","itertools.zip_longest","itertools.pairwise"].contains n=false) (hQ:Q () s):wpAny M A (letOwnedTupleGo tg (.ref it) u) Q E s:=by
  unfold letOwnedTupleGo;cases tg<;>first
    | exact dq hQ
    | (cases u<;>first
        | exact dq hQ
        | (refine cW (wpAny_load ho ?_)
           rw[hc,hd];show wpAny M A (if (["enumerate","zip","dict_itemiterator","dict_reverseitemiterator","odict_iterator","itertools.zip_longest","itertools.pairwise"].contains n&&vs[0]?==some (rawInt _))=true then _ else _) Q E s;rw[de (by intro h;rw[hn,eR]at h;cases h)];exact dq hQ))
def UO(K:ql)(a:Addr):It:=
 ⟨λi H=>∃xs x,yR K H a xs/\xs[i]?=some x,λi H x H'=>H'=H/\∀xs,yR K H a xs->xs[i]?=some x,λi H=>∃xs,yR K H a xs/\xs.length<=i⟩
def U9(K:ql)(a:Addr):It:=
 ⟨λi H=>∃xs x,uR K H a xs/\xs[i]?=some x,λi H x H'=>H'=H/\∀xs,uR K H a xs->xs[i]?=some x,λi H=>∃xs,uR K H a xs/\xs.length<=i⟩
def Uk(lo:Int)(n:Nat):It:=⟨λi _=>i<n,λi H x H'=>H'=H/\x=.int (lo+i),λi _=>n<=i⟩
def KL{P:Pg}{w:Wo}{K:ql}{tg:Expr}(a it:Addr):GM P w K tg (UO K a) [it] it (λi h=>h.IsListIter it a i) where
 mem:=by simp
 obj:=λi h st b hb=>by
  have e:b=it:=by simpa using hb
  subst e;obtain⟨o,e,c,d⟩:=st;exact⟨o,e,λv z=>by rw[d]at z;cases z⟩
 keep:=λi h h' st k=>st.at λo e=>k it (by simp) o e
 item:=by intro X hP hw hK hc i WN s σ H E I hf st hg;subst hP hw hK;obtain⟨xs,x,hq,hx⟩:=hg;obtain⟨its,rv,p,hz⟩:=I.list hq;obtain⟨u,hu,ru⟩:=rv.get hx;obtain⟨f0,f1,f2,f3,f4,f5⟩:=hf it (by simp);refine wpAny_pyNext_list_item st p.isList (x:=u) (by simpa using hu) λh' XB sb=>?_;have I1:Inv X WN σ H {s with heap:=h'}:=I.turned (t':=s.toks) (λb o hb e=>(sb.2 b hb).trans e) f0 f1 f3 f4 f5;obtain⟨o,e,c,d⟩:=id XB;exact⟨u,rfl,JH (s:={s with heap:=h'}) e c d (by decide) ⟨x,H,I1,ru,⟨rfl,λys hy=>by rw[I.nM hy hq];exact hx⟩,XB,λb hb=>(hf b hb).1⟩⟩
 done:=by intro X hP hw hK hc i WN s σ H E I hf st hg;subst hP hw hK;obtain⟨xs,hq,hx⟩:=hg;obtain⟨its,rv,p,hz⟩:=I.list hq;obtain⟨f0,f1,f2,f3,f4,f5⟩:=hf it (by simp);have hl:=rv.length;exact wpAny_pyNext_list_end (I.ok.hd hc) st p.isList (by simp;omega) λh' eb=>⟨rfl,I.turned (t':=s.toks) (λb o hb e=>eb b o hb e) f0 f1 f3 f4 f5⟩
 self:=λ_ _ _ _ _ st h=>wpAny_pyIter_listiter st h
def Hx{P:Pg}{w:Wo}{K:ql}{tg:Expr}(a it:Addr):GM P w K tg (U9 K a) [it] it (λi h=>h.IsTupleIter it a i) where
 mem:=by simp
 obj:=λi h st b hb=>by
  have e:b=it:=by simpa using hb
  subst e;obtain⟨o,e,c,d⟩:=st;exact⟨o,e,λv z=>by rw[d]at z;cases z⟩
 keep:=λi h h' st k=>st.at λo e=>k it (by simp) o e
 item:=by intro X hP hw hK hc i WN s σ H E I hf st hg;subst hP hw hK;obtain⟨xs,x,hq,hx⟩:=hg;obtain⟨its,rv,p,hz⟩:=I.tuple hq;obtain⟨u,hu,ru⟩:=rv.get hx;obtain⟨f0,f1,f2,f3,f4,f5⟩:=hf it (by simp);refine wpAny_pyNext_tuple_item st (show s.heap.IsTuple a its.toArray from p) (x:=u) (by simpa using hu) λh' XB sb=>?_;have I1:Inv X WN σ H {s with heap:=h'}:=I.turned (t':=s.toks) (λb o hb e=>(sb.2 b hb).trans e) f0 f1 f3 f4 f5;obtain⟨o,e,c,d⟩:=id XB;exact⟨u,rfl,JH (s:={s with heap:=h'}) e c d (by decide) ⟨x,H,I1,ru,⟨rfl,λys hy=>by rw[I.m8 hy hq];exact hx⟩,XB,λb hb=>(hf b hb).1⟩⟩
 done:=by intro X hP hw hK hc i WN s σ H E I hf st hg;subst hP hw hK;obtain⟨xs,hq,hx⟩:=hg;obtain⟨its,rv,p,hz⟩:=I.tuple hq;obtain⟨f0,f1,f2,f3,f4,f5⟩:=hf it (by simp);have hl:=rv.length;exact wpAny_pyNext_tuple_end (I.ok.hd hc) st (show s.heap.IsTuple a its.toArray from p) (by simp;omega) λh' eb=>⟨rfl,I.turned (t':=s.toks) (λb o hb e=>eb b o hb e) f0 f1 f3 f4 f5⟩
 self:=λ_ _ _ _ _ st h=>wpAny_pyIter_tupleiter st h
def HJ{P:Pg}{w:Wo}{K:ql}{tg:Expr}(it:Addr)(lo:Int)(n:Nat):GM P w K tg (Uk lo n) [it] it (λi h=>IsRangeIter h it (lo+(i:Nat)*1) ((n:Int) - (i:Nat)) 1) where
 mem:=by simp
 obj:=λi h st b hb=>by
  have e:b=it:=by simpa using hb
  subst e;exact⟨_,st,λv z=>by
   have z':Data.fields _=Data.cell v:=z;cases z'⟩
 keep:=λi h h' st k=>k it (by simp) _ st
 item:=by intro X hP hw hK hc i WN s σ H E I hf st hg;subst hP hw hK;obtain⟨f0,f1,f2,f3,f4,f5⟩:=hf it (by simp);have W:=Walks.range (prog:=X.prog) (w:=X.w) (I.ok.hd hc) it lo 1 n;refine W.item i s _ _ hg st λv h' tk hv XB kk=>?_;obtain⟨t,rfl⟩:=hv;have I1:Inv X WN σ H {s with heap:=h',toks:=tk}:=I.turned (λb o hb e=>kk b o (by simpa using hb) e) f0 f1 f3 f4 f5;refine⟨_,rfl,JH (s:={s with heap:=h',toks:=tk}) (n:="range_iterator") XB rfl rfl (by decide) ⟨.int (lo+i),H,I1,⟨t,?_⟩,⟨rfl,rfl⟩,XB,λb hb=>(hf b hb).1⟩⟩;rw[Int.mul_one]
 done:=by intro X hP hw hK hc i WN s σ H E I hf st hg;subst hP hw hK;obtain⟨f0,f1,f2,f3,f4,f5⟩:=hf it (by simp);exact wpAny_pyNext_range_end (I.ok.hd hc) st (by have:n<=i:=hg;omega) λh' eb=>⟨rfl,I.turned (t':=s.toks) (λb o hb e=>eb b o hb e) f0 f1 f3 f4 f5⟩
 self:=λ_ _ _ _ _ st h=>wpAny_pyIter_rangeiter st h
variable {tg:Expr}
def G5{WN:List (Addr×Obj)}{σ:St}{H:Hp}{s:Sd}{R:It->Hp->Prop}{E:Vl->Sd->Prop}{lo hi:Int}{t u v:Tok}{tk:Nat}(I:Inv X WN σ H s)(h1:-(2 ^ 62)<=lo)(h2:lo<2 ^ 62)(h3:-(2 ^ 62)<=hi)(h4:hi<2 ^ 62) (q:R (Uk lo (hi - lo).toNat) H):wpAny (model X.prog X.w) X.A (pyIter (.ref s.heap.objs.size)) (Wc X WN σ tg R) E {s with heap:=s.heap.push {cls:=.type "range",data:=.fields #[.int lo t,.int hi u,.int 1 v]},toks:=tk}:=by
 refine wpAny_pyIter_range (IsRange.new ..) (small_one h1 h2 h3 h4) ?_;have I1:Inv X WN σ H {s with heap:=s.heap.push {cls:=.type "range",data:=.fields #[.int lo t,.int hi u,.int 1 v]},toks:=tk}:=I.kept λb o e=>df _ e;refine⟨(s.heap.push {cls:=.type "range",data:=.fields #[.int lo t,.int hi u,.int 1 v]}).objs.size,[(s.heap.push {cls:=.type "range",data:=.fields #[.int lo t,.int hi u,.int 1 v]}).objs.size],_,_,H,rfl,I1.kept (t':=tk) λb o e=>df _ e,HJ _ lo (hi - lo).toNat,?_,λb hb=>?_,q⟩
 .have e1:lo+((0:Nat):Int)*1=lo:=by simp
  have e2:(((hi - lo).toNat:Nat):Int) - ((0:Nat):Int)=Builtin.Range.rangeSize lo hi 1:=by rw[rangeSize_one];split<;>omega
  show IsRangeIter _ _ (lo+((0:Nat):Int)*1) ((((hi - lo).toNat:Nat):Int) - ((0:Nat):Int)) 1;rw[e1,e2];exact dG _ rfl
 .have e:b=(s.heap.push {cls:=.type "range",data:=.fields #[.int lo t,.int hi u,.int 1 v]}).objs.size:=by simpa using hb
  subst e;exact I1.nP (dw _) (I1.mO.fresh (dw _))
def UB(ta:TA):TI:=λσ H R=>ta σ H λvs H1=>∃j:Int,vs=[.int j]/\-(2 ^ 62)<=j/\j<2 ^ 62/\R (Uk 0 j.toNat) H1
def Tr(ta:TA):TI:=λσ H R=>ta σ H λvs H1=>∃i j:Int,vs=[.int i,.int j]/\(-(2 ^ 62)<=i/\i<2 ^ 62/\-(2 ^ 62)<=j/\j<2 ^ 62)/\R (Uk i (j - i).toNat) H1
def J3{a:Expr}{ta:TA}{p pos:Pos}(hg:Gl X "range")(hm:X.mg "range"=none)(ha:PA X [a] ta)(hs:starEach [a] X.env=[(false,eval a X.env)]:=by rfl):PI X tg (.Call (.Name "range" p) [a] [] pos) (UB ta):=by
 intro WN s σ H R I h;refine Call_ (vO I hg hm boot_range (fL (su (ha pos WN s σ H _ I h) λus s1 zz=>x5 zz λvs H1 I1 r1 q1=>?_) hs rfl));obtain⟨j,e,q1,q2,q⟩:=q1;subst e;cases r1 with
 | cons r rr=>cases rr;obtain⟨t,rfl⟩:=r;exact call_range_1 (G5 I1 (by omega) (by omega) q1 q2 (by simpa using q))
def J1{a b:Expr}{ta:TA}{p pos:Pos}(hg:Gl X "range")(hm:X.mg "range"=none)(ha:PA X [a,b] ta)(hs:starEach [a,b] X.env=[(false,eval a X.env),(false,eval b X.env)]:=by rfl)(XY:starEach [b] X.env=[(false,eval b X.env)]:=by rfl):
  PI X tg (.Call (.Name "range" p) [a,b] [] pos) (Tr ta):=by
 intro WN s σ H R I h;refine Call_ (vO I hg hm boot_range (fL (su (ha pos WN s σ H _ I h) λus s1 zz=>x5 zz λvs H1 I1 r1 q1=>?_) (by rw[hs,XY]) (by rw[XY];rfl)));obtain⟨i,j,e,⟨q1,q2,q3,q4⟩,q⟩:=q1;subst e;cases r1 with
 | cons r rr=>
  cases rr with
  | cons r' rr=>cases rr;obtain⟨t,rfl⟩:=r;obtain⟨t',rfl⟩:=r';exact call_range_2 (G5 I1 q1 q2 q3 q4 q)
def VH(wi:TI)(g:TG)(tb:TS):TS:=λD σ H=>wi σ H λJ H1=>∃W:Nat->Nat->St->Hp->Prop,(∃m,W 0 m σ H1)/\∀i m σ H,W i m σ H->
 (J.stop i H/\D.nx σ H)\/(J.go i H/\∃N:St->Hp->Prop,(∀σ' H',N σ' H'->∃m',m'<m/\W (i+1) m' σ' H')/\∀x H',J.oN i H x H'->g x σ H' λσ2 H2=>tb {D with nx:=N,ct:=N,bk:=D.nx} σ2 H2)
def Bm(fp:List Addr)(h:Heap):List (Addr×Obj):=fp.filterMap λb=>(h.get? b).map λo=>(b,o)
def ve{fp:List Addr}{h:Heap}{b:Addr}{o:Obj}(hb:b∈fp)(e:h.get? b=some o):(b,o)∈Bm fp h:=kH.mpr ⟨b,hb,by rw[e];rfl⟩
def Ka{fp:List Addr}{h:Heap}{p:Addr×Obj}(hp:p∈Bm fp h):p.1∈fp/\h.get? p.1=some p.2:=by
 obtain⟨b,hb,e⟩:=kH.mp hp;cases q:h.get? b with
 | none=>rw[q]at e;cases e
 | some o=>rw[q]at e;have e':(b,o)=p:=dn e;subst e';exact⟨hb,q⟩
def Inv.pinned{WN:List (Addr×Obj)}{σ:St}{H:Hp}{s:Sd}{fp:List Addr}(I:Inv X WN σ H s)(hf:∀b∈fp,AC X WN H b)(ho:∀b∈fp,∃o,s.heap.get? b=some o/\∀v,o.data≠.cell v):Inv X (WN++Bm fp s.heap) σ H s:=
 I.nJ λp hp=>(dU.mp hp).elim (λz=>I.pin p (eD _ z)) λz=>by obtain⟨hb,e⟩:=Ka z;obtain⟨f0,f1,f2,_⟩:=hf p.1 hb;obtain⟨o,e',d⟩:=ho p.1 hb;rw[e]at e';cases e';exact⟨e,f0,f1,f2,d⟩
def Inv.mU{WN pl:List (Addr×Obj)}{σ:St}{H:Hp}{s:Sd}(I:Inv X (WN++pl) σ H s):Inv X WN σ H s:=I.nJ λp hp=>I.pin p (eD _ (fD _ hp))
def Q3{iter:Expr}{body:List Stmt}{wi:TI}{g:TG}{tb:TS}{pos:Pos}(hp:PassesOwn (model X.prog X.w) X.A X.env X.xe)(hc:X.calm=true)(hi:PI X tg iter wi)(hg:PG X tg g)(hb:BR X body tb) (hs:∀x,foldedSetIterable iter X.env x=pure x:=by intro _;rfl):PS X (.For tg iter body [] pos) (VH wi g tb):=by
 intro WN s σ H D I h;refine wpAny_For (su (hi WN s σ H _ I h) λv s1 h1=>su h1 λitv s2 h2=>?_) hs;obtain⟨it,fp,tn,J,H2,e,I2,T,W8,f2,W,⟨m0,w0⟩,turn⟩:=h2;subst e;have X2:∀{H':Hp},(∀b∈fp,H' b=none)->∀b∈fp,AC X WN H' b:=λhn b hb=>⟨hn b hb,(f2 b hb).2⟩;refine codeAny_forLoop_any (λn s'=>∃i σ' H',Inv X WN σ' H' s'/\tn i s'.heap/\(∀b∈fp,H' b=none)/\W i n σ' H') ?_ m0 ⟨0,σ,H2,I2,W8,λb hb=>(f2 b hb).1,w0⟩
 rintro n s3 ⟨i,σ3,H3,I3,XC,fr3,w3⟩
 rcases turn i n σ3 H3 w3 with⟨stop,qn⟩|⟨go,N,hN,step⟩
 .refine gC hp (su (T.done X rfl rfl rfl hc i WN s3 σ3 H3 X.xe I3 (X2 fr3) XC stop) λr s4 ⟨hr,I4⟩=>?_);subst hr;exact gN ⟨σ3,H3,I4,qn⟩
 .refine gC hp (su (T.item X rfl rfl rfl hc i WN s3 σ3 H3 X.xe I3 (X2 fr3) XC go) λr s4 ⟨u,hr,h4⟩=>?_);subst hr;refine gC hp (su h4 λ_ s5 zz=>?_);obtain⟨x,H5,I5,r5,y5,Zc,fr5⟩:=zz;have I5':=I5.pinned (X2 fr5) (T.obj _ _ Zc);refine gC hp (su (hg _ s5 σ3 H5 x u _ I5' r5 (step x H5 y5)) λ_ s6 ⟨σ6,H6,I6,q6⟩=>?_);refine gC hp (su (hb _ s6 σ6 H6 _ I6 q6) λf s7 q7=>?_);have again:∀{σ7:St} {H7:Hp},Inv X (WN++Bm fp s5.heap) σ7 H7 s7->N σ7 H7->∃m,m<n/\∃i σ' H',Inv X WN σ' H' s7/\tn i s7.heap/\(∀b∈fp,H' b=none)/\W i m σ' H':=λ{σ7 H7} I7 n7=>by obtain⟨m',hm,w7⟩:=hN σ7 H7 n7;refine⟨m',hm,i+1,σ7,H7,I7.mU,T.keep _ _ _ Zc λb hb o e=>(I7.pin (b,o) (eD _ (eD _ (ve hb e)))).1,λb hb=>?_,w7⟩;obtain⟨o,e,d⟩:=T.obj _ _ Zc b hb;exact(I7.pin (b,o) (eD _ (eD _ (ve hb e)))).2.1
  cases f with
  | next=>obtain⟨σ7,H7,I7,n7⟩:=q7;exact again I7 n7
  | cont=>obtain⟨σ7,H7,I7,n7⟩:=q7;exact again I7 n7
  | brk=>obtain⟨σ7,H7,I7,q7⟩:=q7;exact⟨σ7,H7,I7.mU,q7⟩
  | ret v=>obtain⟨x7,σ7,H7,I7,r7,q7⟩:=q7;exact⟨x7,σ7,H7,I7.mU,r7,q7⟩
abbrev R2:=V->V->Hp->VK->Prop
def xg(X:Cx)(f:Vl->Vl->Sem Vl)(r:R2):Prop:=
 ∀(WN:List (Addr×Obj)) (s:Sd) (σ:St) (H:Hp) (x y:V) (v u:Vl) (Q:VK),Inv X WN σ H s->qH x v->qH y u->r x y H Q->
  wpAny (model X.prog X.w) X.A (f v u) (EP X WN σ Q) X.xe s
def Wb(X:Cx)(f:Vl->Sem Vl)(r:V->Hp->VK->Prop):Prop:=
 ∀(WN:List (Addr×Obj)) (s:Sd) (σ:St) (H:Hp) (x:V) (v:Vl) (Q:VK),Inv X WN σ H s->qH x v->r x H Q->
  wpAny (model X.prog X.w) X.A (f v) (EP X WN σ Q) X.xe s
def zq(X:Cx)(f:Vl)(r:List V->Hp->VK->Prop):Prop:=
 ∀(WN:List (Addr×Obj)) (s:Sd) (σ:St) (H:Hp) (xs:List V) (us:List Vl) (Q:VK),Inv X WN σ H s->qw xs us->r xs H Q->
  wpAny (model X.prog X.w) X.A (call f us) (EP X WN σ Q) X.xe s
def Tc(r:R2)(ta tb:TE):TE:=λσ H Q=>ta σ H λx H1=>tb σ H1 λy H2=>r x y H2 Q
def WB(r:V->Hp->VK->Prop)(ta:TE):TE:=λσ H Q=>ta σ H λx H1=>r x H1 Q
def rI(C:Int->Int->Prop)(g:Int->Int->V):R2:=λx y H Q=>∃i j,x=.int i/\y=.int j/\C i j/\Q (g i j) H
def QN(g:Int->Int->V):R2:=λx y H Q=>∃i j,x=.int i/\y=.int j/\Q (g i j) H
def rU(g:Int->V):V->Hp->VK->Prop:=λx H Q=>∃i,x=.int i/\Q (g i) H
variable {tc:TE}
section
variable {a b c:Expr}
def Sk(ha:PE X a ta)(hb:PE X b tb){WN:List (Addr×Obj)}{s:Sd}{σ:St}{H:Hp}{R:V->V->Hp->Prop}(I:Inv X WN σ H s) (h:ta σ H λx H1=>tb σ H1 λy H2=>R x y H2) {Q:Vl->Sd->Prop} {f:Vl->Vl->Sem Vl} (hf:∀v u s2 x y H2,Inv X WN σ H2 s2->qH x v->qH y u->R x y H2->wpAny (model X.prog X.w) X.A (f v u) Q X.xe s2):
  wpAny (model X.prog X.w) X.A (eval a X.env) (λv s₁=>wpAny (model X.prog X.w) X.A (eval b X.env) (λu s₂=>wpAny (model X.prog X.w) X.A (f v u) Q X.xe s₂) X.xe s₁) X.xe s:=by
 refine su (ha WN s σ H _ I h) λv s1 zz=>x5 zz λx H1 I1 r1 q1=>?_;refine su (hb WN s1 σ H1 _ I1 q1) λu s2 zz=>x5 zz λy H2 I2 r2 q2=>?_;exact hf v u s2 x y H2 I2 r1 r2 q2
def QO{op:Operator}{r:R2}(ho:xg X (binaryOp op) r)(ha:PE X a ta)(hb:PE X b tb):PE X (.BinOp a op b pos) (Tc r ta tb):=by intro WN s σ H Q I h;exact wpAny_BinOp (Sk ha hb I h λv u s2 x y H2 I2 rx ry q=>ho WN s2 σ H2 x y v u Q I2 rx ry q)
def Ti{op:UnaryOp}{r:V->Hp->VK->Prop}(ho:Wb X (unaryOp op) r)(ha:PE X a ta):PE X (.UnaryOp op a pos) (WB r ta):=by intro WN s σ H Q I h;exact UnaryOp_ (su (ha WN s σ H _ I h) λv s1 zz=>x5 zz λx H1 I1 r1 q1=>ho WN s1 σ H1 x v Q I1 r1 q1)
def V5{f:Vl->Vl->Sem Vl}{C:Int->Int->Prop}{g:Int->Int->Int} (rule:∀(i j:Int) (t u:Tok) (s:Sd) (Q:Vl->Sd->Prop) (E:Vl->Sd->Prop),C i j->Q (.int (g i j) s.toks) {s with toks:=s.toks+1}->wpAny (model X.prog X.w) X.A (f (.int i t) (.int j u)) Q E s):
  xg X f (rI C λi j=>.int (g i j)):=by
 intro WN s σ H x y v u Q I rx ry h;obtain⟨i,j,rfl,rfl,hc,q⟩:=h;obtain⟨t,rfl⟩:=rx;obtain⟨t',rfl⟩:=ry;exact rule i j t t' s _ _ hc ⟨.int (g i j),H,I.tok _,⟨_,rfl⟩,q⟩
def Uo{f:Vl->Vl->Sem Vl}{g:Int->Int->Int} (rule:∀(i j:Int) (t u:Tok) (s:Sd) (Q:Vl->Sd->Prop) (E:Vl->Sd->Prop),Q (.int (g i j) s.toks) {s with toks:=s.toks+1}->wpAny (model X.prog X.w) X.A (f (.int i t) (.int j u)) Q E s):
  xg X f (QN λi j=>.int (g i j)):=by
 intro WN s σ H x y v u Q I rx ry h;obtain⟨i,j,rfl,rfl,q⟩:=h;obtain⟨t,rfl⟩:=rx;obtain⟨t',rfl⟩:=ry;exact rule i j t t' s _ _ ⟨.int (g i j),H,I.tok _,⟨_,rfl⟩,q⟩
def Ot{f:Vl->Vl->Sem Vl}{g:Int->Int->Bool} (rule:∀(i j:Int) (t u:Tok) (s:Sd) (Q:Vl->Sd->Prop) (E:Vl->Sd->Prop),Q (.bool (g i j)) s->wpAny (model X.prog X.w) X.A (f (.int i t) (.int j u)) Q E s):
  xg X f (QN λi j=>.bl (g i j)):=by
 intro WN s σ H x y v u Q I rx ry h;obtain⟨i,j,rfl,rfl,q⟩:=h;obtain⟨t,rfl⟩:=rx;obtain⟨t',rfl⟩:=ry;exact rule i j t t' s _ _ ⟨.bl (g i j),H,I,rfl,q⟩
def TJ(i j:Int):Prop:=0<j/\j<1073741824
def CZ(i j:Int):Prop:=(-(2 ^ 64)<i/\i<2 ^ 64)\/(-(2 ^ 64)<j/\j<2 ^ 64)
def CZ.ok{i j:Int}(h:CZ i j):IntMulOk i j:=by
 rcases h with⟨h1,h2⟩|⟨h1,h2⟩
 .exact .of_left (intBits_le_64 h1 h2)
 .exact .of_right (intBits_le_64 h1 h2)
def Ss:xg X (binaryOp .Add) (QN λi j=>.int (i+j)):=Uo λ_ _ _ _ _ _ _ q=>add_int q
def Q2:xg X (binaryOp .Sub) (QN λi j=>.int (i - j)):=Uo λ_ _ _ _ _ _ _ q=>sub_int q
def Q1:xg X (binaryOp .Mult) (rI CZ λi j=>.int (i*j)):=V5 λ_ _ _ _ _ _ _ hc q=>mul_int q hc.ok
def OK:xg X (binaryOp .FloorDiv) (rI TJ λi j=>.int (i / j)):=V5 λi j _ _ _ _ _ hc q=>by have h1:(0:Int)<j:=hc.1;have h2:j<1073741824:=hc.2;exact floordiv_int (by omega) (by rw[Int.fdiv_eq_ediv_of_nonneg i (by omega)];exact q) (.inl (PyProof.noPylong_small (by omega)))
def QX:xg X (binaryOp .Mod) (rI (λ_ j=>0<j) λi j=>.int (i % j)):=V5 λi j _ _ _ _ _ hc q=>by have h1:(0:Int)<j:=hc;exact mod_int' (by omega) (by rw[Int.fmod_eq_emod_of_nonneg i (by omega)];exact q)
def WE{f:Vl->Sem Vl}{g:Int->Int} (rule:∀(i:Int) (t:Tok) (s:Sd) (Q:Vl->Sd->Prop) (E:Vl->Sd->Prop),Q (.int (g i) s.toks) {s with toks:=s.toks+1}->wpAny (model X.prog X.w) X.A (f (.int i t)) Q E s):
  Wb X f (rU λi=>.int (g i)):=by
 intro WN s σ H x v Q I rx h;obtain⟨i,rfl,q⟩:=h;obtain⟨t,rfl⟩:=rx;exact rule i t s _ _ ⟨.int (g i),H,I.tok _,⟨_,rfl⟩,q⟩
def QS:Wb X (unaryOp .USub) (rU λi=>.int (-i)):=WE λ_ _ _ _ _ q=>neg_int q
end
section
variable {a b c:Expr}
def Ig{WN:List (Addr×Obj)}{σ:St}{H:Hp}{s:Sd}{Q:VK}{k k':Bool}(I:Inv X WN σ H s)(q:Q (.bl k) H)(e:k=k'):EP X WN σ Q (.bool k') s:=by subst e;exact⟨.bl k,H,I,rfl,q⟩
def Ta:xg X (compareOp .Lt) (QN λi j=>.bl (decide (i<j))):=Ot λ_ _ _ _ _ _ _ q=>lt_int q
def Ua:xg X (compareOp .LtE) (QN λi j=>.bl (decide (i<=j))):=Ot λ_ _ _ _ _ _ _ q=>le_int q
def Ue:xg X (compareOp .Gt) (QN λi j=>.bl (decide (j<i))):=Ot λ_ _ _ _ _ _ _ q=>gt_int q
def Te:xg X (compareOp .GtE) (QN λi j=>.bl (decide (j<=i))):=Ot λ_ _ _ _ _ _ _ q=>ge_int q
def Kj:xg X (compareOp .In) (λx y H Q=>∃i j,x=.str i/\y=.str j/\Q (.bl (!(Builtin.Str.occurrences j i 0 j.length 1).isEmpty)) H):=by intro WN s σ H x y v u Q I rx ry h;obtain⟨i,j,rfl,rfl,q⟩:=h;obtain⟨t,rfl⟩:=rx;obtain⟨t',rfl⟩:=ry;exact in_str (Ig I q rfl)
def SE:xg X (compareOp .Is) (λx y H Q=>y=.mH/\Q (.bl (decide (x=.mH))) H):=by
 intro WN s σ H x y v u Q I rx ry h;obtain⟨rfl,q⟩:=h;cases ry;refine is_none_gen (Ig I q ?_);cases x<;>first
  | (cases rx;rfl)
  | (obtain⟨t,rfl⟩:=rx;rfl)
def NX:xg X (compareOp .IsNot) (λx y H Q=>y=.mH/\Q (.bl (!decide (x=.mH))) H):=by
 intro WN s σ H x y v u Q I rx ry h;obtain⟨rfl,q⟩:=h;cases ry;refine isnot_none_gen (Ig I q ?_);cases x<;>first
  | (cases rx;rfl)
  | (obtain⟨t,rfl⟩:=rx;rfl)
def HY(b:Expr){op:CmpOp}(h:op≠.In:=by decide)(h2:op≠.NotIn:=by decide):behindInMarks op b=false:=by
 have e1:(op==CmpOp.In)=false:=by cases op<;>first|rfl|exact absurd rfl h
 have e2:(op==CmpOp.NotIn)=false:=by cases op<;>first|rfl|exact absurd rfl h2
 cases b<;>simp[behindInMarks,e1,e2]
def Jo{op:CmpOp}{r:R2}(ho:xg X (compareOp op) r)(ha:PE X a ta)(hb:PE X b tb)(hm:behindInMarks op b=false):PE X (.Compare a [op] [b] pos) (Tc r ta tb):=by intro WN s σ H Q I h;exact wpAny_Compare1 (Sk ha hb I h λv u s2 x y H2 I2 rx ry q=>ho WN s2 σ H2 x y v u Q I2 rx ry q) hm
def Qy(t:TE):TT:=λσ H Q=>t σ H λx H'=>∃k,x=.bl k/\Q k H'
def IX{op:CmpOp}{r:R2}(ho:xg X (compareOp op) r)(ha:PE X a ta)(hb:PE X b tb)(hm:behindInMarks op b=false):PT X (.Compare a [op] [b] pos) (Qy (Tc r ta tb)):=by
 intro WN s σ H Q I h;refine wpAny_isTrue_Compare1 (su (ha WN s σ H _ I h) λv s1 zz=>x5 zz λx H1 I1 r1 q1=>su (hb WN s1 σ H1 _ I1 q1) λu s2 zz=>x5 zz λy H2 I2 r2 q2=>
  su (ho WN s2 σ H2 x y v u _ I2 r1 r2 q2) λc s3 zz=>?_) hm
 obtain⟨z,H3,I3,r3,k,e,q3⟩:=zz;subst e;cases r3;exact fi ⟨H3,I3,q3⟩
def MC(r r':R2)(ta tb tc:TE):TE:=λσ H Q=>ta σ H λx H1=>tb σ H1 λy H2=>r x y H2 λz H3=>∃k,z=.bl k/\
 (if k=true then tc σ H3 λw' H4=>r' y w' H4 Q else Q (.bl false) H3)
def MI{op XD:CmpOp}{r r':R2}(ho:xg X (compareOp op) r)(Xr:xg X (compareOp XD) r')(ha:PE X a ta)(hb:PE X b tb)(hc:PE X c tc) (hm:lastMarks [op,XD] [b,c]=false:=by with_unfolding_all rfl):PE X (.Compare a [op,XD] [b,c] pos) (MC r r' ta tb tc):=by
 intro WN s σ H Q I h;refine Compare_chain (su (ha WN s σ H _ I h) λv s1 zz=>x5 zz λx H1 I1 r1 q1=>chain_link (su (hb WN s1 σ H1 _ I1 q1) λu s2 zz=>x5 zz λy H2 I2 r2 q2=>
  su (ho WN s2 σ H2 x y v u _ I2 r1 r2 q2) λd s3 zz=>?_)) hm
 obtain⟨z,H3,I3,r3,k,e,q3⟩:=zz;subst e;cases r3;refine fi ?_;cases k with
 | false=>exact ite_ff ⟨.bl false,H3,I3,rfl,q3⟩
 | true=>exact ite_tt (chain_last (su (hc WN s3 σ H3 _ I3 q3) λw' s4 zz=>x5 zz λz' H4 I4 r4 q4=>Xr WN s4 σ H4 y z' u w' Q I4 r2 r4 q4))
def Nr{op XD:CmpOp}{r r':R2}(ho:xg X (compareOp op) r)(Xr:xg X (compareOp XD) r')(ha:PE X a ta)(hb:PE X b tb)(hc:PE X c tc) (hm:lastMarks [op,XD] [b,c]=false:=by with_unfolding_all rfl):PT X (.Compare a [op,XD] [b,c] pos) (Qy (MC r r' ta tb tc)):=by
 intro WN s σ H Q I h;refine isTrue_chain (su (ha WN s σ H _ I h) λv s1 zz=>x5 zz λx H1 I1 r1 q1=>test_link (su (hb WN s1 σ H1 _ I1 q1) λu s2 zz=>x5 zz λy H2 I2 r2 q2=>
  su (ho WN s2 σ H2 x y v u _ I2 r1 r2 q2) λd s3 zz=>?_)) hm
 obtain⟨z,H3,I3,r3,k,e,q3⟩:=zz;subst e;cases r3;refine fi ?_;cases k with
 | false=>obtain⟨k',e',q'⟩:=q3;cases e';exact ite_ff ⟨H3,I3,q'⟩
 | true=>refine ite_tt (test_last (su (hc WN s3 σ H3 _ I3 q3) λw' s4 zz=>x5 zz λz' H4 I4 r4 q4=>su (Xr WN s4 σ H4 y z' u w' _ I4 r2 r4 q4) λd' s5 zz=>?_));obtain⟨z2,H5,I5,r5,k2,e2,q5⟩:=zz;subst e2;cases r5;exact fi ⟨H5,I5,q5⟩
def yo:(sizeLine:Nat)<2 ^ 63:=by rw[dM];decide
def G':xg X (binaryOp .Add) (λx y H Q=>∃i j,x=.str i/\y=.str j/\i.length+j.length<=sizeLine/\Q (.str (i++j)) H):=by intro WN s σ H x y v u Q I rx ry h;obtain⟨i,j,rfl,rfl,hz,q⟩:=h;obtain⟨t,rfl⟩:=rx;obtain⟨t',rfl⟩:=ry;exact add_str (λt' tk=>⟨.str (i++j),H,I.tok _,⟨_,rfl⟩,q⟩) hz
def ye{x:V}{us:List Vl}(r:qw [x] us):∃u,us=[u]/\qH x u:=by
 cases r with
 | cons r1 r2=>cases r2;exact⟨_,rfl,r1⟩
def MF{x y:V}{us:List Vl}(r:qw [x,y] us):∃u w',us=[u,w']/\qH x u/\qH y w':=by
 cases r with
 | cons r1 r2=>
  cases r2 with
  | cons r3 r4=>cases r4;exact⟨_,_,rfl,r1,r3⟩
def Kw(hc:X.calm=true):zq X (.builtin "min") (λxs H Q=>∃i j,xs=[.int i,.int j]/\Q (.int (if j<i then j else i)) H):=by
 intro WN s σ H xs us Q I r h;obtain⟨i,j,rfl,q⟩:=h;obtain⟨u,w',rfl,⟨t,rfl⟩,⟨t',rfl⟩⟩:=MF r;refine min_two_ints (I.ok.hd hc) λh' tk k=>⟨_,H,I.kept k,?_,q⟩;by_cases hj:j<i
 .rw[dg hj,dg hj];exact⟨_,rfl⟩
 .rw[de hj,de hj];exact⟨_,rfl⟩
end
structure Il(h:Heap)(x dx C:Addr)(mA:Str->Option Vl):Prop where
 obj:h.get? x=some (W.instObj C dx)
 ns:h.Ns1 dx mA
 ne:dx≠x
def Ks{h:Heap}{dx:Addr}{mA:Str->Option Vl}(n:h.Ns1 dx mA):∃od,h.get? dx=some od/\∀name,W.lookIn name od=some (mA name):=by
 obtain⟨o,es,ep,ho,hd,hk,_,hm⟩:=n;refine⟨o,ho,λname=>?_⟩;have e:=hm name;unfold nsFind findBy at e;rw[<-Array.find?_toList]at e;unfold W.lookIn;rw[hd];dsimp only;split
 .rename_i y q;rw[q]at e;exact eY some e
 .rename_i q;rw[q]at e;have a:es.toList.any (·.refKey)=false:=by rw[kY];intro y hy;obtain⟨z,t,hkey⟩:=hk y (kc.mp hy);simp[DictEntry.refKey,hkey]
  have a':¬es.toList.any (·.refKey)=true:=by rw[a];exact dB
  rw[de a'];exact eY some e
def Il.look{h:Heap}{x dx C:Addr}{mA:Str->Option Vl}(I:Il h x dx C mA):∃od,W.InstAt h x (W.instObj C dx) C (some od)/\∀name,W.lookIn name od=some (mA name):=
 let⟨od,ho,hl⟩:=Ks I.ns
 ⟨od,⟨I.obj,rfl,rfl,ho⟩,hl⟩
variable {prog:Pg}{A:Ar}{K:ql}{dx C:Addr}{mA:Str→Option Vl}{name:Str}
section
variable {w:Wo}{E:Vl→Sd→Prop}{x f:Addr}{v:Vl}
def PV{expr:Bool}{Q:Vl->Sd->Prop}(X:K.In s.heap)(I:Il s.heap x dx C mA)(hg:W.plainGet K C name=true)(hh:W.hasDictIn K C=true) (ha:W.findIn K (.ref C) name=some none) (hv:mA name=some v) (hv':W.handedIn v=true) (h:Q v {s with toks:=s.toks+1}):
  wpAny (model prog w) A (getAttr (.ref x) name expr) Q E s:=by
 obtain⟨od,J,hl⟩:=I.look;exact W.get_value X J (kr hg).1 (W.findObj_own hh ha rfl (by rw[hl,hv])) hv' h
def NB{pl:Sem Bool}{Q:Vl×List Vl->Sd->Prop}(X:K.In s.heap)(I:Il s.heap x dx C mA)(hg:W.plainGet K C name=true) (hf:W.findIn K (.ref C) name=some (some (.ref f))) (ht:W.isFn K (.ref f)=true) (hv:mA name=none) (h:Q (.ref f,[.ref x]) s):
  wpAny (model prog w) A (getMethod (.ref x) name pl) Q E s:=by
 obtain⟨od,J,hl⟩:=I.look;exact W.method_fn X J (kr hg).1 (kr hg).2 hf (fg.mp ht) (by show(W.lookIn name od).map (·.isSome)=some false;rw[hl,hv];rfl) h
def OI{ns:List Str}{Q:Unit->Sd->Prop}(X:K.In s.heap)(I:Il s.heap x dx C mA) (hs:W.findIn K (.ref C) "__setattr__"=some (some (.builtin "object.__setattr__"))) (hp:W.plainOver K C=true) (ht:W.takerIn K C name=some none) (hh:W.hasDictIn K C=true) (hw:PySem.Within mA ns) (hsz:ns.length<=sizeLine) (h:∀h',Il h' x dx C (λy=>if y=name then some v else mA y)->Heap.SameBut dx s.heap h'->Q () {s with heap:=h',toks:=s.toks+2}):
  wpAny (model prog w) A (setAttr (.ref x) name v) Q E s:=by
 obtain⟨od,J,hl⟩:=I.look;refine W.set_plain X J hs (W.osa_open (s:={s with toks:=s.toks+1}) (r:=none) X J hp ht λb=>?_);obtain⟨cd,hc,hd'⟩:=W.any_some hh;have hx:s.heap.get? x=some ⟨.ref C,some dx,.plain,#[]⟩:=I.obj;refine cW (dq (cW (cW (wpAny_loadPart hx (cW (mh (s:={s with toks:=s.toks+1}) (kt X hc) ?_))))));rw[hd'];refine dq (a:=some dx) (cW (dq (cW ?_)));refine wpAny_nsSet1 (s:={s with toks:=s.toks+1}) I.ns λh' Zu XY=>?_;obtain⟨oD,esD,epD,hoD,CB,hcD⟩:=Zu.count (PySem.Within.cons name v hw);refine cW (lE hoD (by rw[CB];exact lF (dX hcD (by rw[eB];omega))) ?_);exact dq (h _ ⟨(XY.2 _ (dO I.ne)).trans I.obj,Zu,I.ne⟩ XY)
def LX{R:Result->Sd->Prop}{vs:List Vl}{kw:List (Str×Vl)}(X:K.In s.heap)(hm:W.makesIn K C=true) (hi:W.findIn K (.ref C) "__init__"=some (some (.ref f))) (hf:W.typeIn K (.ref f)=some (.type "function")) (h:codeAny (model prog w) (A.under (.builtin "type.__call__" ⟨.ref C::vs,kw⟩)) (.call (.ref f) ⟨.ref (s.heap.objs.size+1)::vs,kw⟩) (W.InitBack (s.heap.objs.size+1) R) {s with heap:=(s.heap.push W.emptyDict).push (W.instObj C s.heap.objs.size)}):
  codeAny (model prog w) A (.call (.ref C) ⟨vs,kw⟩) R s:=by
 obtain⟨hh,g,d,t,os⟩:=s;exact W.make_core (W.makes_of X hm) (l8 X hi) (λself=>W.bind_fn X self hf) (.inl rfl) h
end
def vm(f:Str)(v:V):List (Str×V)->List (Str×V)
 | []=>[(f,v)]
 | (g,x)::r=>if g=f then(g,v)::r else(g,x)::vm f v r
theorem Ap(f g:Str)(v:V):∀fs:List (Str×V),(vm f v fs).lookup g=if g=f then some v else fs.lookup g
 | []=>by
  show List.lookup g [(f,v)]=_;by_cases h:g=f
  .have hb:(g==f)=true:=fg.mpr h;simp only[List.lookup,hb,dg h]
  .have hb:(g==f)=false:=gv.mpr h;simp only[List.lookup,hb,de h]
 | (k,x)::r=>by
  have ih:=Ap f g v r;rw[show vm f v ((k,x)::r)=(if k=f then(k,v)::r else(k,x)::vm f v r)from rfl];by_cases hk:k=f
  .rw[dg hk];by_cases h:g=k
   .have hb:(g==k)=true:=fg.mpr h;simp only[List.lookup,hb,dg (h.trans hk)]
   .have hb:(g==k)=false:=gv.mpr h;simp only[List.lookup,hb,de (λe:g=f=>h (e.trans hk.symm))]
  .rw[de hk];by_cases h:g=k
   .have hb:(g==k)=true:=fg.mpr h;simp only[List.lookup,hb,de (λe:g=f=>hk (h.symm.trans e))]
   .have hb:(g==k)=false:=gv.mpr h;simp only[List.lookup,hb];exact ih
theorem zL(f:Str)(v:V):∀fs:List (Str×V),f∈(vm f v fs).map (·.1)/\∀g,g∈fs.map (·.1)->g∈(vm f v fs).map (·.1)
 | []=>⟨by simp[vm],λg h=>by simp at h⟩
 | (k,x)::r=>by
  obtain⟨i1,i2⟩:=zL f v r;rw[show vm f v ((k,x)::r)=(if k=f then(k,v)::r else(k,x)::vm f v r)from rfl];by_cases hk:k=f
  .rw[dg hk];subst hk;exact⟨by simp,λg h=>by simpa using h⟩
  .rw[de hk];refine⟨?_,λg h=>?_⟩
   .rw[dY];exact dC _ i1
   .rw[dY]at h ⊢;rcases dh.mp h with e|e
    .exact dh.mpr (.inl e)
    .exact dC _ (i2 g e)
theorem Aq(f:Str)(v:V):∀fs:List (Str×V),(vm f v fs).length<=fs.length+1
 | []=>by simp[vm]
 | (k,x)::r=>by
  have ih:=Aq f v r;rw[show vm f v ((k,x)::r)=(if k=f then(k,v)::r else(k,x)::vm f v r)from rfl];by_cases hk:k=f
  .rw[dg hk,eB,eB];omega
  .rw[de hk,eB,eB];omega
def xY.some_of{v:V}{o:Option Vl}(r:xY (some v) o):∃u,o=some u/\qH v u:=by
 cases o with
 | none=>exact(show False from r).elim
 | some u=>exact⟨u,rfl,r⟩
def xY.none_of{o:Option Vl}(r:xY none o):o=none:=by
 cases o with
 | none=>rfl
 | some u=>exact(show False from r).elim
def Ky{v:V}{u:Vl}(r:qH v u):W.handedIn u=true:=by
 cases v with
 | mH=>cases(show u=Value.none from r);rfl
 | bl b=>cases(show u=Value.bool b from r);rfl
 | int i=>obtain⟨t,e⟩:=(show ∃t,u=Value.int i t from r);cases e;rfl
 | str x=>obtain⟨t,e⟩:=(show ∃t,u=Value.str x t from r);cases e;rfl
 | byt b=>obtain⟨t,e⟩:=(show ∃t,u=Value.bytes b t from r);cases e;rfl
 | flt b=>obtain⟨t,e⟩:=(show ∃t,u=Value.float b t from r);cases e;rfl
 | ref a=>cases(show u=Value.ref a from r);rfl
 | ty n=>cases(show u=Value.type n from r);rfl
section
variable {P:Pg}{w:Wo}{a:Addr}{fs fs':List (Str × V)}
def Bc(mO:ya P w H h)(e:H a=some (.ins C dx fs)):∃mA,Il h a dx C mA/\(∀f,xY (fs.lookup f) (mA f))/\PySem.Within mA (fs.map (·.1))/\fs.length<=1000/\H dx=some (.own a):=by obtain⟨d,z,ne,ob,mA,n,r,q⟩:=(show rP P w H h a (.ins C dx fs)from mO a _ e);exact⟨mA,⟨ob,n,ne⟩,r,q,z,d⟩
end
structure Cls(K:ql)(C:Addr):Prop where
 pg:W.plainGet K C Str.empty=true
 hd:W.hasDictIn K C=true
 po:W.plainOver K C=true
 sa:W.findIn K (.ref C) "__setattr__"=some (some (.builtin "object.__setattr__"))
def Cls.get{K:ql}{C:Addr}(c:Cls K C)(f:Str):W.plainGet K C f=true:=c.pg
def tX(K:ql)(C:Addr)(f:Str):Prop:=W.findIn K (.ref C) f=some none
def tX.oH{K:ql}{C:Addr}{f:Str}(n:tX K C f):W.takerIn K C f=some none:=by unfold W.takerIn;rw[show W.findIn K (.ref C) f=some none from n];rfl
structure WM(K:ql)(C:Addr)(f:Str)(v:V)(u:Vl):Prop where
 at_:W.findIn K (.ref C) f=some (some u)
 rel:qH v u
 get:W.specialIn K u "__get__"=some none
 cp:W.copiedNames.contains f=false
structure vj(K:ql)(C:Addr)(m:Str)(f:Addr):Prop where
 at_:W.findIn K (.ref C) m=some (some (.ref f))
 fn:W.isFn K (.ref f)=true
 kp:W.keepIn K (.ref f)=true
section
variable {σ:St}{a:Addr}{fs:List (Str × V)}{f:Str}{v:V}{E:Vl→Sd→Prop}
def B2{b:Bool}{Q:Vl->Sd->Prop}(I:Inv X WN σ H s)(e:H a=some (.ins C dx fs))(c:Cls X.K C)(n:tX X.K C f)(l:fs.lookup f=some v) (h:∀u s',Inv X WN σ H s'->qH v u->Q u s'):wpAny (model X.prog X.w) A (getAttr (.ref a) f b) Q E s:=by
 obtain⟨mA,O,r,_,_,_⟩:=Bc I.mO e;obtain⟨u,hu,ru⟩:=xY.some_of (v:=v) (o:=mA f) (by rw[<-l];exact r f);exact PV I.mY O (c.get f) c.hd n hu (Ky ru) (h u _ (I.tok _) ru)
def By{m:Str}{g:Addr}{pl:Sem Bool}{Q:Vl×List Vl->Sd->Prop}(I:Inv X WN σ H s)(e:H a=some (.ins C dx fs))(c:Cls X.K C)(k:vj X.K C m g)(l:fs.lookup m=none) (h:Q (.ref g,[.ref a]) s):wpAny (model X.prog X.w) A (getMethod (.ref a) m pl) Q E s:=by
 obtain⟨mA,O,r,_,_,_⟩:=Bc I.mO e;have hn:mA m=none:=xY.none_of (by rw[<-l];exact r m);exact NB I.mY O (c.get m) k.at_ k.fn hn h
def Bo{y:V}{u:Vl}{Q:Unit->Sd->Prop}(I:Inv X WN σ H s)(e:H a=some (.ins C dx fs))(c:Cls X.K C)(n:tX X.K C f)(hl:fs.length<1000)(ry:qH y u) (h:∀s',Inv X WN σ (upd H a (.ins C dx (vm f y fs))) s'->Q () s'):wpAny (model X.prog X.w) A (setAttr (.ref a) f u) Q E s:=by
 obtain⟨mA,O,r,wi,_,ho⟩:=Bc I.mO e;have hz:(fs.map (·.1)).length<=sizeLine:=by rw[cV,dM];omega
 refine OI I.mY O c.sa c.po n.oH c.hd wi hz λh' O' sb=>h _ ?_;have hd:∃o,h'.get? dx=some o:=let⟨o,_,_,e',_⟩:=O'.ns;⟨o,e'⟩;refine I.write (x:=a) (e:=dx) (by rw[e];exact True.intro) (.inr ho) (λb q hb z=>(sb.2 b hb).trans z) hd ?_;refine⟨by rw[pZ O.ne];exact ho,?_,O.ne,O'.obj,_,O'.ns,λg=>?_,λg hg=>?_⟩
 .have:=Aq f y fs;omega
 .show xY ((vm f y fs).lookup g) (if g=f then some u else mA g);rw[Ap];by_cases q:g=f
  .rw[dg q,dg q];exact ry
  .rw[de q,de q];exact r g
 .by_cases q:g=f
  .rw[q];exact(zL f y fs).1
  .refine(zL f y fs).2 g (wi g λz=>hg ?_);show(if g=f then some u else mA g)=none;rw[de q];exact z
def Inv.made(I:Inv X WN σ H s):Inv X WN σ (upd (upd H s.heap.objs.size (.own (s.heap.objs.size+1))) (s.heap.objs.size+1) (.ins C s.heap.objs.size [])) {s with heap:=(s.heap.push W.emptyDict).push (W.instObj C s.heap.objs.size)}:=by
 have e1:(s.heap.push W.emptyDict).get? s.heap.objs.size=some W.emptyDict:=dG s.heap rfl;have e2:((s.heap.push W.emptyDict).push (W.instObj C s.heap.objs.size)).get? (s.heap.objs.size+1)=some (W.instObj C s.heap.objs.size):=by
  have:=dG (s.heap.push W.emptyDict) (o:=W.instObj C s.heap.objs.size) rfl
  rwa [fm]at this
 have e3:(s.heap.push W.emptyDict).Ns s.heap.objs.size (λ_=>none):=⟨W.emptyDict,#[],_,e1,rfl,(λe he=>absurd he (by simp)),λ_=>rfl⟩;have I1:=I.laid (a:=s.heap.objs.size) (o:=.own (s.heap.objs.size+1)) (h':=s.heap.push W.emptyDict) (t':=s.toks) (λb u q=>df _ q) (dw _) ⟨_,e1⟩;refine I1.laid (a:=s.heap.objs.size+1) (o:=.ins C s.heap.objs.size []) (t':=s.toks) (λb u q=>df _ q) (mi (fm _ _)) ?_;have ne:s.heap.objs.size≠s.heap.objs.size+1:=dH (fu _);refine⟨by rw[pZ ne,qe],eG _,ne,e2,λ_=>none,(kZ e3).at λo q=>df _ q,λ_=>True.intro,λy hy=>absurd rfl hy⟩
def P4{prog:Pg}{w:Wo}{env:Env}{e:Expr}{f:Str}{pos:Pos}{s:Sd}{Q:Vl->Sd->Prop}(hb:attributeBase e f env (eval e env)=eval e env) (h:wpAny (model prog w) A (eval e env) (λo s₁=>wpAny (model prog w) A (getAttr o f true) Q E s₁) E s):wpAny (model prog w) A (eval (.Attribute e f pos) env) Q E s:=
 Attribute_any_ h (by rw[arm_eval_Attribute,hb])
end
def Vi(K:ql)(ta:TE)(f:Str):TE:=λσ H Q=>ta σ H λx H1=>∃a C dx fs v,x=.ref a/\H1 a=some (.ins C dx fs)/\Cls K C/\tX K C f/\fs.lookup f=some v/\Q v H1
def Vr(K:ql)(ta tv:TE)(f:Str):TS:=λD σ H=>tv σ H λy H1=>ta σ H1 λx H2=>∃a C dx fs,x=.ref a/\H2 a=some (.ins C dx fs)/\Cls K C/\tX K C f/\fs.length<1000/\
 D.nx σ (upd H2 a (.ins C dx (vm f y fs)))
def Qj(X:Cx)(op:Operator)(rd:V->V->Hp->VK->Prop):Prop:=
 ∀(WN:List (Addr×Obj)) (s:Sd) (σ:St) (H:Hp) (x y:V) (u v:Vl) (Q:VK),Inv X WN σ H s->qH x u->qH y v->rd x y H Q->wpAny (model X.prog X.w) X.A (inplaceOp op u v) (EP X WN σ Q) X.xe s
def OP(K:ql)(ta tv:TE)(rd:V->V->Hp->VK->Prop)(f:Str):TS:=λD σ H=>ta σ H λx H1=>∃a C dx fs v,x=.ref a/\H1 a=some (.ins C dx fs)/\Cls K C/\tX K C f/\fs.lookup f=some v/\
 tv σ H1 λy H2=>rd v y H2 λz H3=>∃Zv fs',H3 a=some (.ins C Zv fs')/\fs'.length<1000/\D.nx σ (upd H3 a (.ins C Zv (vm f z fs')))
variable {value:Expr}{WV YT:Pos}{tv:TE}
section
variable {o e:Expr}{f:Str}
def Sq(he:PE X e ta)(hb:attributeBase e f X.env (eval e X.env)=eval e X.env):PE X (.Attribute e f pos) (Vi X.K ta f):=by intro WN s σ H Q I h;refine P4 hb (su (he WN s σ H _ I h) λu s1 zz=>?_);obtain⟨x,H1,I1,rx,a,C,dx,fs,v,ex,ea,c,n,l,q⟩:=zz;subst ex;obtain rfl:u=Value.ref a:=rx;exact B2 I1 ea c n l λu' s2 I2 ru=>⟨v,H1,I2,ru,q⟩
def Ra(ha:PE X o ta)(hv:PE X value tv)(hs:swapsWith value (some (.Attribute o f WV)) pos.line X.env=pure false):PS X (.Assign [.Attribute o f WV] value pos) (Vr X.K ta tv f):=by intro WN s σ H D I h;refine iM (su (hv WN s σ H _ I h) λu s1 zz=>x5 zz λy H1 I1 ry q=>su (ha WN s1 σ H1 _ I1 q) λov s2 zz=>?_) hs;obtain⟨x,H2,I2,rx,a,C,dx,fs,ex,ea,c,n,l,q2⟩:=zz;subst ex;obtain rfl:ov=Value.ref a:=rx;exact Bo I2 ea c n l ry λs3 I3=>⟨σ,_,I3,q2⟩
def JU{op:Operator}{rd:V->V->Hp->VK->Prop}(ha:PE X o ta)(hv:PE X value tv)(hop:Qj X op rd):PS X (.AugAssign (.Attribute o f YT) op value pos) (OP X.K ta tv rd f):=by intro WN s σ H D I h;refine wpAny_AugAssign_AttributeAny (su (ha WN s σ H _ I h) λov s1 zz=>?_);obtain⟨x,H1,I1,rx,a,C,dx,fs,v,ex,ea,c,n,l,q⟩:=zz;subst ex;obtain rfl:ov=Value.ref a:=rx;refine B2 I1 ea c n l λu s2 I2 ru=>su (hv WN s2 σ H1 _ I2 q) λw3 s3 zz=>x5 zz λy H2 I3 ry q3=>su (hop WN s3 σ H2 v y u w3 _ I3 ru ry q3) λw4 s4 zz=>?_;obtain⟨z,H3,I4,rz,Zv,fs',ea',l',q4⟩:=zz;exact Bo I4 ea' c n l' rz λs5 I5=>⟨σ,_,I5,q4⟩
def Vq:V->V->Hp->VK->Prop:=λx y H Q=>∃i j,x=.int i/\y=.int j/\Q (.int (i+j)) H
def VF:V->V->Hp->VK->Prop:=λx y H Q=>∃i j,x=.int i/\y=.int j/\Q (.int (i - j)) H
def Q9:Qj X .Add Vq:=by
 rintro WN s σ H x y u v Q I rx ry ⟨i,j,rfl,rfl,q⟩
 obtain⟨t,rfl⟩:=(show ∃t,u=Value.int i t from rx);obtain⟨t',rfl⟩:=(show ∃t',v=Value.int j t' from ry);exact PyProof.Rows.iadd_int ⟨.int (i+j),H,I.tok _,⟨_,rfl⟩,q⟩
def QU:Qj X .Sub VF:=by
 rintro WN s σ H x y u v Q I rx ry ⟨i,j,rfl,rfl,q⟩
 obtain⟨t,rfl⟩:=(show ∃t,u=Value.int i t from rx);obtain⟨t',rfl⟩:=(show ∃t',v=Value.int j t' from ry);exact PyProof.Rows.isub_int ⟨.int (i - j),H,I.tok _,⟨_,rfl⟩,q⟩
end
variable {Q:Vl→Sd→Prop}
section
variable {σ:St}{E:Vl→Sd→Prop}{c:Vl}{b:Bool}
inductive Av(K:ql)(H:Hp):V->Vl->Prop where
 | mH:Av K H .mH (.type "NoneType")
 | bl (x:Bool):Av K H (.bl x) (.type "bool")
 | int (i:Int):Av K H (.int i) (.type "int")
 | str (x:Str):Av K H (.str x) (.type "str")
 | flt (x:UInt64):Av K H (.flt x) (.type "float")
 | lst {a:Addr} {xs:List V} (e:H a=some (.lst xs)):Av K H (.ref a) (.type "list")
 | frz {a:Addr} {o:Obj} {xs:List V} (e:H a=some (.frz o (.lst xs))):Av K H (.ref a) (.type "list")
 | tup {a:Addr} {xs:List V} (e:H a=some (.tup xs)):Av K H (.ref a) (.type "tuple")
 | dK {a:Addr} {kvs:List (qS×V)} (e:H a=some (.dK kvs)):Av K H (.ref a) (.type "dict")
 | dT {a:Addr} {kvs:List (List qS×V)} (e:H a=some (.dT kvs)):Av K H (.ref a) (.type "dict")
 | ins {a C dx:Addr} {fs:List (Str×V)} (e:H a=some (.ins C dx fs)) (cl:Cls K C) (ha:W.findIn K (.ref C) "__class__"=some (some (.builtin "object.__class__")))
   (hn:W.specialIn K (.builtin "object.__class__") "__get__"=some (some (.builtin "getset_descriptor.__get__"))) (htk:W.takesIn K (.builtin "object.__class__")=some true)
   (hm:W.mroIn K C (.type "object")=some true):Av K H (.ref a) (.ref C)
def uy{x:V}{u t:Vl}(I:Inv X WN σ H s)(rx:qH x u)(ty:Av X.K H x t)(e:W.kitOne X.K t c=some b)(h:∀tk,Q (.bool b) {s with toks:=tk}):
  wpAny (model X.prog X.w) A (call (.builtin "isinstance") [u,c]) Q E s:=by
 cases ty with
 | mH=>cases(show u=Value.none from rx);exact gp W.kitx_none I.mY True.intro e (λz=>nomatch z) h
 | bl y=>cases(show u=Value.bool y from rx);exact gp W.kitx_bool I.mY True.intro e (λz=>nomatch z) h
 | int i=>obtain⟨t,q⟩:=(show ∃t,u=Value.int i t from rx);cases q;exact gp W.kitx_int I.mY True.intro e (λz=>nomatch z) h
 | str y=>obtain⟨t,q⟩:=(show ∃t,u=Value.str y t from rx);cases q;exact gp W.kitx_str I.mY True.intro e (λz=>nomatch z) h
 | flt y=>obtain⟨t,q⟩:=(show ∃t,u=Value.float y t from rx);cases q;exact gp W.kitx_float I.mY True.intro e (λz=>nomatch z) h
 | @lst a xs ea=>cases(show u=Value.ref a from rx);obtain⟨_,_,n,_,h1⟩:=(show rP X.prog X.w H s.heap a (.lst xs)from I.mO a _ ea);exact gp lw I.mY ⟨_,h1,rfl⟩ e (λz=>nomatch z) h
 | @frz a ob xs ea=>cases(show u=Value.ref a from rx);obtain⟨_,_,_,n,_,h1⟩:=(show rP X.prog X.w H s.heap a (.frz ob (.lst xs))from I.mO a _ ea);exact gp lw I.mY ⟨_,h1,rfl⟩ e (λz=>nomatch z) h
 | @tup a xs ea=>cases(show u=Value.ref a from rx);obtain⟨_,_,_,p⟩:=(show rP X.prog X.w H s.heap a (.tup xs)from I.mO a _ ea);obtain⟨o,h1,h2,_⟩:=p;exact gp W.kitx_tuple I.mY ⟨o,h1,h2⟩ e (λz=>nomatch z) h
 | @dK a kvs ea=>cases(show u=Value.ref a from rx);obtain⟨_,_,vs,_,p⟩:=(show rP X.prog X.w H s.heap a (.dK kvs)from I.mO a _ ea);obtain⟨o,es,ep,h1,h2,_⟩:=p;exact gp W.kitx_dict I.mY ⟨o,h1,h2.1⟩ e (λz=>nomatch z) h
 | @dT a kvs ea=>cases(show u=Value.ref a from rx);obtain⟨_,_,xs,_,o,es,ep,h1,h2,_⟩:=(show rP X.prog X.w H s.heap a (.dT kvs)from I.mO a _ ea);exact gp W.kitx_dict I.mY ⟨o,h1,h2.1⟩ e (λz=>nomatch z) h
 | @ins a C dx fs ea cl ha hn htk hm=>cases(show u=Value.ref a from rx);obtain⟨mA,O,_⟩:=Bc I.mO ea;obtain⟨od,J,_⟩:=O.look;exact gp (W.kitx_own (cl.get _) cl.hd ha hn htk hm) I.mY J e (λz=>nomatch z) h
end
structure rM(k:Nat)(A:Ar):Prop where
 hd:A.handled=none
 dp:A.depth+3*k+5<recursionLimit
 un:A.units+16*k+200<cLine
def rM.mono{j k:Nat}{A:Ar}(r:rM k A)(h:j<=k):rM j A:=⟨r.hd,by have:=r.dp;omega,by have:=r.un;omega⟩
def rM.deeper{k:Nat}{A:Ar}(r:rM (k+1) A)(env:Env):rM k (A.deeper env):=
 ⟨r.hd,by have:=r.dp;show A.depth+1+3*k+5<_;omega,by have:=r.un;show A.units+3+16*k+200<_;omega⟩
def Hn{A:Ar}{C:Addr}{us:List Vl}{kw:List (Str×Vl)}:(A.under (.builtin "type.__call__" ⟨.ref C::us,kw⟩)).depth=A.depth+1:=by first|rfl|simp[Around.under,Code.weight,Code.isCreation,Code.isGuard,Code.isCaller,Code.frames,Code.isFrame,guardIds]
def HG{A:Ar}{C:Addr}{us:List Vl}{kw:List (Str×Vl)}:(A.under (.builtin "type.__call__" ⟨.ref C::us,kw⟩)).units=A.units+1:=by first|rfl|simp[Around.under,Code.cUnits,Code.frames,Code.isFrame]
def rM.make{k:Nat}{A:Ar}(r:rM (k+1) A)(C:Addr)(us:List Vl)(kw:List (Str×Vl)):rM k (A.under (.builtin "type.__call__" ⟨.ref C::us,kw⟩)):=
 ⟨r.hd,by have:=r.dp;rw[Hn];omega,by have:=r.un;rw[HG];omega⟩
def rM.depth{k:Nat}{A:Ar}(r:rM k A):A.depth<recursionLimit:=by have:=r.dp;omega
def rM.units{k:Nat}{A:Ar}(r:rM k A):A.units+64<cLine:=by have:=r.un;omega
def T5:TA:=λ_ H Q=>Q [] H
def Us(ta:TE)(tr:TA):TA:=λσ H Q=>ta σ H λx H1=>tr σ H1 λxs H2=>Q (x::xs) H2
variable {es:List Expr}
section
variable {e:Expr}{t:TA}
def R6:PA X [] T5:=λ_ _ _ _ H Q I h=>iE ⟨[],H,I,.nil,h⟩
def OA(ha:PE X e te)(hr:PA X es t)(hs:AH X e es:=by rfl):PA X (e::es) (Us te t):=by intro pos WN s σ H Q I h;rw[hs];show wpAny _ _ (spliced ((false,eval e X.env)::backTo pos (starEach es X.env))) _ _ s;refine il (su (ha WN s σ H _ I h) λu s1 zz=>x5 zz λx H1 I1 r1 q1=>?_);exact su (hr pos WN s1 σ H1 _ I1 q1) λus s2 zz=>x5 zz λxs H2 I2 r2 q2=>⟨x::xs,H2,I2,.cons r1 r2,q2⟩
def Vo(t:TA):TE:=λσ H Q=>t σ H λxs H1=>xs.length<=sizeLine/\∀p,H1 p=none->Q (.ref p) (upd H1 p (.tup xs))
def VE(t:TA):TE:=λσ H Q=>t σ H λxs H1=>xs.length<=sizeLine/\∀p,H1 p=none->Q (.ref p) (upd H1 p (.lst xs))
def RN{x1}(h:PA X es t):PE X (.Tuple es x1 pos) (Vo t):=by intro WN s σ H Q I hq;refine wpAny_Tuple_spliced (su (h pos WN s σ H _ I hq) λus s1 ⟨xs,H1,I1,r,z,q⟩=>⟨by rw[<-r.length];exact z,?_⟩);have hf:H1 s1.heap.objs.size=none:=I1.mO.fresh (dw _);refine⟨.ref s1.heap.objs.size,upd H1 s1.heap.objs.size (.tup xs),I1.laid (t':=s1.toks) (λb u e=>df _ e) (dw _) ?_,rfl,q _ hf⟩;exact⟨z,us,r,⟨_,dG _ rfl,rfl,⟨_,rfl⟩,rfl⟩⟩
def Sa(h:PA X es t):PE X (.List es pos) (VE t):=by intro WN s σ H Q I hq;refine wpAny_List_spliced (su (h pos WN s σ H _ I hq) λus s1 ⟨xs,H1,I1,r,z,q⟩=>⟨by rw[<-r.length];exact z,?_⟩);have hf:H1 s1.heap.objs.size=none:=I1.mO.fresh (dw _);refine⟨.ref s1.heap.objs.size,upd H1 s1.heap.objs.size (.lst xs),I1.laid (t':=s1.toks) (λb u e=>df _ e) (dw _) ?_,rfl,q _ hf⟩;exact⟨z,us,0,r,dG _ rfl⟩
end
abbrev Sp:=List V->Hp->VK->XK->Prop
abbrev KR:=List Env->Hp->Sd->XK->Vl->Sd->Prop
structure Hh(P:Pg)(w:Wo)(K:ql)(mg:Str->Option Vl)(base:Heap)(A:Ar)(outer:List Env)(s:Sd)(H:Hp):Prop where
 frames:A.frames=some outer
 mod:Mod K mg base
 bs:∀b o,base.get? b=some o->s.heap.get? b=some o/\H b=none
 nW:base.objs.size<=s.heap.objs.size
 nu:s.heap.FunFrames base outer
 oa:∀b∈vS outer,H b=none
 mO:ya P w H s.heap
 bare:AllBare s.gens
def CE(outer:List Env)(P:Pg)(w:Wo)(H:Hp)(s:Sd)(Q:VK)(u:Vl)(s':Sd):Prop:=
 ∃v H',s'.os=s.os/\AllBare s'.gens/\Un (vS outer) [] H H' s.heap s'.heap/\ya P w H' s'.heap/\qH v u/\Q v H'
def CR(CX:KR)(outer:List Env)(P:Pg)(w:Wo)(H:Hp)(s:Sd)(Q:VK)(E:XK)(r:Result)(s':Sd):Prop:=
 match r with
 | .ok (.ret u)=>CE outer P w H s Q u s'
 | .ok _=>False
 | .error e=>CX outer H s E e s'
structure xb(P:Pg)(w:Wo)(K:ql)(mg:Str->Option Vl)(base:Heap)(CX:KR)(k:Nat)(f:Addr)(fd:FuncData)(ps:List Str)(sp:Sp):Prop where
 len:∀vs H Q E,sp vs H Q E->vs.length=ps.length
 run:∀(A:Ar) (outer:List Env) (s:Sd) (H:Hp) (args:Args) (us:List Vl) (vs:List V) (Q:VK) (E:XK),rM k A->Hh P w K mg base A outer s H->BindsTo s fd args (ps.zip us)->qw vs us->sp vs H Q E->
  codeAny (model P w) A (.call (.ref f) args) (CR CX outer P w H s Q E) s
def Hh.make{P:Pg}{w:Wo}{K:ql}{mg:Str->Option Vl}{base:Heap}{A:Ar}{outer:List Env}{s:Sd}{H:Hp}(e:Hh P w K mg base A outer s H)(C:Addr)(us:List Vl)(kw:List (Str×Vl)):
  Hh P w K mg base (A.under (.builtin "type.__call__" ⟨.ref C::us,kw⟩)) outer s H:=⟨by first|exact e.frames|(simpa [Around.under,Code.envs,Code.isFrame,pushEnvs]using e.frames),e.mod,e.bs,e.nW,e.nu,e.oa,e.mO,e.bare⟩
variable {s':Sd}
section
variable {σ:St}
def Inv.nX(I:Inv X WN σ H s):Hh X.prog X.w X.K X.mg X.base X.A X.stack s H:=
 ⟨I.ok.frames,I.ok.mod,I.bs,dX I.ok.nW I.sz,I.stack,I.nz,I.mO,I.bare⟩
def Inv.after{Q:VK}{u:Vl}(I:Inv X WN σ H s)(h:CE X.stack X.prog X.w H s Q u s'):EP X WN σ Q u s':=by obtain⟨v,H',os,bare,un,mO,r,q⟩:=h;obtain⟨hh,g,d,t,Zw⟩:=s';obtain rfl:Zw=s.os:=os;exact⟨v,H',I.call (h':=hh) (g':=g) (d':=d) (t':=t) (ch:=[]) un mO bare (λb z=>absurd z (by simp)),r,q⟩
end
def TR(sp:Sp)(Xx:List V)(E:XK)(t:TA):TE:=λσ H Q=>t σ H λvs H1=>sp (vs++Xx) H1 Q E
def Ur(C:Addr)(sp:Sp)(Xx:List V)(E:XK)(t:TA):TE:=λσ H Q=>t σ H λvs H1=>∀x dx,H1 x=none->H1 dx=none->dx≠x->
 sp (.ref x::(vs++Xx)) (upd (upd H1 dx (.own x)) x (.ins C dx [])) (λv H2=>v=.mH/\Q (.ref x) H2) E
def uq(K:ql)(fd:FuncData)(ps:List Str)(ds:List Vl):Prop:=
 ∀(s:Sd) (us:List Vl),K.In s.heap->(us++ds).length=ps.length->BindsTo s fd ⟨us,[]⟩ (ps.zip (us++ds))
def uq.all{K:ql}{fd:FuncData}{ps:List Str}(h:∀us:List Vl,us.length=ps.length->bindArgs fd ⟨us,[]⟩=pure (ps.zip us)):uq K fd ps []:=λs us _ hl=>by rw[eO]at hl ⊢;exact .of_eq (h us hl)
def yp(CX:KR)(X:Cx)(E:XK):Prop:=∀(WN:List (Addr×Obj)) (σ:St) (H:Hp) (s:Sd) (e:Vl) (s':Sd),Inv X WN σ H s->CX X.stack H s E e s'->X.xe e s'
variable {CX:KR}{k:Nat}{fd:FuncData}{ps:List Str}{sp:Sp}{Xx:List V}{ds:List Vl}{m:Str}{p WQ:Pos}
section
variable {f:Addr}{E:XK}{x:Str}{e o:Expr}{t:TA}
def EZ{WN:List (Addr×Obj)}{σ:St}{H:Hp}{s:Sd}{Q:VK}{us:List Vl}{vs:List V}(F:xb X.prog X.w X.K X.mg X.base CX k f fd ps sp)(hr:rM k X.A)(hb:uq X.K fd ps ds)(hd:qw Xx ds)(hx:yp CX X E) (I:Inv X WN σ H s) (r:qw vs us) (h:sp (vs++Xx) H Q E):wpAny (model X.prog X.w) X.A (call (.ref f) us) (EP X WN σ Q) X.xe s:=by
 have r2:qw (vs++Xx) (us++ds):=r.append hd;have hl:(us++ds).length=ps.length:=by rw[<-r2.length];exact F.len _ _ _ _ h
 refine iA (gj (F.run X.A X.stack s H ⟨us,[]⟩ (us++ds) (vs++Xx) Q E hr I.nX (hb s us I.mY hl) r2 h) λr s' hq=>?_);cases r with
 | error e=>exact hx WN σ H s e s' I hq
 | ok fl=>
  cases fl with
  | ret u=>exact I.after hq
  | next=>exact False.elim hq
  | brk=>exact False.elim hq
  | cont=>exact False.elim hq
def Jk(F:xb X.prog X.w X.K X.mg X.base CX k f fd ps sp)(hr:rM k X.A)(hg:Gl X x)(hm:X.mg x=some (.ref f))(hk:W.keepIn X.K (.ref f)=true)(hb:uq X.K fd ps ds)(hd:qw Xx ds)(hx:yp CX X E) (ha:PA X (e::es) t) (W5:yk x:=by decide) (he:AH X e es:=by rfl) (W4:Cw X pos es:=by rfl):
  PE X (.Call (.Name x p) (e::es) [] pos) (TR sp Xx E t):=by
 intro WN s σ H Q I h;refine fR (wK I hg hm ?_ W5);refine iN (h₀:=X.base) I.ok.mod.oz hk (su (ha pos WN s σ H _ I h) λus s1 zz=>x5 zz λvs H1 I1 r q=>⟨I1.mY,?_⟩) he W4;exact EZ F hr hb hd hx I1 r q
structure Mk(K:ql)(C f:Addr):Prop where
 makes:W.makesIn K C=true
 init:W.findIn K (.ref C) "__init__"=some (some (.ref f))
 fn:W.isFn K (.ref f)=true
 kp:W.keepIn K (.ref C)=true
def Nt{WN:List (Addr×Obj)}{σ:St}{H:Hp}{s:Sd}{Q:VK}{us:List Vl}{vs:List V}(M:Mk X.K C f)(F:xb X.prog X.w X.K X.mg X.base CX k f fd ps sp)(hr:rM (k+1) X.A)(hb:uq X.K fd ps ds)(hd:qw Xx ds) (hx:yp CX X E) (I:Inv X WN σ H s) (r:qw vs us) (h:∀x dx,H x=none->H dx=none->dx≠x->sp (.ref x::(vs++Xx)) (upd (upd H dx (.own x)) x (.ins C dx [])) (λv H2=>v=.mH/\Q (.ref x) H2) E):
  wpAny (model X.prog X.w) X.A (call (.ref C) us) (EP X WN σ Q) X.xe s:=by
 have hq:=h (s.heap.objs.size+1) s.heap.objs.size (I.mO.fresh (gT _)) (I.mO.fresh (dw _)) (dH (fu _));have I2:=Inv.made (C:=C) I;have r2:qw (V.ref (s.heap.objs.size+1)::(vs++Xx)) (Value.ref (s.heap.objs.size+1)::(us++ds)):=.cons rfl (r.append hd);have hl:(Value.ref (s.heap.objs.size+1)::us++ds).length=ps.length:=by have e:=r2.length;rw[F.len _ _ _ _ hq]at e;exact e.symm
 refine iA (LX (f:=f) I.mY M.makes M.init (fg.mp M.fn) (gj (F.run _ X.stack _ _ ⟨Value.ref (s.heap.objs.size+1)::us,[]⟩ (Value.ref (s.heap.objs.size+1)::(us++ds)) _ _ E (hr.make C us [])
  (I2.nX.make C us []) (hb _ (Value.ref (s.heap.objs.size+1)::us) I2.mY hl) r2 hq) λr s' Yo=>?_))
 cases r with
 | error e=>exact hx WN σ _ _ e s' I2 Yo
 | ok fl=>
  cases fl with
  | ret u=>obtain⟨v,H',I3,rv,ev,q3⟩:=I2.after Yo;subst ev;exact⟨rv,⟨V.ref (s.heap.objs.size+1),H',I3,rfl,q3⟩⟩
  | next=>exact False.elim Yo
  | brk=>exact False.elim Yo
  | cont=>exact False.elim Yo
def Oe(M:Mk X.K C f)(F:xb X.prog X.w X.K X.mg X.base CX k f fd ps sp)(hr:rM (k+1) X.A)(hg:Gl X x)(hm:X.mg x=some (.ref C))(hb:uq X.K fd ps ds)(hd:qw Xx ds)(hx:yp CX X E) (ha:PA X (e::es) t) (W5:yk x:=by decide) (he:AH X e es:=by rfl) (W4:Cw X pos es:=by rfl):
  PE X (.Call (.Name x p) (e::es) [] pos) (Ur C sp Xx E t):=by
 intro WN s σ H Q I h;refine fR (wK I hg hm ?_ W5);refine iN (h₀:=X.base) I.ok.mod.oz M.kp (su (ha pos WN s σ H _ I h) λus s1 zz=>x5 zz λvs H1 I1 r q=>⟨I1.mY,?_⟩) he W4;exact Nt M F hr hb hd hx I1 r q
end
variable {g:List Vl→List Vl→List Vl}{gV:List V→List V→List V}{ks:List Str}{kpos:Pos}{kws:List Keyword}{tk:TA}{nm:Option Str}
section
variable {f:Addr}{E:XK}{x:Str}{e o:Expr}{t:TA}
structure V8(K:ql)(fd:FuncData)(ps ks:List Str)(g:List Vl->List Vl->List Vl)(gV:List V->List V->List V):Prop where
 to:∀(s:Sd) (us ws:List Vl),K.In s.heap->(g us ws).length=ps.length->BindsTo s fd ⟨us,ks.zip ws⟩ (ps.zip (g us ws))
 rel:∀{vs:List V} {us:List Vl} {zs:List V} {ws:List Vl},qw vs us->qw zs ws->qw (gV vs zs) (g us ws)
end
structure sW(N P:List Str)(sc:Scope):Prop where
 kind:sc.kind=.function
 co:sc.isCoroutine=false
 gen:sc.isGenerator=false
 nd:N.Nodup
 pre:N.take P.length=P
 par:∀x∈P,sc.names.lookup x=some .local\/sc.names.lookup x=some .cell
 oV:∀y∈sc.names,y.2≠.free
theorem DS{kindOf:Str->Option NameKind}{x:Str}:∀{binds:List (Str×Vl)} {m:Str->Option Vl},(∀v,(x,v)∉binds)->bindL kindOf binds m x=m x
 | [],_,_=>rfl
 | (n,v)::r,m,h=>by
  unfold bindL;rw[DS λw hw=>h w (dC _ hw)];split
  .have:x≠n:=by rintro rfl;exact h v dJ
   simp[this]
  .rfl
theorem Ds{kindOf:Str->Option NameKind}{x:Str}:∀{binds:List (Str×Vl)} {m:Str->Option Vl},(∀v,(x,v)∉binds)->bindC kindOf binds m x=m x
 | [],_,_=>rfl
 | (n,v)::r,m,h=>by
  unfold bindC;rw[Ds λw hw=>h w (dC _ hw)];split
  .rfl
  .have:x≠n:=by rintro rfl;exact h v dJ
   simp[this]
theorem DV{kindOf:Str->Option NameKind}{x:Str}{v:Vl}:∀{P:List Str} {vs:List Vl} {i:Nat} {m:Str->Option Vl},P.Nodup->P[i]?=some x->vs[i]?=some v->kindOf x=some .local->
  bindL kindOf (P.zip vs) m x=some v
 | [],_,_,_,_,h,_,_=>by simp at h
 | _::_,[],_,_,_,_,h,_=>by simp at h
 | p::P,w::vs,0,m,nd,h1,h2,hk=>by simp at h1 h2;subst h1;subst h2;show bindL kindOf ((p,w)::P.zip vs) m p=_;unfold bindL;rw[DS λv hv=>(dS.mp nd).1 (jO hv).1,dg hk];simp
 | p::P,w::vs,i+1,m,nd,h1,h2,hk=>by show bindL kindOf ((p,w)::P.zip vs) m x=_;unfold bindL;exact DV (i:=i) (dS.mp nd).2 (by simpa using h1) (by simpa using h2) hk
theorem Dx{kindOf:Str->Option NameKind}{x:Str}{v:Vl}:∀{P:List Str} {vs:List Vl} {i:Nat} {m:Str->Option Vl},P.Nodup->P[i]?=some x->vs[i]?=some v->kindOf x≠some .local->
  bindC kindOf (P.zip vs) m x=some v
 | [],_,_,_,_,h,_,_=>by simp at h
 | _::_,[],_,_,_,_,h,_=>by simp at h
 | p::P,w::vs,0,m,nd,h1,h2,hk=>by simp at h1 h2;subst h1;subst h2;show bindC kindOf ((p,w)::P.zip vs) m p=_;unfold bindC;rw[Ds λv hv=>(dS.mp nd).1 (jO hv).1,de hk];simp
 | p::P,w::vs,i+1,m,nd,h1,h2,hk=>by show bindC kindOf ((p,w)::P.zip vs) m x=_;unfold bindC;exact Dx (i:=i) (dS.mp nd).2 (by simpa using h1) (by simpa using h2) hk
def yg(N:List Str)(vs:List V):St:=vs.map some++List.replicate (N.length - vs.length) none
def va(CX:KR)(P:Pg)(w:Wo)(K:ql)(mg:Str->Option Vl)(base:Heap)(N:List Str)(qual:Str)(scope:Scope)(f:Addr)(cd:Vl)(A:Ar)(outer:List Env)(s:Sd)(H:Hp)(E:XK):Cx where
 prog:=P
 w:=w
 K:=K
 mg:=mg
 base:=base
 A:=A.deeper (envOfC qual scope s.heap.objs.size f cd)
 N:=N
 s₀:=s
 H₀:=H
 env:=envOfC qual scope s.heap.objs.size f cd
 outer:=outer
 stack:=envOfC qual scope s.heap.objs.size f cd::outer
 ex:=[]
 calm:=true
 fn:=λ_=>true
 pn:=[]
 xe:=λe s'=>wpAny (model P w) (A.deeper (envOfC qual scope s.heap.objs.size f cd)) (leaving (envOfC qual scope s.heap.objs.size f cd) e) (λ_ Zx=>CX outer H s E e Zx) (λe' Zx=>CX outer H s E e' Zx) s'
def F5{sc:Scope}{n:Nat}{x:Str}(h:sc.names.lookup x=some .cell):∃c,(cellsFrom n sc.names []).lookup x=some c:=by have q:=lG sc.names n [] (.inl h);exact jy.mp q
def Kg{CX:KR}{P:Pg}{w:Wo}{K:ql}{mg:Str->Option Vl}{base:Heap}{N ps:List Str}{qual:Str}{scope:Scope}{f:Addr}{cd:Vl}{A:Ar}{outer:List Env}{s s1:Sd}{H:Hp}{E:XK}{us:List Vl}{vs:List V} (S:sW N ps scope) (hd:A.handled=none) (e0:Hh P w K mg base A outer s H) (hl:vs.length=ps.length) (r:qw vs us) (x:InCallC s s.heap.objs.size (bindL (envOfC qual scope s.heap.objs.size f cd).kindOf (ps.zip us) λ_=>none) (cellsFrom (s.heap.objs.size+1) scope.names []) (bindC (envOfC qual scope s.heap.objs.size f cd).kindOf (ps.zip us) λ_=>none) s1):
  Inv (va CX P w K mg base N qual scope f cd A outer s H E) [] (yg N vs) H s1:=by
 have W4:ps.length<=N.length:=by have:=eY List.length S.pre;rw[fS]at this;omega
 obtain⟨h1,tk,rfl,hk⟩:=x.done;have noA:∀b:Addr,b∉(va CX P w K mg base N qual scope f cd A outer s H E).ex:=λb z=>absurd (show b∈([]:List Addr)from z) (by simp);refine⟨⟨e0.mod,S.kind,rfl,rfl,dw _,λy z c h1 h2=>?_,λy hy=>?_,λy c _ h=>?_,λ_=>hd,Around.frames_deeper e0.frames,.inr ⟨rfl,rfl⟩,λb z=>absurd z (noA b),e0.bs,e0.nW,λb _ _=>noA b,λb z=>absurd z (noA b),e0.nu,e0.oa⟩,rfl,e0.bare,Un.kept hk,⟨_,x.toInCall.ns,λi y v h1 h2 h3=>?_⟩,λy c h=>⟨_,x.cell y c h⟩,e0.mO.fresh (dw _),λy c h=>?_,λp hp=>absurd (show p∈([]:List (Addr×Obj))from hp) (by simp),e0.mO.kept hk,?_⟩
 .exact name_of_addr x.apart (gL h1) (gL h2)
 .have hy:scope.names.lookup y=some .cell\/scope.names.lookup y=some .free:=hy;rcases hy with hy|hy
  .exact F5 hy
  .exact absurd rfl (S.oV _ (gL hy))
 .exact jw (x.above y c (gL h))
 .have hi:i<vs.length:=by
   unfold yg at h2;by_cases hi:i<vs.length
   .exact hi
   .rw[eV (by simpa using hi)]at h2;rw[jL]at h2;split at h2<;>cases h2
  have ha:vs[i]?=some v:=by
   unfold yg at h2;rw[eZ (by simpa using hi),dD]at h2;cases e:vs[i]? with
   | none=>rw[e]at h2;cases h2
   | some a=>rw[e]at h2;cases h2;rfl
  obtain⟨u,hu,rv⟩:=r.get ha;have hp:ps[i]?=some y:=by rw[<-S.pre,List.getElem?_take_of_lt (by omega)];exact h1
  have ndP:ps.Nodup:=by rw[<-S.pre];exact S.nd.sublist (List.take_sublist _ _)
  refine⟨u,rv,?_⟩;rcases S.par y (fk hp)with k|k
  .exact .inl ⟨k,DV ndP hp hu k⟩
  .obtain⟨c,e⟩:=F5 (n:=s.heap.objs.size+1) k;refine .inr ⟨.inl k,c,e,?_⟩;have q:=x.cell y c e;rw[Dx ndP hp hu (by show scope.names.lookup y≠_;rw[k];decide)]at q;exact q
 .exact e0.mO.fresh (jw (x.above y c (gL h)))
 .unfold yg;show _=N.length;rw[cZ,cV,iK];omega
def LG{CX:KR}{P:Pg}{w:Wo}{K:ql}{mg:Str->Option Vl}{base:Heap}{k:Nat}{f:Addr}{name qual:Str}{params:Arguments}{body:List Stmt}{scope:Scope}{dV kV Xq pm WW ct oc:Vl}{an od:Option Addr} {XI:Array (Option Vl)} {N ps:List Str} {sp:Sp} (lk:K.lookup f=some ⟨oc,od,.func (W.fnOf name qual params body scope dV kV Xq pm an WW ct),XI⟩) (X1:W.codeIn K WW qual=true) (S:sW N ps scope) (len:∀vs H Q E,sp vs H Q E->vs.length=ps.length) (Xa:∀(A:Ar) (outer:List Env) (s:Sd) (H:Hp) (vs:List V) (Q:VK) (E:XK),rM k (A.deeper (envOfC qual scope s.heap.objs.size f WW))->sp vs H Q E->
   ∃t,BR (va CX P w K mg base N qual scope f WW A outer s H E) body t/\t {nx:=λ_ H'=>Q .mH H',rt:=Q} (yg N vs) H):
  xb P w K mg base CX (k+1) f (W.fnOf name qual params body scope dV kV Xq pm an WW ct) ps sp:=by
 refine⟨len,λA outer s H args us vs Q E hr e0 hb r Yg=>?_⟩;have hl:=len _ _ _ _ Yg;have KX:K.In s.heap:=e0.mod.oz.keeps λb o e=>(e0.bs b o e).1;have lim:s.heap.NoLimit:=e0.mod.nolimit.keeps λb o e=>(e0.bs b o e).1;have hkind:∀y∈ps.zip us,scope.names.lookup y.1=some .local\/(scope.names.lookup y.1=some .cell/\((cellsFrom (s.heap.objs.size+1) scope.names []).lookup y.1).isSome=true):=λ⟨n,v⟩ hy=>by
  rcases S.par n (jO hy).1 with q|q
  .exact .inl q
  .exact .inr ⟨q,lG _ _ _ (.inl q)⟩
 refine codeAny_call_function hr.depth (KX _ _ lk) rfl S.co S.gen rfl (W.codeRec_of KX X1) (hb _ _ _ _ ?_);refine wpAny_newFunctionEnv_cells S.kind hkind λenv he s1 x=>?_;subst he;refine⟨lim.keeps x.toInCall.keep,codeAny_func ?_⟩;obtain⟨t,ht,hq⟩:=Xa A outer s H vs Q E (hr.deeper _) Yg;have I:Inv (va CX P w K mg base N qual scope f WW A outer s H E) [] (yg N vs) H s1:=Kg S hr.hd e0 hl r x;refine eh (ht [] s1 (yg N vs) H _ I hq) (λfl s' hs=>?_) λe s' hs=>hs;have WR:∀{σ':St} {H':Hp} {v:V} {u:Vl},Inv (va CX P w K mg base N qual scope f WW A outer s H E) [] σ' H' s'->qH v u->Q v H'->CE outer P w H s Q u s':=
  λ{σ' H' v u} J rv q=>⟨v,H',J.os,J.bare,J.base,J.mO,rv,q⟩
 cases fl with
 | ret u=>obtain⟨v,σ',H',J,rv,q⟩:=hs;exact WR J rv q
 | next=>obtain⟨σ',H',J,q⟩:=hs;exact WR (v:=V.mH) (u:=Value.none) J rfl q
 | brk=>obtain⟨_,_,_,q⟩:=hs;exact False.elim q
 | cont=>obtain⟨_,_,_,q⟩:=hs;exact False.elim q
variable {id T:String}{r:List V→Hp→VK→Prop}
section
variable {x:Str}{e:Expr}{t:TA}
def Wq(r:List V->Hp->VK->Prop)(t:TA):TE:=λσ H Q=>t σ H λvs H1=>r vs H1 Q
def MQ(hc:zq X (.builtin id) r)(hg:Gl X x)(hm:X.mg x=none)(hv:bootBuiltins x=some (.builtin id))(ha:PA X (e::es) t)(hn:x≠"__name__":=by decide)(W5:yk x:=by decide)
  (he:AH X e es:=by rfl) (W4:Cw X pos es:=by rfl):PE X (.Call (.Name x p) (e::es) [] pos) (Wq r t):=by
 intro WN s σ H Q I h;refine fR (vO I hg hm hv ?_ hn W5);exact gO (su (ha pos WN s σ H _ I h) λus s1 zz=>x5 zz λvs H1 I1 r1 q1=>hc WN s1 σ H1 vs us Q I1 r1 q1) he W4
def J4(hc:zq X (.type T) r)(hg:Gl X x)(hm:X.mg x=none)(hv:bootBuiltins x=some (.type T))(ha:PA X (e::es) t)(hn:x≠"__name__":=by decide)(W5:yk x:=by decide)
  (he:AH X e es:=by rfl) (W4:Cw X pos es:=by rfl):PE X (.Call (.Name x p) (e::es) [] pos) (Wq r t):=by
 intro WN s σ H Q I h;refine fR (vO I hg hm hv ?_ hn W5);exact fL (su (ha pos WN s σ H _ I h) λus s1 zz=>x5 zz λvs H1 I1 r1 q1=>hc WN s1 σ H1 vs us Q I1 r1 q1) he W4
end
end L2
namespace HT
open PySem PyProof.Rows
section
open PySem.SeqAt
open PySem.AutoSeq1 (wpAny_loadPart')
open PySem.MeetsSeq PySem.MeetsSeq2 PySem.MeetsSeq3
end
variable {prog:Pg}{w:Wo}{A:Ar}{E:Vl→Sd→Prop}{s:Sd}
def PK{t b:Addr}{vs ws:List Vl}{Q:Vl->Sd->Prop}(ht:IsTup s.heap t vs.toArray)(hb:IsTup s.heap b ws.toArray)(hv:vs≠[]) (h1:ws=[]->Q (.ref t) s) (h2:ws≠[]->Q (.ref s.heap.objs.size) {s with heap:=s.heap.push {cls:=.type "tuple",data:=.seq (vs++ws).toArray}})
  (hsz:vs.length+ws.length<=sizeLine):wpAny (model prog w) A (binaryOp .Add (.ref t) (.ref b)) Q E s:=by
 obtain⟨⟨cls,dd,data,sl⟩,ho,hc,n,hd⟩:=id ht;obtain⟨⟨cls2,dd2,data2,sl2⟩,ho2,hc2,n2,hd2⟩:=id hb;simp only at hc hd hc2 hd2;subst hc hd hc2 hd2;have e:vs.toArray++ws.toArray=(vs++ws).toArray:=by simp
 by_cases hw:ws=[]
 .exact kI ⟨_,ho,rfl⟩ ⟨_,ho2,rfl⟩ lH seq_tuple_add jV jM (jz _ _)
   (tuple_addW1 t b vs.toArray ws.toArray n n2 dd dd2 sl sl2 (by simpa using hv) (by simp[hw])) ⟨ho,ho2,h1 hw⟩
 .refine kI ⟨_,ho,rfl⟩ ⟨_,ho2,rfl⟩ lH seq_tuple_add jV jM (jz _ _)
   (tuple_addW2 t b vs.toArray ws.toArray n n2 dd dd2 sl sl2 (by simpa using hv) (by simpa using hw) (by rw[dz,dz];exact hsz)) ⟨ho,ho2,?_⟩
  rw[e];exact h2 hw
def sY(n d:Nat):Option Int->Nat
 | none=>d
 | some v=>if v<0 then(v+(n:Int)).toNat else min v.toNat n
def Co(n d:Nat):sY n d none=d:=rfl
def JF(n d k:Nat):sY n d (some (k:Int))=min k n:=by show(if (k:Int)<0 then((k:Int)+(n:Int)).toNat else min (k:Int).toNat n)=min k n;rw[de (by omega),jk]
def RI(n d:Nat)(hd:d<=n)(o:Option Int):sY n d o<=n:=by
 cases o with
 | none=>exact hd
 | some v=>
  show(if v<0 then(v+(n:Int)).toNat else min v.toNat n)<=n;by_cases hv:v<0
  .rw[dg hv];omega
  .rw[de hv];exact Nat.min_le_right _ _
def JE(v:Int)(n d:Nat):(if v<0 then max (v+(n:Int)) 0 else min v (n:Int))=((sY n d (some v):Nat):Int):=by
 show(if v<0 then max (v+(n:Int)) 0 else min v (n:Int))=(((if v<0 then(v+(n:Int)).toNat else min v.toNat n):Nat):Int);by_cases hv:v<0
 .simp only[dg hv];omega
 .simp only[de hv];omega
def Ie(lo hi:Option Int)(n:Nat):Builtin.Slice.sliceAdjust lo hi 1 (n:Int)=(((sY n 0 lo:Nat):Int),((sY n n hi:Nat):Int)):=by
 have h1:¬((1:Int)<0):=by omega
 unfold Builtin.Slice.sliceAdjust;simp only[h1,ke];refine mj ?_ ?_
 .cases lo with
  | none=>rfl
  | some v=>exact JE v n 0
 .cases hi with
  | none=>rfl
  | some v=>exact JE v n n
def Ia(i j:Nat):Builtin.Slice.slicePlaces (i:Int) (j:Int) 1=j - i:=by
 unfold Builtin.Slice.slicePlaces;have h1:(1:Int)>0:=by omega
 simp only[h1,iZ,Int.ediv_one];split<;>omega
def Cj{v:Vl}{o:Option Int}{Q:Option Int->Sd->Prop}(p:IsPart v o)(h:Q o s):wpAny (model prog w) A (Builtin.Slice.slicePartIndex v) Q E s:=by
 cases p with
 | none=>exact slicePart_none h
 | int i t=>exact slicePart_int h
def wb{sl:Addr}{vl vu:Vl}{lo hi:Option Int}{n:Nat}{Q:Int×Int×Nat->Sd->Prop}(hs:s.heap.IsSliceOf sl vl vu .none)(pl:IsPart vl lo)(pu:IsPart vu hi) (h:Q (((sY n 0 lo:Nat):Int),1,sY n n hi - sY n 0 lo) s):wpAny (model prog w) A (Builtin.Slice.sliceApplied (.ref sl) (pure (n:Int))) Q E s:=by
 obtain⟨os,Zy,Zd,X3⟩:=id hs;unfold Builtin.Slice.sliceApplied Builtin.Slice.sliceFields;refine cW (cW (fh Zy X3 (x:=vl) rfl (cW (fh Zy X3 (x:=vu) rfl (cW (fh Zy X3 (x:=.none) rfl (dq ?_)))))));refine cW (slicePart_none ?_);show wpAny _ _ (if ((1:Int)==0)=true then _ else _) _ _ s;rw[de (by decide)];refine cW (Cj pl (cW (Cj pu (cW (dq ?_)))));show wpAny _ _ (match Builtin.Slice.sliceAdjust lo hi 1 (n:Int)with|(lo,hi)=>pure (lo,(1:Int),Builtin.Slice.slicePlaces lo hi 1)) _ _ s;rw[Ie lo hi n];show wpAny _ _ (pure (((sY n 0 lo:Nat):Int),(1:Int),Builtin.Slice.slicePlaces ((sY n 0 lo:Nat):Int) ((sY n n hi:Nat):Int) 1)) _ _ s;rw[Ia];exact dq h
def MR(xs:Array Vl)(i k:Nat):((List.range k).filterMap λ(m:Nat)=>xs[((i:Int)+(m:Int)*1).toNat]?).toArray=((xs.toList.drop i).take k).toArray:=by
 have e:(λ(m:Nat)=>xs[((i:Int)+(m:Int)*1).toNat]?)=λm=>xs[i+m]?:=by
  funext m;have:((i:Int)+(m:Int)*1).toNat=i+m:=by omega
  rw[this]
 rw[e];have:=pick_run xs i k;rw[List.filterMap_map]at this;have e2:((λx=>xs[x]?)∘λx=>i+x)=λm=>xs[i+m]?:=rfl;rw[e2]at this;rw[this]
def y0{t sl:Addr}{WO:Array Vl}{vl vu:Vl}{lo hi:Option Int}{Q:Vl->Sd->Prop}(ht:IsTup s.heap t WO)(hs:s.heap.IsSliceOf sl vl vu .none)(pl:IsPart vl lo)(pu:IsPart vu hi) (hw:¬(sY WO.size 0 lo=0/\sY WO.size WO.size hi=WO.size)) (h:Q (.ref s.heap.objs.size) {s with heap:=s.heap.push {cls:=.type "tuple",data:=.seq ((WO.toList.drop (sY WO.size 0 lo)).take (sY WO.size WO.size hi - sY WO.size 0 lo)).toArray}})
  (hsz:WO.size<=sizeLine):wpAny (model prog w) A (getItem (.ref t) (.ref sl)) Q E s:=by
 have Yb:sizeOk (.seq ((WO.toList.drop (sY WO.size 0 lo)).take (sY WO.size WO.size hi - sY WO.size 0 lo)).toArray):=by show((WO.toList.drop (sY WO.size 0 lo)).take (sY WO.size WO.size hi - sY WO.size 0 lo)).toArray.size<=sizeLine;rw[dz,fS,gx,ii];omega
 have hj:sY WO.size WO.size hi<=WO.size:=RI _ _ (dw _) hi;obtain⟨os,Zy,Zd,X3⟩:=id hs;have hTs:s.TypeIs (.ref sl) "slice":=⟨os,Zy,Zd⟩;unfold getItem
 try with_reducible refine eU ?_
 first|refine cW (dq ?_)|skip
 refine cW (jl ht.typeIs (by decide) ?_);refine cW (fN (name:=Str.ofString "__getitem__") ht.typeIs fC
  (fT fC ht.typeIs kA ?_ (kK _ _)))
 show wpAny _ _ (Builtin.Tuple.tupleItemsOf (.ref t)>>=_) _ _ s;refine cW (tupleItemsOf_ ht ?_);refine cW (jA hTs ?_);rw[dg (by decide)];refine cW (wb hs pl pu ?_);have hno:¬((((sY WO.size 0 lo:Nat):Int)==0&&(1:Int)==1&&(sY WO.size WO.size hi - sY WO.size 0 lo)==WO.size)=true):=by intro q;rw[dW,dW]at q;have q1:((sY WO.size 0 lo:Nat):Int)=0:=eq_of_beq q.1.1;have q2:sY WO.size WO.size hi - sY WO.size 0 lo=WO.size:=eq_of_beq q.2;exact hw ⟨by omega,by omega⟩
 show wpAny _ _ (if (((sY WO.size 0 lo:Nat):Int)==0&&(1:Int)==1&&(sY WO.size WO.size hi - sY WO.size 0 lo)==WO.size)=true then _ else _) _ _ s;rw[de hno,MR]
 first
  | exact cW (m:=Builtin.Tuple.tupleExact _) (fU (dq ⟨_,rfl,dq h⟩) Yb)
  | exact cW (m:=Builtin.Tuple.tupleExact _) (fU (cW (dq (dq ⟨_,rfl,dq h⟩))) Yb)
  | exact cW (cW (m:=Builtin.Tuple.tupleExact _) (fU (dq (dq ⟨_,rfl,dq h⟩)) Yb))
  | exact cW (cW (m:=Builtin.Tuple.tupleExact _) (fU (dq ⟨_,rfl,dq h⟩) Yb))
end HT
namespace L2
open PySem PySem.Spec PyProof.Rows
abbrev TO:=St->Hp->(Option Int->Hp->Prop)->Prop
def PO(X:Cx)(e:Option Expr)(t:TO):Prop:=
 ∀(WN:List (Addr×Obj)) (s:Sd) (σ:St) (H:Hp) (Q:Option Int->Hp->Prop),Inv X WN σ H s->t σ H Q->
  wpAny (model X.prog X.w) X.A (evalPart e X.env) (λu s'=>∃o H',Inv X WN σ H' s'/\IsPart u o/\Q o H') X.xe s
def PQ:TO:=λ_ H Q=>Q none H
def UG(t:TE):TO:=λσ H Q=>t σ H λx H1=>∃i,x=.int i/\Q (some i) H1
variable {X:Cx}{e:Expr}{te:TE}{lo hi:Option Expr}{tl th:TO}{pos p2:Pos}
def ON:PO X none PQ:=by intro WN s σ H Q I h;rw[evalPart_none];exact dq ⟨none,H,I,.none,h⟩
def O5(h:PE X e te):PO X (some e) (UG te):=by intro WN s σ H Q I hw;rw[evalPart_some];refine su (h WN s σ H _ I hw) λu s1 zz=>x5 zz λx H1 I1 r1 q1=>?_;obtain⟨i,rfl,q⟩:=q1;obtain⟨t,rfl⟩:=r1;exact⟨some i,H1,I1,.int i t,q⟩
def T4(X:Cx)(r:V->Option Int->Option Int->Hp->VK->Prop):Prop:=
 ∀(WN:List (Addr×Obj)) (s:Sd) (σ:St) (H:Hp) (x:V) (v vl vu:Vl) (lo hi:Option Int) (sl:Addr) (Q:VK),Inv X WN σ H s->qH x v->s.heap.IsSliceOf sl vl vu .none->IsPart vl lo->IsPart vu hi->r x lo hi H Q->
  ∃T id,typeLookup (.type T) "__getitem__"=pure (some (.builtin id))/\s.TypeIs v T/\wpAny (model X.prog X.w) X.A (getItem v (.ref sl)) (EP X WN σ Q) X.xe s
def WA(r:V->Option Int->Option Int->Hp->VK->Prop)(te:TE)(tl th:TO):TE:=λσ H Q=>te σ H λx H1=>tl σ H1 λl H2=>th σ H2 λu H3=>r x l u H3 Q
def LD{r:V->Option Int->Option Int->Hp->VK->Prop}(hr:T4 X r)(he:PE X e te)(hl:PO X lo tl)(hu:PO X hi th):PE X (.Subscript e (.Slice lo hi none p2) pos) (WA r te tl th):=by intro WN s σ H Q I h;refine Subscript_ (su (he WN s σ H _ I h) λv s1 zz=>x5 zz λx H1 I1 r1 q1=>?_);refine wpAny_Slice (su (hl WN s1 σ H1 _ I1 q1) λvl s2 zz=>x5 zz λl H2 I2 pl q2=>su (hu WN s2 σ H2 _ I2 q2) λvu s3 zz=>x5 zz λu H3 I3 pu q3=>?_);rw[evalPart_none];refine dq ?_;have I4:Inv X WN σ H3 {s3 with heap:=s3.heap.push {cls:=.type "slice",data:=.fields #[vl,vu,.none]}}:=I3.kept (t':=s3.toks) λb ob q=>df _ q;obtain⟨T,id,hT,ht,hg⟩:=hr WN {s3 with heap:=s3.heap.push {cls:=.type "slice",data:=.fields #[vl,vu,.none]}} σ H3 x v vl vu l u s3.heap.objs.size Q I4 r1 (mC ..) pl pu q3;show wpAny (model X.prog X.w) X.A (subscriptTail e (.Slice lo hi none p2) v (.ref s3.heap.objs.size)) (EP X WN σ Q) X.xe {s3 with heap:=s3.heap.push {cls:=.type "slice",data:=.fields #[vl,vu,.none]}};exact tail_any (ops:=[.ref s3.heap.objs.size,v]) ht hT hg (by with_unfolding_all rfl)
def BU(xs:List V)(lo hi:Option Int):List V:=(xs.drop (HT.sY xs.length 0 lo)).take (HT.sY xs.length xs.length hi - HT.sY xs.length 0 lo)
def Ao(xs:List V)(lo hi:Option Int):(BU xs lo hi).length<=xs.length:=by unfold BU;rw[fS,gx];omega
def VD(K:ql):V->Option Int->Option Int->Hp->VK->Prop:=λx lo hi H Q=>∃a xs,x=.ref a/\uR K H a xs/\
 ¬(HT.sY xs.length 0 lo=0/\HT.sY xs.length xs.length hi=xs.length)/\∀p,H p=none->Q (.ref p) (upd H p (.tup (BU xs lo hi)))
def R0:T4 X (VD X.K):=by
 intro WN s σ H x v vl vu lo hi sl Q I rx hs pl pu h;obtain⟨a,xs,rfl,hx,hw,q⟩:=h;cases rx;obtain⟨its,r,ht,hz⟩:=I.tuple hx;have WT:its.toArray.size=xs.length:=by rw[dz];exact r.length.symm
 refine⟨"tuple",_,fC.lookup,ht.typeIs,?_⟩;refine HT.y0 ht hs pl pu (by rw[WT];exact hw) ?_ (by rw[WT];exact hz);rw[WT];refine⟨.ref s.heap.objs.size,_,I.laid (t':=s.toks) (o:=.tup (BU xs lo hi)) (λb ob q=>df _ q) (dw _) ?_,rfl,q _ (I.mO.fresh (dw _))⟩;exact⟨dX (Ao xs lo hi) hz,_,(r.drop (HT.sY xs.length 0 lo)).take (HT.sY xs.length xs.length hi - HT.sY xs.length 0 lo),D7.new _ _⟩
def TK(K:ql):R2:=λx y H Q=>∃a b xs ys,x=.ref a/\y=.ref b/\uR K H a xs/\uR K H b ys/\xs≠[]/\xs.length+ys.length<=sizeLine/\
 (ys=[]->Q (.ref a) H)/\(ys≠[]->∀p,H p=none->Q (.ref p) (upd H p (.tup (xs++ys))))
def qw.nI{xs:List V}{us:List Vl}(r:qw xs us):us=[]↔xs=[]:=by
 cases r with
 | nil=>simp
 | cons _ _=>simp
def NZ:xg X (binaryOp .Add) (TK X.K):=by intro WN s σ H x y v u Q I rx ry h;obtain⟨a,b,xs,ys,rfl,rfl,ha,hb,hx,hz,q1,q2⟩:=h;cases rx;cases ry;obtain⟨its,r1,p1,_⟩:=I.tuple ha;obtain⟨its2,r2,p2,_⟩:=I.tuple hb;refine HT.PK p1 p2 (λz=>hx (r1.nI.mp z)) (λz=>⟨.ref a,H,I,rfl,q1 (r2.nI.mp z)⟩) (λz=>?_) (by rw[<-r1.length,<-r2.length];exact hz);refine⟨.ref s.heap.objs.size,_,I.laid (t':=s.toks) (o:=.tup (xs++ys)) (λb ob q=>df _ q) (dw _) ?_,rfl,q2 (λw=>z (r2.nI.mpr w)) _ (I.mO.fresh (dw _))⟩;exact⟨by rw[cZ];exact hz,_,r1.append r2,D7.new _ _⟩
def FY(n:Nat)(i:Int):Option Nat:=if 0<=i then(if i<n then some i.toNat else none)else if -(n:Int)<=i then some (i+n).toNat else none
def wj{α:Type}(xs:List α)(i:Int):Option α:=(FY xs.length i).bind λj=>xs[j]?
def Iq{n:Nat}{i:Int}{j:Nat}(h:FY n i=some j):seqIndex? i n=some j/\j<n/\-(n:Int)<=i/\i<n:=by
 unfold FY at h;by_cases h0:0<=i
 .rw[dg h0]at h;by_cases h1:i<n
  .rw[dg h1]at h;have e:i.toNat=j:=dn h;exact⟨by rw[ly h0 h1,e],by omega,by omega,h1⟩
  .rw[de h1]at h;cases h
 .rw[de h0]at h;by_cases h1:-(n:Int)<=i
  .rw[dg h1]at h;have e:(i+n).toNat=j:=dn h;exact⟨by rw[kM (by omega) h1,e],by omega,h1,by omega⟩
  .rw[de h1]at h;cases h
def FC{α:Type}{xs:List α}{i:Int}{v:α}(h:wj xs i=some v):∃j,seqIndex? i xs.length=some j/\xs[j]?=some v/\j<xs.length/\-(xs.length:Int)<=i/\i<xs.length:=by
 unfold wj at h;cases e:FY xs.length i with
 | none=>rw[e]at h;cases h
 | some j=>rw[e]at h;obtain⟨h1,h2,h3,h4⟩:=Iq e;exact⟨j,h1,h,h2,h3,h4⟩
def uV{α:Type}{xs:List α}{j:Nat}{v:α}(h:xs[j]?=some v):wj xs (j:Int)=some v:=by
 have hj:j<xs.length:=(cX.mp h).1;have e:FY xs.length (j:Int)=some j:=by unfold FY;rw[dg (by omega),dg (by omega)];simp
 unfold wj;rw[e];exact h
def A7(b:Expr):Prop:=∀o i,subscripted b false o i=operate [o,i] (getItem o i)
def SY(X:Cx)(r:R2):Prop:=
 ∀(value WX:Expr) (WN:List (Addr×Obj)) (s:Sd) (σ:St) (H:Hp) (x y:V) (v u:Vl) (Q:VK),Inv X WN σ H s->qH x v->qH y u->r x y H Q->
  subscripted WX false v u=operate [v,u] (getItem v u)->wpAny (model X.prog X.w) X.A (subscriptTail value WX v u) (EP X WN σ Q) X.xe s
def Wu(X:Cx)(id:String)(r:V->List V->Hp->VK->Prop):Prop:=
 ∀(WN:List (Addr×Obj)) (s:Sd) (σ:St) (H:Hp) (x:V) (xs:List V) (v:Vl) (us:List Vl) (Q:VK),Inv X WN σ H s->qH x v->qw xs us->r x xs H Q->
  wpAny (model X.prog X.w) X.A (call (.builtin id) (v::us)) (EP X WN σ Q) X.xe s
variable {o:Expr}{es:List Expr}{to:TE}{t:TA}{name:Str}{WQ WU:Pos}{T id:String}{r:V→List V→Hp→VK→Prop}{a:Expr}{ta tb:TE}
section
variable {b:Expr}
def Ml{r:R2}(hr:SY X r)(ha:PE X a ta)(hb:PE X b tb)(hs:A7 b):PE X (.Subscript a b pos) (Tc r ta tb):=by intro WN s σ H Q I h;exact Subscript_ (Sk ha hb I h λv u s2 x y H2 I2 rx ry q=>hr a b WN s2 σ H2 x y v u Q I2 rx ry q (hs _ _))
def Vd(K:ql):R2:=λx y H Q=>∃p xs i v,x=.ref p/\y=.int i/\yR K H p xs/\wj xs i=some v/\Q v H
def VU(K:ql):R2:=λx y H Q=>∃p xs i v,x=.ref p/\y=.int i/\uR K H p xs/\wj xs i=some v/\Q v H
def Vw:R2:=λx y H Q=>∃z i c,x=.str z/\y=.int i/\z.length<=sizeLine/\wj z.cps.toList i=some c/\Q (.str ⟨#[c]⟩) H
def Jr:SY X (Vd X.K):=by
 intro value WX WN s σ H x y v u Q I rx ry h hs;obtain⟨p,xs,i,z,rfl,rfl,hq,he,q⟩:=h;cases rx;obtain⟨t,rfl⟩:=ry;obtain⟨its,r,pl,hz⟩:=I.list hq;obtain⟨j,h1,h2,h3,h4,h5⟩:=FC he;obtain⟨w,ew,YU⟩:=r.get h2;have hl:=r.length;have hn:=yo;have WR:EP X WN σ Q w s:=⟨z,H,I,YU,q⟩;by_cases h0:0<=i
 .have hj:i.toNat=j:=by rw[ly h0 h5]at h1;exact dn h1
  exact item_listR pl.isList h0 (by omega) (by rw[hj];simpa using ew) WR hs
 .have hj:(i+(its.toArray.size:Int)).toNat=j:=by rw[kM (by omega) h4]at h1;rw[dz,<-hl];exact dn h1
  exact jW (x:=w) pl.isList.typeIs k9.lookup
   (wpAny_getItem_list_neg (Q:=λr s'=>r=w/\EP X WN σ Q r s') pl.isList (by omega) (by rw[dz]<;>omega) (by omega) (by rw[hj];simpa using ew) ⟨rfl,WR⟩) hs
def Su:SY X (VU X.K):=by
 intro value WX WN s σ H x y v u Q I rx ry h hs;obtain⟨p,xs,i,z,rfl,rfl,hq,he,q⟩:=h;cases rx;obtain⟨t,rfl⟩:=ry;obtain⟨its,r,pl,hz⟩:=I.tuple hq;obtain⟨j,h1,h2,h3,h4,h5⟩:=FC he;obtain⟨w,ew,YU⟩:=r.get h2;have hl:=r.length;have hn:=yo;have WR:EP X WN σ Q w s:=⟨z,H,I,YU,q⟩;exact jW (x:=w) pl.typeIs slot_tuple_getitem.lookup
  (getItem_tuple (j:=j) (Q:=λr s'=>r=w/\EP X WN σ Q r s') pl (by omega) (by omega) (by rw[dz,<-hl];exact h1) (by simpa using ew) ⟨rfl,WR⟩) hs
def SH:SY X Vw:=by
 intro value WX WN s σ H x y v u Q I rx ry h hs;obtain⟨z,i,c,rfl,rfl,hz,he,q⟩:=h;obtain⟨t,rfl⟩:=rx;obtain⟨t',rfl⟩:=ry;obtain⟨j,h1,h2,h3,h4,h5⟩:=FC he;have hl:z.cps.toList.length=z.length:=by simp[Str.length]
 rw[hl]at h1 h4 h5;have hn:=yo;exact tail_any (typeIs_str s z t) slot_str_getitem.lookup (getItem_str (c:=c) (by
  have e1:decide (i< -(2 ^ 63:Int))=false:=eN (by omega);have e2:decide (i>=2 ^ 63)=false:=eN (by omega);rw[e1,e2,ku]) (by rw[h1];simpa using h2) ⟨.str ⟨#[c]⟩,H,I.tok _,⟨_,rfl⟩,q⟩) hs
def HC(its:List Vl)(n j:Nat)(u:Vl):Obj.mapSeq (·.setIfInBounds j u) {cls:=.type "list",data:=.seq its.toArray n}={cls:=.type "list",data:=.seq (its.set j u).toArray n}:=by simp[Obj.mapSeq]
def Inv.lst{WN:List (Addr×Obj)}{σ:St}{H:Hp}{s:Sd}{p:Addr}{xs:List V}(I:Inv X WN σ H s)(h:H p=some (.lst xs)):
  ∃(its:List Vl) (n:Nat),qw xs its/\s.heap.get? p=some {cls:=.type "list",data:=.seq its.toArray n}/\xs.length<=sizeLine:=by
 obtain⟨z,its,n,r,e⟩:=I.mO p _ h;exact⟨its,n,r,e,z⟩
def Inv.oo{WN:List (Addr×Obj)}{σ:St}{H:Hp}{s:Sd}{p:Addr}{xs ys:List V}{its its':List Vl}{n n':Nat}{f:Obj->Obj}(I:Inv X WN σ H s)(h:H p=some (.lst xs)) (ho:s.heap.get? p=some {cls:=.type "list",data:=.seq its.toArray n}) (hf:f {cls:=.type "list",data:=.seq its.toArray n}={cls:=.type "list",data:=.seq its'.toArray n'}) (r:qw ys its') (hz:ys.length<=sizeLine) (t:Nat):
  Inv X WN σ (upd H p (.lst ys)) {s with heap:=s.heap.update p f,toks:=t}:=by
 have e:(s.heap.update p f).get? p=some {cls:=.type "list",data:=.seq its'.toArray n'}:=by rw[fH f ho (by rw[hf]<;>rfl),hf]
 refine I.write (x:=p) (e:=p) (by rw[h];trivial) (.inl rfl) (λb u hb q=>(fZ _ _ (dO hb)).trans q) ⟨_,e⟩ ?_;exact⟨hz,its',n',r,e⟩
def UK:V->V->V->Hp->(Hp->Prop)->Prop:=λo i v H Q=>∃p xs k j,o=.ref p/\i=.int k/\H p=some (.lst xs)/\FY xs.length k=some j/\Q (upd H p (.lst (xs.set j v)))
def L7:Th X UK:=by
 intro WN s σ H o i v ov iv u Q I ro ri rv h;obtain⟨p,xs,k,j,rfl,rfl,hp,hj,q⟩:=h;cases ro;obtain⟨t,rfl⟩:=ri;obtain⟨its,n,r,ho,hz⟩:=I.lst hp;obtain⟨h1,h2,h3,h4⟩:=Iq hj;have hl:=r.length;have hn:=yo;have I':Inv X WN σ (upd H p (.lst (xs.set j v))) {s with heap:=s.heap.update p (Obj.mapSeq (·.setIfInBounds j u))}:=
  I.oo hp ho (HC its n j u) (r.set rv j) (by rw[ij];exact hz) s.toks
 by_cases h0:0<=k
 .have hk:k.toNat=j:=by rw[ly h0 h4]at h1;exact dn h1
  exact W.ki_setAt ho h0 (by omega) (by rw[dz,<-hl];exact h4) (by rw[hk];exact⟨_,I',q⟩)
 .have hk:(k+(its.toArray.size:Int)).toNat=j:=by rw[kM (by omega) h3]at h1;rw[dz,<-hl];exact dn h1
  exact W.ki_setBack ho (by omega) (by rw[dz,<-hl];exact h3) (by omega) (by rw[hk];exact⟨_,I',q⟩)
def Ea(lo hi:Option Int)(n:Nat):(sliceBounds lo hi none n).1=((HT.sY n 0 lo:Nat):Int)/\(sliceBounds lo hi none n).2.1=((HT.sY n n hi:Nat):Int)/\(sliceBounds lo hi none n).2.2=1:=by
 refine⟨?_,?_,rfl⟩
 .cases lo with
  | none=>simp[sliceBounds,HT.sY]
  | some i=>
   simp only[sliceBounds,HT.sY,lJ,show(1:Int)>0 by decide,iZ];by_cases h:i<0
   .simp only[h,iZ]<;>omega
   .simp only[h,ke]<;>omega
 .cases hi with
  | none=>simp[sliceBounds,HT.sY]
  | some i=>
   simp only[sliceBounds,HT.sY,lJ,show(1:Int)>0 by decide,iZ];by_cases h:i<0
   .simp only[h,iZ]<;>omega
   .simp only[h,ke]<;>omega
def CD(its:List Vl)(lo hi:Option Int):slicePick its.toArray lo hi none=((its.drop (HT.sY its.length 0 lo)).take (HT.sY its.length its.length hi - HT.sY its.length 0 lo)).toArray:=by obtain⟨h1,h2,h3⟩:=Ea lo hi its.toArray.size;unfold slicePick;rw[h1,h2,h3];simp only[sliceRange_one,pick_run,dz]<;>rfl
def VB(K:ql):V->Option Int->Option Int->Hp->VK->Prop:=λx lo hi H Q=>∃a xs,x=.ref a/\yR K H a xs/\∀p,H p=none->Q (.ref p) (upd H p (.lst (BU xs lo hi)))
def JB:T4 X (VB X.K):=by intro WN s σ H x v vl vu lo hi sl Q I rx hs pl pu h;obtain⟨a,xs,rfl,hx,q⟩:=h;cases rx;obtain⟨its,r,ht,hz⟩:=I.list hx;have WT:=r.length;refine⟨"list",_,k9.lookup,ht.isList.typeIs,?_⟩;refine wpAny_getItem_list_slice ht.isList hs pl pu .none (by simp) ?_ (by rw[dz]<;>omega);rw[CD,<-WT];refine⟨.ref s.heap.objs.size,_,I.laid (t':=s.toks) (o:=.lst (BU xs lo hi)) (λb ob q=>df _ q) (dw _) ?_,rfl,q _ (I.mO.fresh (dw _))⟩;exact⟨dX (Ao xs lo hi) hz,_,0,(r.drop (HT.sY xs.length 0 lo)).take (HT.sY xs.length xs.length hi - HT.sY xs.length 0 lo),dG _ rfl⟩
def yf:V->Bool
 | .mH=>true
 | .bl _=>true
 | .int _=>true
 | .str _=>true
 | _=>false
def NL:V->V->Bool
 | .mH,.mH=>true
 | .bl a,.bl b=>a==b
 | .bl a,.int b=>(if a then 1 else 0)==b
 | .int a,.bl b=>a==(if b then 1 else 0)
 | .int a,.int b=>a==b
 | .str a,.str b=>a==b
 | _,_=>false
def Sn{A:Ar}{s:Sd}{y x:V}{u v:Vl}(ry:qH y u)(rx:qH x v)(fy:yf y=true)(fx:yf x=true):SeqAt.EqAt A s u v (NL y x):=by
 cases y with
 | mH=>
  cases ry;cases x with
  | mH=>cases rx;exact SeqAt.EqAt.same _
  | bl b=>cases rx;exact SeqAt.EqAt.none_bool b
  | int b=>obtain⟨t,rfl⟩:=rx;exact SeqAt.EqAt.none_int b t
  | str b=>obtain⟨t,rfl⟩:=rx;exact SeqAt.EqAt.none_str b t
  | _=>exact absurd (show false=true from fx) dB
 | bl a=>
  cases ry;cases x with
  | mH=>cases rx;exact SeqAt.EqAt.bool_none a
  | bl b=>cases rx;exact SeqAt.EqAt.bool_bool a b
  | int b=>obtain⟨t,rfl⟩:=rx;exact SeqAt.EqAt.bool_int a b t
  | str b=>obtain⟨t,rfl⟩:=rx;exact SeqAt.EqAt.bool_str a b t
  | _=>exact absurd (show false=true from fx) dB
 | int a=>
  obtain⟨t',rfl⟩:=ry;cases x with
  | mH=>cases rx;exact SeqAt.EqAt.int_none a t'
  | bl b=>cases rx;exact SeqAt.EqAt.int_bool a t' b
  | int b=>obtain⟨t,rfl⟩:=rx;exact SeqAt.EqAt.int_int a t' b t
  | str b=>obtain⟨t,rfl⟩:=rx;exact kF a t' b t
  | _=>exact absurd (show false=true from fx) dB
 | str a=>
  obtain⟨t',rfl⟩:=ry;cases x with
  | mH=>cases rx;exact SeqAt.EqAt.str_none a t'
  | bl b=>cases rx;exact SeqAt.EqAt.str_bool a t' b
  | int b=>obtain⟨t,rfl⟩:=rx;exact kG a t' b t
  | str b=>obtain⟨t,rfl⟩:=rx;exact SeqAt.EqAt.str_str a t' b t
  | _=>exact absurd (show false=true from fx) dB
 | _=>exact absurd (show false=true from fy) dB
def E6(x:V)(u:Vl):Bool:=match u with
 | .none=>NL .mH x
 | .bool b=>NL (.bl b) x
 | .int i _=>NL (.int i) x
 | .str z _=>NL (.str z) x
 | _=>false
def Ih{x y:V}{u:Vl}(r:qH y u)(f:yf y=true):E6 x u=NL y x:=by
 cases y with
 | mH=>cases r;rfl
 | bl b=>cases r;rfl
 | int i=>obtain⟨t,rfl⟩:=r;rfl
 | str z=>obtain⟨t,rfl⟩:=r;rfl
 | _=>exact absurd (show false=true from f) dB
theorem zr{x:V}:∀{xs:List V} {us:List Vl},qw xs us->xs.all yf=true->us.any (E6 x)=xs.any λy=>NL y x
 | _,_,.nil,_=>rfl
 | y::xs,u::us,.cons r t,f=>by rw[eW,dW]at f;rw[gb,gb,Ih r f.1,zr t f.2]
theorem we{A:Ar}{s:Sd}{x:V}{v:Vl}(rx:qH x v)(fx:yf x=true):∀{xs:List V} {us:List Vl},qw xs us->xs.all yf=true->∀u∈us,SeqAt.EqAt A s u v (E6 x u)
 | _,_,.nil,_=>λu hu=>by cases hu
 | y::xs,u::us,.cons r t,f=>λu' hu=>by
  rw[eW,dW]at f;rcases dh.mp hu with rfl|hu
  .rw[Ih r f.1];exact Sn r rx f.1 fx
  .exact we rx fx t f.2 u' hu
def inV(x:V)(xs:List V):Bool:=xs.any λy=>NL y x
def V4(K:ql)(Yj:Bool):R2:=λx y H Q=>∃p xs,y=.ref p/\(yR K H p xs\/uR K H p xs)/\yf x=true/\xs.all yf=true/\Q (.bl (if Yj then !inV x xs else inV x xs)) H
def Kh:xg X (compareOp .In) (V4 X.K false):=by
 intro WN s σ H x y v u Q I rx ry h;obtain⟨p,xs,rfl,hq,fx,fs,q⟩:=h;cases ry;rcases hq with hq|hq
 .obtain⟨its,r,pl,hz⟩:=I.list hq;refine SeqAt.in_listAt (E6 x) pl.isList (λw hw=>we rx fx r fs w (by simpa using hw)) ⟨.bl _,H,I,rfl,?_⟩;rw[show its.toArray.any (E6 x)=its.any (E6 x)by simp,zr r fs];exact q
 .obtain⟨its,r,pl,hz⟩:=I.tuple hq;refine SeqAt.in_tupleAt (E6 x) pl (λw hw=>we rx fx r fs w (by simpa using hw)) ⟨.bl _,H,I,rfl,?_⟩;rw[show its.toArray.any (E6 x)=its.any (E6 x)by simp,zr r fs];exact q
def Eb:xg X (compareOp .NotIn) (V4 X.K true):=by
 intro WN s σ H x y v u Q I rx ry h;obtain⟨p,xs,rfl,hq,fx,fs,q⟩:=h;cases ry;rcases hq with hq|hq
 .obtain⟨its,r,pl,hz⟩:=I.list hq;refine SeqAt.notIn_listAt (E6 x) pl.isList (λw hw=>we rx fx r fs w (by simpa using hw)) ⟨.bl _,H,I,rfl,?_⟩;rw[show its.toArray.any (E6 x)=its.any (E6 x)by simp,zr r fs];exact q
 .obtain⟨its,r,pl,hz⟩:=I.tuple hq;refine SeqAt.notIn_tupleAt (E6 x) pl (λw hw=>we rx fx r fs w (by simpa using hw)) ⟨.bl _,H,I,rfl,?_⟩;rw[show its.toArray.any (E6 x)=its.any (E6 x)by simp,zr r fs];exact q
def Ef:xg X (compareOp .NotIn) (λx y H Q=>∃i j,x=.str i/\y=.str j/\Q (.bl (!(!(Builtin.Str.occurrences j i 0 j.length 1).isEmpty))) H):=by intro WN s σ H x y v u Q I rx ry h;obtain⟨i,j,rfl,rfl,q⟩:=h;obtain⟨t,rfl⟩:=rx;obtain⟨t',rfl⟩:=ry;exact notIn_str ⟨.bl _,H,I,rfl,q⟩
def wB:zq X (.builtin "len") (λxs H Q=>∃p ys,xs=[.ref p]/\(yR X.K H p ys\/uR X.K H p ys)/\Q (.int ys.length) H):=by
 intro WN s σ H xs us Q I r h;obtain⟨p,ys,rfl,hq,q⟩:=h;obtain⟨u,rfl,rx⟩:=ye r;cases rx;have hn:=yo;rcases hq with hq|hq
 .obtain⟨its,r',pl,hz⟩:=I.list hq;have WT:=r'.length;exact Calls.call_len_list pl.isList (by simp only[dz]<;>omega) ⟨.int ys.length,H,I.tok _,⟨s.toks+1,by rw[dz,WT]⟩,q⟩
 .obtain⟨its,r',pl,hz⟩:=I.tuple hq;have WT:=r'.length;exact len_tuple pl (by simp only[dz]<;>omega) ⟨.int ys.length,H,I.tok _,⟨s.toks+1,by rw[dz,WT]⟩,q⟩
def D9:zq X (.builtin "len") (λxs H Q=>∃z,xs=[.str z]/\z.length<=sizeLine/\Q (.int z.length) H):=by intro WN s σ H xs us Q I r h;obtain⟨z,rfl,hz,q⟩:=h;obtain⟨u,rfl,t,rfl⟩:=ye r;have hn:=yo;exact len_str (by omega) ⟨.int z.length,H,I.tok _,⟨_,rfl⟩,q⟩
def E8:zq X (.type "list") (λxs H Q=>∃p ys,xs=[.ref p]/\(yR X.K H p ys\/uR X.K H p ys)/\∀l,H l=none->Q (.ref l) (upd H l (.lst ys))):=by
 intro WN s σ H xs us Q I r h;obtain⟨p,ys,rfl,hq,q⟩:=h;obtain⟨u,rfl,rx⟩:=ye r;cases rx;have WR:∀(its:List Vl),qw ys its->ys.length<=sizeLine->∀(h':Heap) (c':Nat),(∀b o',s.heap.get? b=some o'->h'.get? b=some o')->
   h'.get? s.heap.objs.size=some {cls:=.type "list",dict:=none,data:=.seq its.toArray c',slots:=#[]}->EP X WN σ Q (.ref s.heap.objs.size) {s with heap:=h'}:=λits r' hz h' c' kp e=>
  ⟨.ref s.heap.objs.size,_,I.laid (t':=s.toks) kp (dw _) (show rP X.prog X.w _ h' _ (.lst ys)from⟨hz,its,c',r',e⟩),rfl,q _ (I.mO.fresh (dw _))⟩
 rcases hq with hq|hq
 .obtain⟨its,r',pl,hz⟩:=I.list hq;have WT:=r'.length;obtain⟨o,ho,hc,n,hd⟩:=pl.isList;exact call_list_seq p (.inl rfl) ho hc hd (λh' c' kp e=>WR its r' hz h' c' kp e) (by simp only[dz]<;>omega)
 .obtain⟨its,r',pl,hz⟩:=I.tuple hq;have WT:=r'.length;obtain⟨o,ho,hc,n,hd⟩:=pl;exact call_list_seq p (.inr rfl) ho hc hd (λh' c' kp e=>WR its r' hz h' c' kp e) (by simp only[dz]<;>omega)
def vM:zq X (.type "tuple") (λxs H Q=>∃p ys,xs=[.ref p]/\((yR X.K H p ys/\∀l,H l=none->Q (.ref l) (upd H l (.tup ys)))\/(uR X.K H p ys/\Q (.ref p) H))):=by
 intro WN s σ H xs us Q I r h;obtain⟨p,ys,rfl,h⟩:=h;obtain⟨u,rfl,rx⟩:=ye r;cases rx;rcases h with⟨hq,q⟩|⟨hq,q⟩
 .obtain⟨its,r',pl,hz⟩:=I.list hq;have WT:=r'.length;refine call_tuple_list pl.isList (λh' kp=>?_) (by simp only[dz]<;>omega);have I1:Inv X WN σ H {s with heap:=h'}:=I.kept (t':=s.toks) kp;have I2:Inv X WN σ (upd H h'.objs.size (.tup ys)) {s with heap:=h'.push {cls:=.type "tuple",data:=.seq its.toArray}}:=
   I1.laid (t':=s.toks) (λb o e=>df _ e) (dw _) (show rP X.prog X.w _ _ _ (.tup ys)from⟨hz,its,r',D7.new _ _⟩)
  exact⟨.ref h'.objs.size,_,I2,rfl,q _ (I1.mO.fresh (dw _))⟩
 .obtain⟨its,r',pl,hz⟩:=I.tuple hq;exact call_tuple_same pl ⟨.ref p,H,I,rfl,q⟩
def VW(K:ql)(T:String)(x:V)(H:Hp):Prop:=match x with
 | .str _=>T="str"
 | .int _=>T="int"
 | .ref p=>(T="list"/\∃xs,yR K H p xs)\/(T="tuple"/\∃o,K.lookup p=some o/\o.cls=.type "tuple"/\o.dict=none)\/
   (T="dict"/\((∃kvs,H p=some (.dK kvs))\/∃kvs,H p=some (.dT kvs)))\/(T="set"/\∃S n,H p=some (.set S n))
 | _=>False
def LN{WN:List (Addr×Obj)}{σ:St}{H:Hp}{s:Sd}{T:String}{x:V}{v:Vl}(I:Inv X WN σ H s)(r:qH x v)(ty:VW X.K T x H):
  s.TypeIs v T/\∀a,v=.ref a->∃ob,s.heap.get? a=some ob/\ob.dict=none:=by
 cases x with
 | str z=>obtain⟨t,rfl⟩:=r;cases(show T="str" from ty);exact⟨typeIs_str s z t,λ_ e=>nomatch e⟩
 | int i=>obtain⟨t,rfl⟩:=r;cases(show T="int" from ty);exact⟨lU s i t,λ_ e=>nomatch e⟩
 | ref p=>
  cases r;rcases ty with⟨rfl,xs,hq⟩|⟨rfl,o,hk,hc,hd⟩|⟨rfl,hk⟩|⟨rfl,S,n,hk⟩
  .obtain⟨its,_,pl,_⟩:=I.list hq;refine⟨pl.isList.typeIs,λa e=>?_⟩;cases e;obtain⟨o,n,e,c,hd,_⟩:=pl;exact⟨o,e,hd⟩
  .refine⟨⟨o,I.mY p o hk,hc⟩,λa e=>?_⟩;cases e;exact⟨o,I.mY _ o hk,hd⟩
  .have z:∃o,s.heap.get? p=some o/\o.ExactDict:=by
    rcases hk with⟨kvs,hk⟩|⟨kvs,hk⟩
    .obtain⟨_,_,_,_,o,_,_,e,ex,_⟩:=I.mO p _ hk;exact⟨o,e,ex⟩
    .obtain⟨_,_,_,_,o,_,_,e,ex,_⟩:=I.mO p _ hk;exact⟨o,e,ex⟩
   obtain⟨o,e,ex⟩:=z;refine⟨⟨o,e,ex.1⟩,λa e2=>?_⟩;cases e2;exact⟨o,e,ex.2.1⟩
  .obtain⟨o,_,_,_,e,ex,_⟩:=I.mO p _ hk;refine⟨⟨o,e,ex.1⟩,λa e2=>?_⟩;cases e2;exact⟨o,e,ex.2.1⟩
 | _=>exact False.elim ty
def WH(K:ql)(T:String)(r:V->List V->Hp->VK->Prop)(to:TE)(t:TA):TE:=λσ H Q=>to σ H λx H1=>VW K T x H1/\t σ H1 λxs H2=>r x xs H2 Q
def Ts(pa:PlainAttrs T)(slot:Slot T name id)(hty:typeOf (.builtin id)=pure (.type "method_descriptor"))(hm:Wu X id r)(ho:PE X o to)(ha:PA X (e::es) t) (W0:attributeBase o name X.env (eval o X.env)=eval o X.env:=by rfl)
  (X4:((backTo WU (starEach (e::es) X.env)).all (λx=>!x.1)&&(backToKw WU (keywordEach [] X.env)).all (λx=>x.1.isSome)
   &&decide ((e::es).length+([]:List Keyword).length+(if ([]:List Keyword).isEmpty then 0 else 1)<30))=true:=by rfl)
  (Xb:(WQ.endLine==WU.line)=true:=by rfl) (hs:AH X e es:=by rfl) (W6:Cw X WU es:=by rfl):
  PE X (.Call (.Attribute o name WQ) (e::es) [] WU) (WH X.K T r to t):=by
 intro WN s σ H Q I h;refine wpAny_Call_method_late W0 X4 Xb rfl (su (ho WN s σ H _ I h) λv s1 zz=>?_);obtain⟨x,H1,I1,r1,ty,q1⟩:=zz;obtain⟨h1,h2⟩:=LN I1 r1 ty;refine⟨T,id,pa,slot,hty,h1,h2,?_⟩;have hA:=ha WU WN s1 σ H1 _ I1 q1;rw[hs]at hA ⊢;refine jX (by show(false||(backTo WU (starEach es X.env)).any (·.1))=false;rw[W6]<;>rfl) (Calls.evalArgs_plain ?_);exact su hA λus s2 zz=>x5 zz λvs H2 I2 r2 q2=>hm WN s2 σ H2 x vs v us Q I2 r1 r2 q2
end
def WD(X:Cx)(id:String)(r:V->List V->Hp->VK->Prop):Prop:=
 ∀(WN:List (Addr×Obj)) (s:Sd) (σ:St) (H:Hp) (x:V) (xs:List V) (v:Vl) (us:List Vl) (Q:VK),Inv X WN σ H s->qH x v->qw xs us->r x xs H Q->
  wpAny (model X.prog X.w) X.A (call (.builtin id) (v::us)) (EP X WN σ Q) X.xe s
def qw.one:∀{x:V} {us:List Vl},qw [x] us->∃u,us=[u]/\qH x u
 | _,_,.cons r .nil=>⟨_,rfl,r⟩
theorem qw.rep{xs:List V}{us:List Vl}(h:qw xs us):∀k:Nat,qw (List.replicate k xs).flatten (List.replicate k us).flatten
 | 0=>.nil
 | k+1=>by rw[eJ,eJ,fP,fP];exact qw.append h (qw.rep h k)
theorem DI(its:List Vl):∀(k:Nat) (acc:List Vl),List.foldl (λx1 x2=>x1++x2) acc.toArray (List.replicate k its.toArray)=(acc++(List.replicate k its).flatten).toArray
 | 0,acc=>by simp
 | k+1,acc=>by
  have e:acc.toArray++its.toArray=(acc++its).toArray:=by simp
  have e2:(acc++its)++(List.replicate k its).flatten=acc++(List.replicate (k+1) its).flatten:=by rw[eJ,fP,fj]
  rw[<-e2,<-DI its k (acc++its),<-e,eJ,fW]
variable {WN:List (Addr × Obj)}{σ:St}{H:Hp}{s:Sd}{l:Addr}{xs ys zs:List V}
section
variable {b:Addr}
def Inv.lset{its its':List Vl}{n:Nat}{f:Array Vl->Array Vl}{t':Nat}(I:Inv X WN σ H s)(hH:H l=some (.lst xs)) (e:s.heap.get? l=some {cls:=.type "list",data:=.seq its.toArray n}) (hf:f its.toArray=its'.toArray) (hv:qw ys its') (hz:ys.length<=sizeLine):
  Inv X WN σ (upd H l (.lst ys)) {s with heap:=s.heap.update l (Obj.mapSeq f),toks:=t'}:=by
 have q:=PySem.IsL.update e f;rw[hf]at q;refine I.write (x:=l) (e:=l) (by rw[hH];exact trivial) (.inl rfl) (λb' u hb hu=>(fZ s.heap (Obj.mapSeq f) (dO hb)).trans hu) ⟨_,q⟩ ?_;exact⟨hz,its',_,hv,q⟩
def Inv.oG{its:List Vl}{t':Nat}(I:Inv X WN σ H s)(hv:qw ys its)(hz:ys.length<=sizeLine):
  Inv X WN σ (upd H s.heap.objs.size (.lst ys)) {s with heap:=s.heap.push {cls:=.type "list",data:=.seq its.toArray},toks:=t'}:=
 I.laid (λ_ _ q=>df _ q) (dw _) ⟨hz,its,0,hv,dG _ rfl⟩
def Inv.fresh(I:Inv X WN σ H s):H s.heap.objs.size=none:=I.mO.fresh (dw _)
def Inv.oJ(I:Inv X WN σ H s)(hH:H l=some (.lst xs)):xs.length<=sizeLine/\∃(its:List Vl) (n:Nat),qw xs its/\xs.length=its.length/\s.heap.get? l=some {cls:=.type "list",data:=.seq its.toArray n}:=by obtain⟨z,its,n,r,e⟩:=I.mO l _ hH;exact⟨z,its,n,r,r.length,e⟩
def Mz{n:Nat}(h:n<=sizeLine):Builtin.List.listTooLong n=false:=by unfold Builtin.List.listTooLong;exact eN (by omega)
end
def OT:V->List V->Hp->VK->Prop:=λx vs H Q=>∃l xs y,x=.ref l/\vs=[y]/\H l=some (.lst xs)/\xs.length<sizeLine/\Q .mH (upd H l (.lst (xs++[y])))
def KM:WD X "list.append" OT:=by intro WN s σ H x vs v us Q I rx rv h;obtain⟨l,xs,y,rfl,rfl,hH,hz,q⟩:=h;cases rx;obtain⟨u,rfl,ru⟩:=rv.one;obtain⟨z,its,n,r,hl,e⟩:=I.oJ hH;refine jq F.slot_list_append ⟨_,e,rfl⟩ F.entry_list_append (F.args_list_append_2 _ _) (PySem.list_append l its.toArray n u (by rw[dz];omega)) ⟨e,?_⟩;refine⟨.mH,_,I.lset (its':=its++[u]) hH e (by simp) (r.append (.cons ru .nil)) ?_,rfl,q⟩;rw[cZ,dP];omega
def VQ:R2:=λx y H Q=>∃l k xs,x=.ref l/\y=.int k/\H l=some (.lst xs)/\-(2 ^ 63)<=k/\k<2 ^ 63/\xs.length*k.toNat<=sizeLine/\
 ∀p,H p=none->Q (.ref p) (upd H p (.lst (List.replicate k.toNat xs).flatten))
def Qi{α:Type}(xs:List α)(k:Nat):(List.replicate k xs).flatten.length=k*xs.length:=by
 induction k with
 | zero=>simp
 | succ k ih=>rw[eJ,fP,cZ,ih,mo,Nat.add_comm]
def R5:xg X (binaryOp .Mult) VQ:=by
 intro WN s σ H x y v u Q I rx ry h;obtain⟨l,k,xs,rfl,rfl,hH,h1,h2,hz,q⟩:=h;cases rx;obtain⟨t,rfl⟩:=ry;obtain⟨z,its,n,r,hl,e⟩:=I.oJ hH;have WT:its.toArray.size*k.toNat<=sizeLine:=by rw[dz,<-hl];exact hz
 have hcap:¬its.toArray.size*k.toNat>(2 ^ 63 - 1) / 8:=by
  have:(sizeLine:Nat)<=(2 ^ 63 - 1) / 8:=by decide
  omega
 have Xm:¬(!Builtin.List.listFitsIndex k)=true:=by rw[fitsIndex_both h1 h2];exact dB
 have hlong:¬Builtin.List.listTooLong (its.toArray.size*k.toNat)=true:=by rw[Mz WT];exact dB
 have Yp:List.foldl (λx1 x2=>x1++x2) #[] (List.replicate (if its.toArray.isEmpty=true then 0 else k.toNat) its.toArray)=(List.replicate k.toNat its).flatten.toArray:=by
  have f0:∀m:Nat,List.foldl (λx1 x2=>x1++x2) #[] (List.replicate m its.toArray)=(List.replicate m its).flatten.toArray:=λm=>by have:=DI its m [];rw[d9]at this;exact this
  rw[f0];cases its with
  | nil=>simp
  | cons a r'=>rw[de (by simp)]
 refine wpAny_binaryOp_repeat_ref (T:="list") (U:="int") (by decide) ⟨_,e,rfl⟩ (λs'=>lU s' k t) noFill_list_mul F.fills_int_mul lV repeat_list F.slot_int_index.lookup
  (jq lV (lU s k t) F.entry_int_rmul (F.args_int_rmul_2 _ _) (int___rmul___int_list k t l its.toArray n)
   ⟨e,rfl,⟨_,e,rfl⟩,jq F.slot_list_mul ⟨_,e,rfl⟩ F.entry_list_mul (F.args_list_mul_2 _ _) (AutoListH.list___mul___list_int_3 l its.toArray n k t Xm hcap hlong) ⟨e,?_⟩⟩)
 rw[Yp];exact⟨.ref _,_,I.oG (t':=s.toks) (r.rep k.toNat) (by rw[Qi,Nat.mul_comm];exact hz),rfl,q _ I.fresh⟩
variable {prog:Pg}{w:Wo}{A:Ar}{E:Vl→Sd→Prop}
end L2
namespace Att
open PySem PySem.W PySem.Calls PyProof.Rows
def AQ{P:Params}{h:Heap}:∀(ns:List Int) (vs:List Vl),WellAll P h vs (ns.map WData.int)->IntsAre vs ns:=by
 intro ns;induction ns with
 | nil=>intro vs w;rw[iO]at w;cases w;exact .nil
 | cons n ns ih=>
  intro vs w;rw[dY]at w;cases w with
  | cons a b=>cases a;exact .cons _ _ (ih _ b)
def Kf{l:OpenLaw}{n:Nat}(hn:l.most=some n){P:Params}{h:Heap}{args:List WData}{Zz:List Vl} (YV:l.row.toRowW.claim.pre args=true) (hwl:WellAll P h Zz args):
  ∃a vs ns,Zz=[Value.ref a]/\args=[WData.list (ns.map WData.int)]/\h.get? a=some {cls:=.type "list",data:=.seq vs.toArray}/\IntsAre vs ns/\ns.length<=n:=by
 have hsh:WShape.hasAll [] args [.list .int]=true:=(pre_splitW YV).1;have hc:l.pre.holds [] {args:=args}=true:=(pre_splitW YV).2;obtain⟨d,r,rfl,h1,h2⟩:=hasAllW_cons hsh;obtain rfl:=hasAllW_nil h2;obtain⟨xs,rfl,h3⟩:=hasW_list h1;obtain⟨ns,rfl⟩:=items_int h3;have WT:ns.length<=n:=by
  unfold OpenLaw.pre at hc;have h4:(WTm.not (.lt (.lit (.int (n:Int))) (.len (.arg 0)))).holds [] {args:=[.list (ns.map .int)]}=true:=by have h4:=(holds_andW hc).1;rw[hn]at h4;exact h4
  have h5:=condW_of h4 (w_not (w_lt w_lit (w_len_list (w_arg rfl))));rw[cV]at h5;refine jB λq=>?_;have q':(n:Int)<((ns.length:Nat):Int):=by omega
  first
   | (rw[dZ q']at h5;exact absurd h5 (by decide))
   | (simp at h5;omega)
 cases hwl with
 | cons w1 w2=>
  cases w2;cases w1 with
  | list ho XQ=>exact⟨_,_,ns,rfl,rfl,ho,AQ ns _ XQ,WT⟩
def JP(l:OpenLaw)(args:List WData):l.row.toRowW.claim.post args (.bool true) args=true:=
 postW_of (r:=l.row.toRowW) (X:=(true==true))
  (show WShape.has [] (.bool true) .bool=true by first|rfl|decide|simp[WShape.has,WShape.arms,WShape.armsAll])
  (show(WTm.eq .res (.lit (.bool true))).value [] {args:=args,res:=some (.bool true),after:=args}=some (.bool (true==true))from w_eq_bool (w_res rfl) w_lit) rfl
def attach_call{l:OpenLaw}{n:Nat}{q:Pg}{Xy:List Str}{XP:(Str->Option Vl)->Heap->Prop}{YP:Wo->Heap->Prop}{d:DefRec} (hn:l.most=some n) (Ze:d.params.defaults=[]) (call:∀(w:Wo) (s₀ s₁:Sd) (mg mb:Str->Option Vl) (fa:Addr) (o:Obj) (pm cd Xq:Vl) (a:Addr) (vs:List Vl) (ns:List Int),Ground q Xy [] XP w s₀ mg mb s₁.heap->YP w s₁.heap->
   s₁.heap.get? fa=some o->o.data=.func (docDef d.name d.params d.body d.scope pm cd Xq)->s₁.heap.CodeRec cd d.name->mg d.name=some (.ref fa)->
   s₁.heap.get? a=some {cls:=.type "list",data:=.seq vs.toArray}->IntsAre vs ns->ns.length<=n->s₁.gens=#[]->
   codeAny (model l.prog w) callerA (.call (.ref fa) ⟨[.ref a],[]⟩) (λr s'=>r=.ok (.ret (.bool true))/\OldK s₁.heap s'.heap/\s'.os=s₁.os/\AllBare s'.gens) s₁):
  WalkO q Xy XP YP l.row.toRowW d [] (λf vs=>PySem.call f vs):=by
 intro w s₀ s₁ mg mb G Y fa o pm cd Xq dV kV ho hd X1 hD hmg hg args Zz as YV hlay hrd hwl hlo;obtain rfl:dV=.none:=Dflts.none hD Ze;obtain rfl:kV=.none:=Dflts.noKw hD;obtain⟨a,vs,ns,rfl,rfl,ZA,Yq,WT⟩:=Kf hn YV hwl;refine enter_call (gj (call w s₀ s₁ mg mb fa o pm cd Xq a vs ns G Y ho (fd_plain hd) X1 hmg ZA Yq WT hg) λr s' hq=>?_);obtain⟨rfl,h2,h3,h4⟩:=hq;exact⟨.inl ⟨.bool true,.bool true,[],rfl,λ_=>rfl,.bool true,JP l _,λ_=>⟨List.Pairwise.nil,λ_ hm=>(nomatch hm)⟩⟩,h2,h3,h4⟩
variable {prog:Pg}{w:Wo}{A:Ar}{E:Vl→Sd→Prop}{s:Sd}{K:Frag}
end Att
namespace L2
open PySem PySem.Spec PyProof.Rows
theorem DR:∀{vs:List Vl} {ns:List Int},IntsAre vs ns->qw (ns.map V.int) vs
 | _,_,.nil=>.nil
 | _,_,.cons n t h=>.cons ⟨t,rfl⟩ (DR h)
def LS(H:Hp):Prop:=∀b,H b=none\/∃o xs,H b=some (.frz o (.lst xs))
def LU{P:Pg}{w:Wo}{K:ql}{mg mb:Str->Option Vl}{CX:KR}{k:Nat}{fa a:Addr}{fd:FuncData}{x:Str}{sp:Sp}{s₁:Sd}{vs:List Vl}{ns:List Int} (KX:K.In s₁.heap) (hns:s₁.heap.Ns mainGlobals mg) (hb:s₁.heap.Ns builtinsNs mb) (hbb:∀x:Str,x≠"__name__"->mb x=bootBuiltins x) (hlim:s₁.heap.NoLimit) (hg:s₁.gens=#[]) (ha:s₁.heap.get? a=some {cls:=.type "list",data:=.seq vs.toArray}) (hi:IntsAre vs ns) (hl:ns.length<=sizeLine) (hr:rM k callerA)
  (F:∀base:Heap,K.In base->base.Ns mainGlobals mg->xb P w K mg base CX k fa fd [x] sp) (hbind:∀(s:Sd) (u:Vl),BindsTo s fd ⟨[u],[]⟩ [(x,u)])
  (Yg:∀H:Hp,LS H->yR K H a (ns.map V.int)->sp [.ref a] H (λv _=>v=.bl true) λ_ _ _=>False)
  (hCX:∀H e s',CX [] H s₁ (λ_ _ _=>False) e s'->False):
  codeAny (model P w) callerA (.call (.ref fa) ⟨[.ref a],[]⟩) (λr s'=>r=.ok (.ret (.bool true))/\OldK s₁.heap s'.heap/\s'.os=s₁.os/\AllBare s'.gens) s₁:=by
 have rv:=DR hi;have lenV:=hi.length;have core:∀H:Hp,LS H->yR K H a (ns.map V.int)->ya P w H s₁.heap->(∀b,H b≠none->b=a)->(H a≠none->K.lookup a=none)->
   codeAny (model P w) callerA (.call (.ref fa) ⟨[.ref a],[]⟩) (λr s'=>r=.ok (.ret (.bool true))/\OldK s₁.heap s'.heap/\s'.os=s₁.os/\AllBare s'.gens) s₁:=by
  intro H hO hS mO hA hK;have Yc:∀{b:Addr} {o:Obj},s₁.heap.get? b=some o->H b=none->(El s₁.heap H).get? b=some o:=λe n=>L5 e n;have noA:∀{b:Addr} {o:Obj} {es:Array DictEntry} {ep:Nat},s₁.heap.get? b=some o->o.data=.dict es ep->H b=none:=λ{b o es ep} e d=>by
   cases q:H b with
   | none=>rfl
   | some u=>have e':b=a:=hA b (by rw[q];simp);subst e';rw[ha]at e;cases e;have d':Data.seq vs.toArray _=Data.dict es ep:=d;cases d'
  have nsK:∀{b:Addr} {m:Str->Option Vl},s₁.heap.Ns b m->(El s₁.heap H).Ns b m:=λ{b m} ⟨o,es,ep,e,d,r⟩=>⟨o,es,ep,Yc e (noA e d),d,r⟩;have hKb:K.In (El s₁.heap H):=λb o e=>Yc (KX b o e) (by
   cases q:H b with
   | none=>rfl
   | some u=>
    have e':b=a:=hA b (by rw[q];simp);subst e';rw[hK (by rw[q];simp)]at e;cases e)
  have hM:Mod K mg (El s₁.heap H):=⟨hKb,nsK hns,⟨mb,nsK hb,hbb⟩,let⟨mc,h1,h2⟩:=hlim;⟨mc,nsK h1,h2⟩⟩;have e0:Hh P w K mg (El s₁.heap H) callerA [] s₁ H:=⟨rfl,hM,λb o e=>Pi e,mi (Kr _ _),trivial,λb hb=>absurd (show b∈([]:List Addr)from hb) (by simp),mO,.of_eq hg⟩;refine gj ((F _ hKb (nsK hns)).run callerA [] s₁ H ⟨[.ref a],[]⟩ [.ref a] [.ref a] _ _ hr e0 (hbind s₁ (.ref a)) (.cons rfl .nil) (Yg H hO hS)) λr s' h=>?_;cases r with
  | error e=>exact(hCX H e s' h).elim
  | ok fl=>
   cases fl with
   | next=>exact False.elim h
   | brk=>exact False.elim h
   | cont=>exact False.elim h
   | ret u=>
    obtain⟨v,H',os,bare,un,ZC,r',q⟩:=h;have q':v=.bl true:=q;subst q';obtain rfl:u=Value.bool true:=r';refine⟨rfl,OldK.of_keep λb o e=>?_,os,bare⟩;cases q:H b with
    | none=>exact un.keep b o e q (by intro z;exact absurd (show b∈([]:List Addr)from z) (by simp)) (by simp)
    | some u=>
     rcases hO b with z|⟨ob,xs,z⟩
     .rw[q]at z;cases z
     .have z2:=un.nE b ob _ z;obtain⟨e1,_⟩:=mO b _ z;obtain⟨e2,_⟩:=ZC b _ z2;rw[e]at e1;cases e1;exact e2
 cases hk:K.lookup a with
 | some o=>have e:=KX a o hk;rw[ha]at e;cases e;refine core (λ_=>none) (λ_=>.inl rfl) (.inr ⟨_,vs.toArray,_,hk,rfl,rfl,rfl,by rw[dz,lenV];exact hl,by simpa using rv⟩) (λb u z=>by have z':(none:Option HO)=some u:=z;cases z') (λb z=>absurd rfl z) λz=>absurd rfl z
 | none=>
  refine core (λb=>if b=a then some (.frz {cls:=.type "list",data:=.seq vs.toArray} (.lst (ns.map V.int)))else none) (λb=>?_) (.inl (.inr ⟨{cls:=.type "list",data:=.seq vs.toArray},dg rfl⟩)) (λb u z=>?_) (λb z=>?_) λ_=>hk
  .by_cases hb:b=a
   .exact .inr ⟨_,_,dg hb⟩
   .exact .inl (de hb)
  .by_cases hb:b=a
   .have z':=(dg hb).symm.trans z;cases z';subst hb;exact⟨ha,by rw[cV];exact hl,vs,_,rv,ha⟩
   .have z':=(de hb).symm.trans z;cases z'
  .by_cases hb:b=a
   .exact hb
   .exact absurd (de hb) z
def P6{l:W.OpenLaw}{n k:Nat}{q:Pg}{Xy:List Str}{XP:(Str->Option Vl)->Heap->Prop}{YP:Wo->Heap->Prop}{d:DefRec}{K:Params->ql}{CX:Wo->KR}{sp:Wo->Sp}{x:Str} (hn:l.most=some n) (Zu:n<=sizeLine) (Ze:d.params.defaults=[]) (hr:rM k callerA) (hY:∀(w:Wo) (h:Heap),YP w h->(K w.params).In h) (F:∀(w:Wo) (mg:Str->Option Vl) (fa:Addr) (h:Heap),(K w.params).In h->h.Ns mainGlobals mg->mg d.name=some (.ref fa)->
   ∃fd:FuncData,(∀(s:Sd) (u:Vl),BindsTo s fd ⟨[u],[]⟩ [(x,u)])/\
    ∀base:Heap,(K w.params).In base->base.Ns mainGlobals mg->xb l.prog w (K w.params) mg base (CX w) k fa fd [x] (sp w))
  (Yg:∀(w:Wo) (H:Hp) (a:Addr) (ns:List Int),ns.length<=n->LS H->yR (K w.params) H a (ns.map V.int)->sp w [.ref a] H (λv _=>v=.bl true) λ_ _ _=>False)
  (hCX:∀(w:Wo) (H:Hp) (s:Sd) (e:Vl) (s':Sd),CX w [] H s (λ_ _ _=>False) e s'->False):
  W.WalkO q Xy XP YP l.row.toRowW d [] (λf vs=>PySem.call f vs):=by
 refine Att.attach_call hn Ze λw s₀ s₁ mg mb fa o pm cd Xq a vs ns G Y ho hd X1 hmg ZA Yq WT hg=>?_;have KX:=hY w _ Y;obtain⟨fd,hb,hF⟩:=F w mg fa _ KX G.T.g hmg;exact LU KX G.T.g G.T.b G.T.builtins G.T.nolimit hg ZA Yq (dX WT Zu) hr hF hb (λH hO hS=>Yg w H a ns WT hO hS) λH e s'=>hCX w H s₁ e s'
def Oh(s:Stmt)(j:Nat):Stmt:=match s with
 | .ClassDef _ _ _ body _ _ _ _ _ _ _=>body.getD j (.Pass ⟨0,0,0,0⟩)
 | _=>.Pass ⟨0,0,0,0⟩
def ua(s:Stmt):Arguments:=match s with
 | .FunctionDef _ a _ _ _ _ _ _ _ _=>a
 | _=>{posonlyargs:=[],args:=[],vararg:=none,kwonlyargs:=[],kw_defaults:=[],kwarg:=none,defaults:=[]}
def rE(s:Stmt):List Stmt:=match s with
 | .FunctionDef _ _ b _ _ _ _ _ _ _=>b
 | _=>[]
def pX(s:Stmt):Scope:=match s with
 | .FunctionDef _ _ _ _ _ _ sc _ _ _=>sc
 | _=>{kind:=.function,names:=[],isGenerator:=false,isCoroutine:=false}
abbrev NI:KR:=λ_ _ _ _ _ _=>False
abbrev E0:XK:=λ_ _ _=>False
def Gk{X:Cx}:yp NI X E0:=λ_ _ _ _ _ _ _ h=>h.elim
structure N0(K:ql)(x qual:Str)(st:Stmt)(f:Addr)(fd:FuncData):Prop where
 ex:∃(oc:Vl) (od:Option Addr) (kV Xq pm:Vl) (an:Option Addr) (WW ct:Vl) (XI:Array (Option Vl)),
  fd=W.fnOf x qual (ua st) (rE st) (pX st) .none kV Xq pm an WW ct/\K.lookup f=some ⟨oc,od,.func fd,XI⟩/\W.codeIn K WW qual=true
 kp:W.keepIn K (.ref f)=true
variable {P:Pg}{K:ql}{mg:Str→Option Vl}{base:Heap}
section
variable {w:Wo}
def N0.ok{x qual:Str}{st:Stmt}{f:Addr}{fd:FuncData}{N ps:List Str}{k:Nat}{sp:Sp}(F:N0 K x qual st f fd)(S:sW N ps (pX st))(len:∀vs H Q E,sp vs H Q E->vs.length=ps.length) (Xa:∀(WW:Vl) (A:Ar) (outer:List Env) (s:Sd) (H:Hp) (vs:List V) (Q:VK) (E:XK),rM k (A.deeper (envOfC qual (pX st) s.heap.objs.size f WW))->sp vs H Q E->
   ∃t,BR (va NI P w K mg base N qual (pX st) f WW A outer s H E).ou (rE st) t/\t {nx:=λ_ H'=>Q .mH H',rt:=Q} (yg N vs) H):xb P w K mg base NI (k+1) f fd ps sp:=by
 obtain⟨oc,od,kV,Xq,pm,an,WW,ct,XI,rfl,lk,X1⟩:=F.ex;refine LG lk X1 S len λA outer s H vs Q E hr Yg=>?_;obtain⟨t,h,q⟩:=Xa WW A outer s H vs Q E hr Yg;exact⟨t,h.ou,q⟩
def N0.binds{x qual:Str}{st:Stmt}{f:Addr}{fd:FuncData}{ps:List Str}(F:N0 K x qual st f fd) (h:∀(kV Xq pm:Vl) (an:Option Addr) (WW ct:Vl) (us:List Vl),us.length=ps.length->bindArgs (W.fnOf x qual (ua st) (rE st) (pX st) .none kV Xq pm an WW ct) ⟨us,[]⟩=pure (ps.zip us)):uq K fd ps []:=by
 obtain⟨oc,od,kV,Xq,pm,an,WW,ct,XI,rfl,lk,X1⟩:=F.ex;exact .all (h kV Xq pm an WW ct)
def Ni{x qual:Str}{st:Stmt}{f:Addr}{oc:Vl}{od an:Option Addr}{XI:Array (Option Vl)}{kV Xq pm WW ct:Vl}(l:K.lookup f=some ⟨oc,od,.func (W.fnOf x qual (ua st) (rE st) (pX st) .none kV Xq pm an WW ct),XI⟩) (c:W.codeIn K WW qual=true) (k:W.keepIn K (.ref f)=true):N0 K x qual st f (W.fnOf x qual (ua st) (rE st) (pX st) .none kV Xq pm an WW ct):=⟨⟨oc,od,kV,Xq,pm,an,WW,ct,XI,rfl,l,c⟩,k⟩
end
variable {X:Cx}
def pv(i:Nat){x:Str}{pos:Pos}(hN:X.N[i]?=some x:=by rfl)(hv:Ul X.env.scope x:=by first|exact Or.inl rfl|exact Or.inr (Or.inl rfl)|exact Or.inr (Or.inr rfl))(hd:yk x:=by decide)
  (X1:(x==("__classdict__":Str))=false:=by decide):PE X (.Name x pos) (Ii i):=RP hN hv hd X1
def Cm{A B:Prop}(h:B):if false=true then A else B:=by rw[de dB];exact h
def NY{A B:Prop}(h:A):if true=true then A else B:=by rw[dg rfl];exact h
def qA{c A B:Prop}[Decidable c](h1:c->A)(h2:¬c->B):if c then A else B:=by
 by_cases h:c
 .rw[dg h];exact h1 h
 .rw[de h];exact h2 h
section
variable {κ:Type}[DecidableEq κ]
def wO(kvs:List (κ×V))(k:κ):Option V:=(kvs.find? λkv=>decide (kv.1=k)).map (·.2)
def yJ(kvs:List (κ×V))(k:κ)(v:V):List (κ×V):=
 if (kvs.any λkv=>decide (kv.1=k))=true then kvs.map (λkv=>if kv.1=k then(kv.1,v)else kv)else kvs++[(k,v)]
def BP{p:κ×V}{r:List (κ×V)}{k:κ}(e:p.1=k):wO (p::r) k=some p.2:=by simp[wO,fK,e]
def Cq{p:κ×V}{r:List (κ×V)}{k:κ}(e:¬p.1=k):wO (p::r) k=wO r k:=by simp[wO,fK,e]
theorem Gn(k:κ):∀kvs:List (κ×V),(kvs.any λkv=>decide (kv.1=k))=(wO kvs k).isSome
 | []=>rfl
 | p::r=>by
  rw[gb];by_cases e:p.1=k
  .simp only[BP e,dZ e,gZ,Option.isSome_some]
  .rw[Cq e,eN e,fO];exact Gn k r
def Ag(kvs:List (κ×V))(k:κ)(v:V):(yJ kvs k v).length<=kvs.length+1:=by
 unfold yJ;split
 .rw[cV];omega
 .rw[cZ,eB,dN];omega
def xY.nv{o:Option V}{u:Option Vl}(r:xY o u):o.isSome=u.isSome:=by
 cases o with
 | none=>cases u with
  | none=>rfl
  | some _=>exact(show False from r).elim
 | some _=>cases u with
  | none=>exact(show False from r).elim
  | some _=>rfl
def KV.val{kvs:List (κ×V)}{vs:List (κ×Vl)}(r:KV kvs vs)(k:κ):xY (wO kvs k) (valueAt vs k):=by
 unfold KV at r;induction r with
 | nil=>exact True.intro
 | @cons p q ps qs h t ih=>
  obtain⟨h1,h2⟩:=h;by_cases e:p.1=k
  .have e':q.1=k:=h1.symm.trans e;have b:valueAt (q::qs) k=some q.2:=by simp[valueAt,fK,e']
   rw[BP e,b];exact h2
  .have e':¬q.1=k:=λz=>e (h1.trans z);have b:valueAt (q::qs) k=valueAt qs k:=by simp[valueAt,fK,e']
   rw[Cq e,b];exact ih
def KV.any{kvs:List (κ×V)}{vs:List (κ×Vl)}(r:KV kvs vs)(k:κ):(kvs.any λkv=>decide (kv.1=k))=vs.any λkv=>decide (kv.1=k):=by
 unfold KV at r;induction r with
 | nil=>rfl
 | cons h t ih=>rw[gb,gb,ih,h.1]
def KV.ow{kvs:List (κ×V)}{vs:List (κ×Vl)}(r:KV kvs vs)(k:κ){y:V}{u:Vl}(ry:qH y u):
  KV (kvs.map λkv=>if kv.1=k then(kv.1,y)else kv) (vs.map λkv=>if kv.1=k then(kv.1,u)else kv):=by
 unfold KV at r ⊢;induction r with
 | nil=>exact .nil
 | @cons p q ps qs h t ih=>
  rw[dY,dY];refine .cons ?_ ih;obtain⟨h1,h2⟩:=h;by_cases e:p.1=k
  .rw[dg e,dg (h1.symm.trans e)];exact⟨h1,ry⟩
  .rw[de e,de (λz=>e (h1.trans z))];exact⟨h1,h2⟩
def KV.put{kvs:List (κ×V)}{vs:List (κ×Vl)}(r:KV kvs vs)(k:κ){y:V}{u:Vl}(ry:qH y u):KV (yJ kvs k y) (stored vs k u):=by
 unfold yJ stored;rw[r.any k];by_cases e:(vs.any λkv=>decide (kv.1=k))=true
 .rw[dg e,dg e];exact r.ow k ry
 .rw[de e,de e];exact mz r ⟨rfl,ry⟩
def KV.length{kvs:List (κ×V)}{vs:List (κ×Vl)}(r:KV kvs vs):kvs.length=vs.length:=jh r
end
def GW{P:Pg}{w:Wo}{k:qS}{u:Vl}(r:qH (kV k) u):(rf P w).is k u=true:=by
 cases k with
 | inl i=>obtain⟨t,e⟩:=(show ∃t,u=Value.int i t from r);subst e;exact Gw P w i t
 | inr x=>obtain⟨t,e⟩:=(show ∃t,u=Value.str x t from r);subst e;exact Am P w x t
theorem Dq{P:Pg}{w:Wo}:∀{ks:List qS} {us:List Vl},qw (ks.map kV) us->ItemsAre (rf P w) ks us
 | [],_,r=>by rw[iO]at r;cases r;exact .nil
 | k::ks,_,r=>by
  rw[dY]at r;cases r with
  | cons h t=>exact .cons (GW h) (Dq t)
abbrev KT(H:Hp):List (List qS×V)->List (List qS×Addr×Vl)->Prop:=Paired λp q=>p.1=q.1/\H q.2.1=some (.tup (p.1.map kV))/\qH p.2 q.2.2
def KT.val{H:Hp}{kvs:List (List qS×V)}{xs:List (List qS×Addr×Vl)}(r:KT H kvs xs)(k:List qS):xY (wO kvs k) ((atKey xs k).map (·.2)):=by
 induction r with
 | nil=>exact True.intro
 | @cons p q ps qs h t ih=>
  obtain⟨h1,_,h2⟩:=h;by_cases e:p.1=k
  .have e':q.1=k:=h1.symm.trans e;have b:atKey (q::qs) k=some q.2:=by simp[atKey,fK,e']
   rw[BP e,b];exact h2
  .have e':¬q.1=k:=λz=>e (h1.trans z);have b:atKey (q::qs) k=atKey qs k:=by simp[atKey,fK,e']
   rw[Cq e,b];exact ih
def KT.ow{H:Hp}{kvs:List (List qS×V)}{xs:List (List qS×Addr×Vl)}(r:KT H kvs xs)(k:List qS){y:V}{u:Vl}(ry:qH y u):
  KT H (kvs.map λkv=>if kv.1=k then(kv.1,y)else kv) (xs.map (putAt k u)):=by
 induction r with
 | nil=>exact .nil
 | @cons p q ps qs h t ih=>
  rw[dY,dY];refine .cons ?_ ih;obtain⟨h1,h2,h3⟩:=h;unfold putAt;by_cases e:p.1=k
  .rw[dg e,dg (h1.symm.trans e)];exact⟨h1,h2,ry⟩
  .rw[de e,de (λz=>e (h1.trans z))];exact⟨h1,h2,h3⟩
def KT.put{H:Hp}{kvs:List (List qS×V)}{xs:List (List qS×Addr×Vl)}(r:KT H kvs xs)(k:List qS){b:Addr}{y:V}{u:Vl}(hb:H b=some (.tup (k.map kV)))(ry:qH y u):
  KT H (yJ kvs k y) (storedH xs k b u):=by
 have e:(kvs.any λkv=>decide (kv.1=k))=(atKey xs k).isSome:=by rw[Gn,(r.val k).nv,jm]
 unfold yJ storedH;rw[e];by_cases q:(atKey xs k).isSome=true
 .rw[dg q,dg q];exact r.ow k ry
 .rw[de q,de q];exact mz r ⟨rfl,hb,ry⟩
def KT.keeps{H H':Hp}{kvs:List (List qS×V)}{xs:List (List qS×Addr×Vl)}(r:KT H kvs xs)(ht:∀b ys,H b=some (.tup ys)->H' b=some (.tup ys)):KT H' kvs xs:=
 Paired.og r λ_ _ z=>⟨z.1,ht _ _ z.2.1,z.2.2⟩
variable {H:Hp}{h:Heap}{a:Addr}
section
variable {w:Wo}
def QB{u:HO}(ok:ya P w H h)(e:Rd H a u):rP P w H h a u:=e.ok ok
def Jw{kvs:List (qS×V)}(ok:ya P w H h)(e:Rd H a (.dK kvs)):kvs.length<=sizeLine/\(a==sysModules)=false/\∃vs,KV kvs vs/\h.DictOf (rf P w) a vs:=
 show rP P w H h a (.dK kvs)from QB ok e
def Tp{kvs:List (qS×V)}(ok:ya P w H h)(e:H a=some (.dK kvs)):kvs.length<=sizeLine/\(a==sysModules)=false/\∃vs,KV kvs vs/\h.DictOf (rf P w) a vs:=Jw ok (.inl e)
def ET{ks:List qS}(ok:ya P w H h)(e:H a=some (.tup (ks.map kV))):(tupleKind (rf P w)).is h ks a:=by obtain⟨_,its,r,o,h1,h2,⟨n,h3⟩,_⟩:=(show rP P w H h a (.tup (ks.map kV))from ok a _ e);exact⟨o,its.toArray,n,h1,h2,h3,by simpa using Dq r⟩
def JJ{kvs:List (List qS×V)}(ok:ya P w H h)(e:Rd H a (.dT kvs)):kvs.length<=sizeLine/\(a==sysModules)=false/\
  ∃xs,KT H kvs xs/\h.DictOfH (tupleKind (rf P w)) a xs:=by
 obtain⟨z,y,xs,r,o,es,ep,h1,h2,h3,h4,h5⟩:=(show rP P w H h a (.dT kvs)from QB ok e);refine⟨z,y,xs,r,o,es,ep,h1,h2,h3,h4,λx hx=>?_,h5⟩;have all:∀{l:List (List qS×V)} {m:List (List qS×Addr×Vl)},KT H l m->∀x∈m,(tupleKind (rf P w)).is h x.1 x.2.1:=by
  intro l m q;induction q with
  | nil=>intro x hx;exact nomatch hx
  | @cons p q ps qs hq t ih=>
   intro x hx;rcases dh.mp hx with e|hx
   .subst e;exact ET ok (by rw[<-hq.1];exact hq.2.1)
   .exact ih x hx
 exact all r x hx
def Tq{kvs:List (List qS×V)}(ok:ya P w H h)(e:H a=some (.dT kvs)):kvs.length<=sizeLine/\(a==sysModules)=false/\
  ∃xs,KT H kvs xs/\h.DictOfH (tupleKind (rf P w)) a xs:=JJ ok (.inl e)
end
def E7(H:Hp)(a:Addr)(y:V)(r:Option V):Prop:=
 (∃kvs k,Rd H a (.dK kvs)/\y=kV k/\r=wO kvs k)\/∃kvs k b,Rd H a (.dT kvs)/\y=.ref b/\H b=some (.tup (k.map kV))/\r=wO kvs k
def Nq(H:Hp)(a:Addr)(y v:V)(H':Hp):Prop:=
 (∃kvs k,H a=some (.dK kvs)/\y=kV k/\kvs.length<sizeLine/\H'=upd H a (.dK (yJ kvs k v)))\/
 ∃kvs k b,H a=some (.dT kvs)/\y=.ref b/\H b=some (.tup (k.map kV))/\kvs.length<sizeLine/\H'=upd H a (.dT (yJ kvs k v))
def E7.k{H:Hp}{a:Addr}{kvs:List (qS×V)}{k:qS}(e:H a=some (.dK kvs)):E7 H a (kV k) (wO kvs k):=.inl ⟨kvs,k,.inl e,rfl,rfl⟩
def Nq.k{H:Hp}{a:Addr}{kvs:List (qS×V)}{k:qS}{v:V}(e:H a=some (.dK kvs))(hl:kvs.length<sizeLine):Nq H a (kV k) v (upd H a (.dK (yJ kvs k v))):=.inl ⟨kvs,k,e,rfl,hl,rfl⟩
variable {WN:List (Addr × Obj)}{σ:St}{y v:V}{u r:Vl}
section
variable {s:Sd}{o:Option V}{A:Ar}{E:Vl→Sd→Prop}
def Inv.big(I:Inv X WN σ H s):sysModules<s.heap.objs.size:=by have h:mainGlobals<s.heap.objs.size:=(I.mod.glob.keeps I.bk).lt;exact im (by decide) h
def KF{Q:Vl->Sd->Prop}(hu:A.units+1<cLine)(I:Inv X WN σ H s)(g:E7 H a y (some v))(ry:qH y u)(h:∀w' s',Inv X WN σ H s'->qH v w'->Q w' s'):
  wpAny (model X.prog X.w) A (getItem (.ref a) u) Q E s:=by
 rcases g with⟨kvs,k,e,ey,l⟩|⟨kvs,k,b,e,ey,eb,l⟩
 .subst ey;obtain⟨z,hd,vs,rel,dd⟩:=Jw I.mO e;obtain⟨w',hw,YU⟩:=xY.some_of (v:=v) (o:=valueAt vs k) (by rw[l];exact rel.val k);exact wpAny_getItem_of (GW ry) dd.mapOf hw (h w' _ (I.tok _) YU)
 .subst ey;cases(show u=Value.ref b from ry);obtain⟨z,hd,xs,rel,dd⟩:=JJ I.mO e;obtain⟨w',hw,YU⟩:=xY.some_of (v:=v) (o:=(atKey xs k).map (·.2)) (by rw[l];exact rel.val k);obtain⟨p,hp,WY⟩:=jY.mp hw;refine wpAny_getItem_heap (jc hu) (ET I.mO eb) dd hp ?_;rw[WY];exact h w' _ (I.tok _) YU
def Vj{Q:Vl->Sd->Prop}(hu:A.units+1<cLine)(I:Inv X WN σ H s)(g:E7 H a y o)(ry:qH y u)(h:∀s',Inv X WN σ H s'->Q (.bool o.isSome) s'):
  wpAny (model X.prog X.w) A (compareOp .In u (.ref a)) Q E s:=by
 rcases g with⟨kvs,k,e,ey,l⟩|⟨kvs,k,b,e,ey,eb,l⟩
 .subst ey;obtain⟨z,hd,vs,rel,dd⟩:=Jw I.mO e;refine wpAny_in_of (GW ry) hd dd.mapOf ?_;rw[<-(rel.val k).nv,<-l];exact h _ (I.tok _)
 .subst ey;cases(show u=Value.ref b from ry);obtain⟨z,hd,xs,rel,dd⟩:=JJ I.mO e;refine wpAny_in_heap (jc hu) (ET I.mO eb) hd dd ?_;have q:=(rel.val k).nv;rw[jm]at q;rw[<-q,<-l];exact h _ (I.tok _)
def JD{h':Heap}{t':Nat}{ob:HO}(I:Inv X WN σ H s)(mu:UM (H a))(hs:Heap.SameBut a s.heap h')(he:∃q,h'.get? a=some q)(new:rP X.prog X.w (upd H a ob) h' a ob):
  Inv X WN σ (upd H a ob) {s with heap:=h',toks:=t'}:=
 I.write (x:=a) (e:=a) mu (.inl rfl) (λb q hb z=>(hs.2 b hb).trans z) he new
def LQ{P:Pg}{w:Wo}{H':Hp}{h':Heap}{kvs:List (qS×V)}{vs:List (qS×Vl)}(z:kvs.length<=sizeLine)(hd:(a==sysModules)=false)(rel:KV kvs vs)(dd:h'.DictOf (rf P w) a vs):
  rP P w H' h' a (.dK kvs):=⟨z,hd,vs,rel,dd⟩
def JS{H':Hp}{Q:Unit->Sd->Prop}(hu:A.units+1<cLine)(I:Inv X WN σ H s)(g:Nq H a y v H')(ry:qH y u)(rv:qH v r)(h:∀s',Inv X WN σ H' s'->Q () s'):
  wpAny (model X.prog X.w) A (setItem (.ref a) u r) Q E s:=by
 rcases g with⟨kvs,k,e,ey,l,eH⟩|⟨kvs,k,b,e,ey,eb,l,eH⟩
 .subst ey eH;obtain⟨z,hd,vs,rel,dd⟩:=Tp I.mO e;have hz:vs.length<=sizeLine:=by rw[<-rel.length];exact z
  have hl:(yJ kvs k v).length<=sizeLine:=by have:=Ag kvs k v;omega
  refine wpAny_setItem_pairs (hsz:=hz) (GW ry) dd λh' dd' hs=>h _ ?_;have he:∃q,h'.get? a=some q:=let⟨q,_,_,hq,_⟩:=dd';⟨q,hq⟩;exact JD I (by rw[e];exact True.intro) hs he (LQ hl hd (rel.put k rv) dd')
 .subst ey eH;cases(show u=Value.ref b from ry);obtain⟨z,hd,xs,rel,dd⟩:=Tq I.mO e;have hz:xs.length<=sizeLine:=by rw[<-jh rel];exact z
  have hl:(yJ kvs k v).length<=sizeLine:=by have:=Ag kvs k v;omega
  refine wpAny_setItem_heap (hsz:=hz) (jc hu) (ET I.mO eb) dd λh' dd' hs=>h _ ?_;obtain⟨q,es,ep,hq,h2,h3,h4,_,h5⟩:=dd';refine JD I (by rw[e];exact True.intro) hs ⟨q,hq⟩ ⟨hl,hd,_,(rel.put k eb rv).keeps λc ys ec=>?_,q,es,ep,hq,h2,h3,h4,h5⟩;rw[pZ (Tf ec e (λz=>nomatch z))];exact ec
end
variable {kvs:List (qS × V)}{k:qS}
section
variable {s:Sd}{A:Ar}{E:Vl→Sd→Prop}
end
def Gs{X:Cx}{WN:List (Addr×Obj)}{σ:St}{H:Hp}{s:Sd}{a:Addr}{y:V}{o:Option V}(I:Inv X WN σ H s)(g:E7 H a y o):s.TypeIs (.ref a) "dict":=by
 rcases g with⟨kvs,k,e,_,_⟩|⟨kvs,k,b,e,_,_,_⟩
 .obtain⟨_,_,vs,_,dd⟩:=Jw I.mO e;exact dd.typeIs
 .obtain⟨_,_,xs,_,dd⟩:=JJ I.mO e;exact dd.typeIs
def Tn(td ty tv:TE):TS:=λD σ H=>tv σ H λv H1=>td σ H1 λx H2=>ty σ H2 λy H3=>∃a H4,x=.ref a/\Nq H3 a y v H4/\D.nx σ H4
variable {i e value:Expr}{pos WV YT:Pos}{td ty tv:TE}
section
variable {o:Expr}
def Pl(hu:X.A.units+1<cLine)(ho:PE X o td)(hi:PE X i ty)(hv:PE X value tv)(hs:swapsWith value (some (.Subscript o i WV)) pos.line X.env=pure false):
  PS X (.Assign [.Subscript o i WV] value pos) (Tn td ty tv):=by
 intro WN s σ H D I h;refine wpAny_Assign_Subscript (su (hv WN s σ H _ I h) λr s1 zz=>x5 zz λv H1 I1 rv q1=>su (ho WN s1 σ H1 _ I1 q1) λu s2 zz=>x5 zz λx H2 I2 rx q2=>su (hi WN s2 σ H2 _ I2 q2) λiv s3 zz=>?_) hs;obtain⟨y,H3,I3,ry,a,H4,ex,g,q3⟩:=zz;subst ex;obtain rfl:u=Value.ref a:=rx;exact JS hu I3 g ry rv λs4 I4=>⟨σ,H4,I4,q3⟩
end
structure M1(X:Cx)(o:Expr)(m:Str)(WQ:Pos)(e:Expr)(WU:Pos):Prop where
 base:attributeBase o m X.env (eval o X.env)=eval o X.env
 oW:((backTo WU (starEach [e] X.env)).all (λx=>!x.1)&&(backToKw WU (keywordEach [] X.env)).all (λx=>x.1.isSome)
  &&decide (([e]:List Expr).length+([]:List Keyword).length+(if ([]:List Keyword).isEmpty then 0 else 1)<30))=true
 line:(WQ.endLine==WU.line)=true
 trees:backTo WU (starEach [e] X.env)=[(false,eval e X.env)]
structure M2(X:Cx)(o:Expr)(m:Str)(WQ:Pos)(e f:Expr)(WU:Pos):Prop where
 base:attributeBase o m X.env (eval o X.env)=eval o X.env
 oW:((backTo WU (starEach [e,f] X.env)).all (λx=>!x.1)&&(backToKw WU (keywordEach [] X.env)).all (λx=>x.1.isSome)
  &&decide (([e,f]:List Expr).length+([]:List Keyword).length+(if ([]:List Keyword).isEmpty then 0 else 1)<30))=true
 line:(WQ.endLine==WU.line)=true
 trees:backTo WU (starEach [e,f] X.env)=[(false,eval e X.env),(false,eval f X.env)]
variable {d:V}
section
variable {s:Sd}{o:Option V}{A:Ar}{E:Vl→Sd→Prop}
end
variable {f:Expr}{WQ WU:Pos}{tx:TE}
section
variable {o:Expr}
end
section
variable {s:Sd}{A:Ar}{E:Vl→Sd→Prop}
end
section
variable {s:Sd}{A:Ar}{E:Vl→Sd→Prop}
end
section
variable {κ:Type}[DecidableEq κ]
end
def AB(env:Env):List (Str×NameKind)->List (Str×Addr)->List (Str×Addr)
 | [],acc=>acc
 | (n,k)::r,acc=>AB env r (if k==.free then(n,(env.cells.lookup n).getD 0)::acc else acc)
theorem Gm{env:Env}{f:(Str×NameKind)->List (Str×Addr)->Sem (ForInStep (List (Str×Addr)))} (hf:∀x cs,(x.2=.free->∃c,env.cells.lookup x.1=some c)->f x cs=pure (.yield (if x.2==.free then(x.1,(env.cells.lookup x.1).getD 0)::cs else cs))):
  ∀(l:List (Str×NameKind)) (acc:List (Str×Addr)),(∀x∈l,x.2=.free->∃c,env.cells.lookup x.1=some c)->forIn l acc f=pure (AB env l acc)
 | [],acc,_=>by rw[jZ];rfl
 | (n,k)::r,acc,h=>by rw[jP,hf (n,k) acc (h _ dJ),pure_bind];exact Gm hf r _ λx hx=>h x (dC _ hx)
def yh{scope:Scope}{env:Env}(h:∀x∈scope.names,x.2=.free->∃c,env.cells.lookup x.1=some c):closureFor scope env=pure (AB env scope.names []):=by
 unfold closureFor;have e:=Gm (env:=env) (f:=λ(x:Str×NameKind) (cs:List (Str×Addr))=>(do
   if x.2==.free then
    let a<-cellOf env x.1
    pure (ForInStep.yield ((x.1,a)::cs))
   else pure (ForInStep.yield cs))) (λx cs hx=>by
  cases hk:x.2==NameKind.free with
  | false=>simp
  | true=>
   obtain⟨c,hc⟩:=hx (by simpa using hk);simp[cellOf,hc]) scope.names [] h
 first
  | exact(eY (·>>=pure) e).trans (by simp)
  | (simp only[bind_pure];exact e)
  | (rw[<-e];rfl)
theorem MN{env:Env}{x:Str}{c:Addr}:∀{l:List (Str×NameKind)} {acc:List (Str×Addr)},(∀x∈l,x.2=.free->∃c,env.cells.lookup x.1=some c)->(∀x c,acc.lookup x=some c->env.cells.lookup x=some c)->(AB env l acc).lookup x=some c->env.cells.lookup x=some c
 | [],acc,_,ha,h=>ha x c h
 | (n,k)::r,acc,hl,ha,h=>by
  refine MN (l:=r) (acc:=if k==.free then(n,(env.cells.lookup n).getD 0)::acc else acc) (λy hy=>hl y (dC _ hy)) (λy d hd=>?_) h;cases hk:k==NameKind.free with
  | false=>rw[hk]at hd;exact ha y d (by simpa using hd)
  | true=>
   rw[hk,dg rfl]at hd;obtain⟨e,he⟩:=hl (n,k) dJ (by simpa using hk);rw[eI]at hd;cases hy:y==n with
   | true=>
    rw[hy]at hd;have yn:y=n:=by simpa using hy
    subst yn;have he:env.cells.lookup y=some e:=he;rw[he]at hd ⊢;exact hd
   | false=>rw[hy]at hd;exact ha y d hd
theorem Mo{env:Env}{x:Str}:∀{l:List (Str×NameKind)} {acc:List (Str×Addr)},(∃c,acc.lookup x=some c)->∃c,(AB env l acc).lookup x=some c
 | [],_,h=>h
 | (n,k)::r,acc,h=>by
  refine Mo (l:=r) ?_;cases hk:k==NameKind.free with
  | false=>simpa using h
  | true=>
   rw[dg rfl,eI];cases hy:x==n with
   | true=>exact⟨_,rfl⟩
   | false=>exact h
theorem HL{env:Env}{x:Str}:∀{l:List (Str×NameKind)} {acc:List (Str×Addr)},l.lookup x=some .free->∃c,(AB env l acc).lookup x=some c
 | [],_,h=>by simp at h
 | (n,k)::r,acc,h=>by
  rw[eI]at h;cases hy:x==n with
  | true=>rw[hy]at h;have hk:k=.free:=dn h;subst hk;refine Mo (l:=r) ⟨(env.cells.lookup n).getD 0,?_⟩;show List.lookup x (if NameKind.free==NameKind.free then(n,(env.cells.lookup n).getD 0)::acc else acc)=some ((env.cells.lookup n).getD 0);rw[dg (by rfl),eI,hy]
  | false=>rw[hy]at h;exact HL (l:=r) h
theorem ue{env:Env}{x:Str}:∀{l:List (Str×NameKind)},(l.map λ(n,k)=>if (k==NameKind.free&&env.scope.kind==.function&&env.kindOf n==some .cell)then(n,NameKind.cell)else(n,k)).lookup x
   = (l.lookup x).map λk=>if (k==NameKind.free&&env.scope.kind==.function&&env.kindOf x==some .cell)then NameKind.cell else k
 | []=>rfl
 | (n,k)::r=>by
  rw[dY];show List.lookup x ((if (k==NameKind.free&&env.scope.kind==.function&&env.kindOf n==some .cell)=true then(n,NameKind.cell)else(n,k))::_)=_;cases hy:x==n with
  | true=>
   have yn:x=n:=by simpa using hy
   subst yn;by_cases hc:(k==NameKind.free&&env.scope.kind==.function&&env.kindOf x==some .cell)=true
   .rw[dg hc,eI,eI,hy];simp only[jQ];rw[dg hc]
   .rw[de hc,eI,eI,hy];simp only[jQ];rw[de hc]
  | false=>
   by_cases hc:(k==NameKind.free&&env.scope.kind==.function&&env.kindOf n==some .cell)=true
   .rw[dg hc,eI,eI,hy];exact ue
   .rw[de hc,eI,eI,hy];exact ue
def Ow(ix:List (Option Nat))(σ:St):St:=ix.map λo=>o.bind λi=>(σ[i]?).join
abbrev Cx.comp(X:Cx)(scope:Scope)(N':List Str)(C:Addr)(s0:Sd)(H0:Hp)(ex:List Addr):Cx:=
 {X with N:=N',s₀:=s0,H₀:=H0,env:=compEnvC scope (AB X.env scope.names []) C X.env,outer:=X.stack,ex:=ex,fn:=λ_=>false,pn:=[],xe:=λ_ _=>False}
structure rY(X:Cx)(scope:Scope)(ix:List (Option Nat))(N':List Str):Prop where
 kind:scope.kind=.function
 oj:∀y∈scope.names,y.2≠.cell
 nam:∀y∈scope.names,y.2=.local->scope.names.lookup y.1=some .local
 fre:∀y∈scope.names,y.2=.free->X.env.scope.names.lookup y.1=some .cell\/X.env.scope.names.lookup y.1=some .free
 len:ix.length=N'.length
 at_:∀(j i:Nat) (x:Str),ix[j]?=some (some i)->N'[j]?=some x->X.N[i]?=some x/\scope.names.lookup x=some .free
variable {scope:Scope}{ix:List (Option Nat)}{N':List Str}{fp:List Addr}
section
variable {s:Sd}
def rY.cells(S:rY X scope ix N')(ok:X.Ok):∀x∈scope.names,x.2=.free->∃c,X.env.cells.lookup x.1=some c:=λx hx hk=>ok.has x.1 (S.fre x hx hk)
def rY.sub(S:rY X scope ix N')(ok:X.Ok){x:Str}{c:Addr}(h:(AB X.env scope.names []).lookup x=some c):X.env.cells.lookup x=some c:=MN (S.cells ok) (λ_ _ z=>by simp at z) h
theorem uX{x:Str}{k:NameKind}:∀{l:List (Str×NameKind)},l.lookup x=some k->(x,k)∈l
 | [],h=>by simp at h
 | (n,j)::r,h=>by
  rw[eI]at h;cases hy:x==n with
  | true=>
   rw[hy]at h;have yn:x=n:=by simpa using hy
   subst yn;rw[dn h];exact dJ
  | false=>rw[hy]at h;exact dC _ (uX h)
def Inv.comp{C:Addr}{h1:Heap}{tk:Nat}(I:Inv X WN σ H s)(S:rY X scope ix N')(hf:∀b∈fp,AC X WN H b)(W1:∀b∈fp,b<s.heap.objs.size)(hC:s.heap.objs.size<=C) (k:∀b o,s.heap.get? b=some o->h1.get? b=some o) (hn:h1.Ns C (λ_=>none)):Inv (X.comp scope N' C s H fp) (X.pn++WN) (Ow ix σ) H {s with heap:=h1,toks:=tk}:=by
 have sub:∀{x:Str} {c:Addr},(AB X.env scope.names []).lookup x=some c->X.env.cells.lookup x=some c:=λh=>S.sub I.ok h;refine⟨⟨I.ok.mod,S.kind,I.ok.glob,I.ok.blt,hC,λx y c e1 e2=>I.ok.inj x y c (sub e1) (sub e2),λx hx=>?_,λ_ _ z=>(dB z).elim,I.ok.hd,I.ok.frames,.inl rfl,λb hb=>⟨dH (dR (W1 b hb) hC),λx c e=>(hf b hb).2.2.2.2.1 x c (sub e)⟩,I.bs,dX I.ok.nW I.sz,λb o e hb=>?_,λb hb hfs=>?_,I.stack,I.nz⟩,rfl,I.bare,Un.kept k,⟨_,hn,λi x v e1 e2 e3=>?_⟩,λx c e=>?_,I.mO.fresh hC,λx c e=>I.mV x c (sub e),λp hp=>?_,I.mO.kept k,?_⟩
 .have hx:(relabel scope X.env).names.lookup x=some .cell\/(relabel scope X.env).names.lookup x=some .free:=hx;have e:(relabel scope X.env).names.lookup x=(scope.names.lookup x).map λk=>if (k==NameKind.free&&X.env.scope.kind==.function&&X.env.kindOf x==some .cell)then NameKind.cell else k:=ue
  rw[e]at hx;cases q:scope.names.lookup x with
  | none=>rw[q]at hx;rcases hx with hx|hx<;>simp at hx
  | some kd=>
   cases kd with
   | free=>exact HL q
   | cell=>exact absurd rfl (S.oj _ (uX q))
   | _=>rw[q]at hx;rcases hx with hx|hx<;>simp at hx
 .rcases(hf b hb).2.2.2.1 with z|z
  .exact I.ok.nL b o e z
  .exact absurd (dR (dA e) (dX I.ok.nW z)) (e9 _)
 .rcases dh.mp (I.nq b hfs)with z|z
  .exact(hf b hb).2.1 z
  .exact(hf b hb).2.2.1 z
 .have YW:(ix[i]?).map (λo=>o.bind λi=>(σ[i]?).join)=some (some v):=by have z:(Ow ix σ)[i]?=some (some v):=e2;unfold Ow at z;rw[dD]at z;exact z
  cases q:ix[i]? with
  | none=>rw[q]at YW;cases YW
  | some o=>
   rw[q]at YW;cases o with
   | none=>cases YW
   | some j=>
    have YX:(σ[j]?).join=some v:=dn YW;have e4:σ[j]?=some (some v):=by
     cases r:σ[j]? with
     | none=>rw[r]at YX;cases YX
     | some w=>rw[r]at YX;exact eY some YX
    obtain⟨n1,n2⟩:=S.at_ i j x q e1;obtain⟨m,hm,hl⟩:=I.loc;have hk:=S.fre _ (uX n2) rfl;have hv:Ul X.env.scope x:=by
     rcases hk with z|z
     .exact .inr (.inl z)
     .exact .inr (.inr z)
    obtain⟨u,ru,lk⟩:=hl j x v n1 e4 hv;refine⟨u,ru,?_⟩;have hk':X.env.kindOf x=some .cell\/X.env.kindOf x=some .free:=hk;rcases lk with⟨z,_⟩|⟨_,c,hc,hcell⟩
    .rcases hk' with y|y<;>(rw[y]at z;cases z)
    .obtain⟨c',hc'⟩:=HL (env:=X.env) (acc:=[]) n2;have:=sub hc';rw[hc]at this;cases this;refine .inr ⟨?_,c,hc',hcell.keeps k⟩;show(relabel scope X.env).names.lookup x=some .cell\/(relabel scope X.env).names.lookup x=some .free;have e:(relabel scope X.env).names.lookup x=(scope.names.lookup x).map λk=>if (k==NameKind.free&&X.env.scope.kind==.function&&X.env.kindOf x==some .cell)then NameKind.cell else k:=ue
     rw[e,n2];simp only[jQ];split
     .exact .inl rfl
     .exact .inr rfl
 .obtain⟨v,q⟩:=I.cell x c (sub e);exact⟨v,q.keeps k⟩
 .obtain⟨e,n,ne,nf,d⟩:=I.pin p (by simpa using hp);refine⟨k _ _ e,n,dH (dR (dA e) hC),λz=>?_,d⟩;rcases dh.mp (I.nq p.1 z)with y|y
  .exact ne y
  .exact nf y
 .show(Ow ix σ).length=N'.length;unfold Ow;rw[cV];exact S.len
end
section
variable {prog:Pg}{w:Wo}{A:Ar}{R:Result→Sd→Prop}{s:Sd}
def xm{XE Xh iter:Expr}{Xn:List Expr}{scope:Scope}{pos:Pos}{it acc:Vl}{env:Env}(I:Nat->Sd->Prop){EX:Vl->Sd->Prop}(hEX:∀e s',EX e s'->notedBy (model prog w) A env (λx s'=>R (.error x) s') e s') (turn:∀n s,I n s->wpAny (model prog w) A (pyNext it) (λr s₁=>match r with
   | none=>R (.ok .next) s₁
   | some v=>wpAny (model prog w) A (letOwnedTupleGo Xh it v) (λ_ s₁=>wpAny (model prog w) A (assign Xh env v) (λ_ s₂=>
     wpAny (model prog w) A (forIn Xn true λc r=>if r=true then do let ok<-isTrue c env (eval c env);pure (ForInStep.yield ok)else pure (ForInStep.yield r)) (λok s₃=>
      if ok=true then wpAny (model prog w) A (eval XE env) (λx s₄=>
       wpAny (model prog w) A (call (.builtin "list.append") [acc,x]) (λ_ s₅=>∃m,m<n/\I m s₅) (λ_ _=>False) s₄) EX s₃
      else ∃m,m<n/\I m s₃) (λ_ _=>False) s₂) (λ_ _=>False) s₁) (λ_ _=>False) s₁) (λ_ _=>False) s)
  (n:Nat) (h:I n s):
  codeAny (model prog w) A (.compLoop (.ListComp XE [⟨Xh,iter,Xn,0⟩] scope pos) 0 it acc env) R s:=by
 refine codeAny_loop rfl I (λn s hI=>?_) n h;show wpAny _ A ((compTurn (.ListComp XE [⟨Xh,iter,Xn,0⟩] scope pos) 0 it acc env).onRaise (λx=>do noteFrame x env;theTreesLotGoes x)) _ _ s;refine wpAny_noted ?_;rw[compTurn_list];refine cW (ie (cW (eh (turn n s hI) (λr s₁ h₁=>?_) λ_ _ h'=>h'.elim)));cases r with
 | none=>exact dq h₁
 | some v=>
  refine cW (eh h₁ (λ_ s₁' h₁'=>?_) λ_ _ h'=>h'.elim);refine cW (eh h₁' (λ_ s₂ h₂=>cW (eh h₂ (λok s₃ h₃=>?_) λ_ _ h'=>h'.elim)) λ_ _ h'=>h'.elim);cases ok with
  | false=>exact dq ⟨rfl,h₃⟩
  | true=>exact cW (cW (eh h₃ (λx s₄ h₄=>cW (eh h₄ (λ_ s₅ h₅=>dq (dq ⟨rfl,h₅⟩)) λ_ _ h'=>h'.elim)) hEX))
end
def PF(X:Cx)(Xn:List Expr)(t:TT):Prop:=
 ∀(WN:List (Addr×Obj)) (s:Sd) (σ:St) (H:Hp) (Q:Bool->Hp->Prop),Inv X WN σ H s->t σ H Q->
  wpAny (model X.prog X.w) X.A (forIn Xn true λc r=>if r=true then do let ok<-isTrue c X.env (eval c X.env);pure (ForInStep.yield ok)else pure (ForInStep.yield r)) (TP X WN σ Q) X.xe s
def Uj:TT:=λ_ H Q=>Q true H
def Q7{X:Cx}:PF X [] Uj:=λ_ _ _ H _ I h=>wpAny_tests_nil ⟨H,I,h⟩
def Rk{X:Cx}{c:Expr}{t:TT}(h:PT X c t):PF X [c] t:=λWN s σ H Q I q=>wpAny_tests_one (h WN s σ H Q I q)
def QA(ix:List (Option Nat))(g:TG)(tt:TT)(te:TE)(σ:St)(J:It)(Q:VK)(H:Hp):Prop:=
 ∃W:Nat->Nat->List V->St->Hp->Prop,(∃m,W 0 m [] (Ow ix σ) H)/\∀i m ys σ' H,W i m ys σ' H->
  (J.stop i H/\ys.length<=sizeLine/\∀D,H D=none->Q (.ref D) (upd H D (.lst ys)))\/
  (J.go i H/\ys.length<sizeLine/\∀x H',J.oN i H x H'->g x σ' H' λσ2 H2=>tt σ2 H2 λb H3=>if b=true then te σ2 H3 λy H4=>∃m',m'<m/\W (i+1) m' (ys++[y]) σ2 H4 else ∃m',m'<m/\W (i+1) m' ys σ2 H3)
def MM(ix:List (Option Nat))(wi:TI)(g:TG)(tt:TT)(te:TE):TE:=λσ H Q=>wi σ H λJ H1=>QA ix g tt te σ J Q H1
variable {tg iter XE:Expr}{Xn:List Expr}{g:TG}{tt:TT}{te:TE}{J:It}{it:Addr}{tn:Nat→Heap→Prop}{Q:VK}
section
variable {s:Sd}
def BL{XP:Addr->Sd->Hp->List Addr->List (Addr×Obj)->St->Vl->Sd->Prop}{RR:Vl->Addr->Result->Sd->Prop}{E:Vl->Sd->Prop}(hc:X.calm=true)(S:rY X scope ix N')(I:Inv X WN σ H s)(T:GM X.prog X.w X.K tg J fp it tn)(st:tn 0 s.heap)(hf:∀b∈fp,AC X WN H b) (hg:∀C s0 H0 ex,PG (X.comp scope N' C s0 H0 ex) tg g) (ht:∀C s0 H0 ex,PF (X.comp scope N' C s0 H0 ex) Xn tt) (he:∀C s0 H0 ex WN s σ H Q,Inv (X.comp scope N' C s0 H0 ex) WN σ H s->te σ H Q->wpAny (model X.prog X.w) X.A (eval XE (X.comp scope N' C s0 H0 ex).env) (EP (X.comp scope N' C s0 H0 ex) WN σ Q) (XP C s0 H0 ex WN σ) s) (hx:∀C D e s',s.heap.objs.size<=C->(∃XO σ',(∀b∈fp,∃o,(b,o)∈XO)/\XP C s H fp XO σ' e s')->notedBy (model X.prog X.w) X.A (compEnvC scope (AB X.env scope.names []) C X.env) (λx s'=>RR D C (.error x) s') e s') (hw:QA ix g tt te σ J Q H) (WR:∀D C s' H' m,s.heap.objs.size<=C->H' C=none->s'.heap.Ns C m->Inv X WN σ H' s'->Q (.ref D) H'->RR (.ref D) C (.ok .next) s'):
  wpAny (model X.prog X.w) X.A (newList []) (λacc s₃=>wpAny (model X.prog X.w) X.A (newFunctionEnv scope X.env.globals (AB X.env scope.names []) [] X.env.qual none .none (some X.env)) (λXs s₄=>
   codeAny (model X.prog X.w) X.A (.compStart (.ListComp XE [⟨tg,iter,Xn,0⟩] scope pos) 0 (.ref it) acc {Xs with scope:=relabel scope X.env}) (RR acc Xs.locals) s₄) E s₃) E s:=by
 obtain⟨W,⟨m0,w0⟩,turn⟩:=hw;have W1:∀b∈fp,b<s.heap.objs.size:=λb hb=>by obtain⟨o,e,_⟩:=T.obj _ _ st b hb;exact dA e
 refine fU (wpAny_newFunctionEnv S.oj (by intro y hy;simp at hy) (λh₁ Yr YY=>?_) S.kind);dsimp only at Yr YY ⊢;generalize hH2:s.heap.push {cls:=.type "list",dict:=none,data:=.seq ([]:List Vl).toArray}=H2 at Yr YY ⊢;have hC:H2.objs.size=s.heap.objs.size+1:=by rw[<-hH2,fm]
 have hDC:s.heap.objs.size≠H2.objs.size:=by rw[hC];exact dH (fu _)
 have YZ:s.heap.objs.size<=H2.objs.size:=by rw[hC];exact gT _
 have Zf:∀b,b<s.heap.objs.size->b≠H2.objs.size/\b≠s.heap.objs.size:=λb hb=>⟨by rw[hC];exact dH (fV hb),dH hb⟩;have old:∀b o,s.heap.get? b=some o->h₁.get? b=some o:=λb o e=>YY.extBut b o (Zf b (dA e)).1 (df _ (hH2 ▸ df _ e));have hacc:h₁.get? s.heap.objs.size=some {cls:=.type "list",data:=.seq ([]:List Vl).toArray 0}:=YY.extBut _ _ hDC (df _ (hH2 ▸ dG _ rfl));have Yr:h₁.Ns H2.objs.size (λ_=>none):=Yr;have X2:∀{H':Hp} {pl:List (Addr×Obj)},(∀b∈fp,H' b=none)->(∀p∈pl,p.1∉fp)->∀b∈fp,AC (X.comp scope N' H2.objs.size s H fp) (X.pn++WN++pl) H' b:=λ{H' pl} hn W4 b hb=>by
  refine⟨hn b hb,dH (dR (W1 b hb) YZ),λz=>?_,.inl hb,λx c e=>(hf b hb).2.2.2.2.1 x c (S.sub I.ok e),λp hp=>?_⟩
  .rcases dh.mp (I.nq b z)with y|y
   .exact(hf b hb).2.1 y
   .exact(hf b hb).2.2.1 y
  .rcases dU.mp (show p∈X.pn++WN++pl by simpa using hp)with z|z
   .exact(hf b hb).2.2.2.2.2 p z
   .intro q;exact W4 p z (q ▸ hb)
 have loop:∀s₃:Sd,s₃={s with heap:=h₁,toks:=s.toks+([]:List (Str×Vl)).length}->
   codeAny (model X.prog X.w) X.A (.compLoop (.ListComp XE [⟨tg,iter,Xn,0⟩] scope pos) 0 (.ref it) (.ref s.heap.objs.size) (compEnvC scope (AB X.env scope.names []) H2.objs.size X.env))
    (RR (.ref s.heap.objs.size) H2.objs.size) s₃:=by
  rintro s₃ rfl
  refine xm (hEX:=λe s' z=>hx _ _ e s' YZ z) (λn s'=>∃(i:Nat) (ys:List V) (us:List Vl) (k:Nat) (σ':St) (H':Hp),Inv (X.comp scope N' H2.objs.size s H fp) (X.pn++WN) σ' H' s'/\tn i s'.heap/\(∀b∈fp,H' b=none)/\H' s.heap.objs.size=none/\
   s'.heap.get? s.heap.objs.size=some {cls:=.type "list",data:=.seq us.toArray k}/\qw ys us/\ys.length<=sizeLine/\W i n ys σ' H') ?_ m0
   ⟨0,[],[],0,Ow ix σ,H,I.comp S hf W1 YZ old Yr,T.keep _ _ _ st λb _ o e=>old b o e,λb hb=>(hf b hb).1,I.mO.fresh (dw _),hacc,.nil,eG _,w0⟩
  rintro n s' ⟨i,ys,us,k,σ',H',I',XB,fr',hD',Xr,rv',hz',w'⟩
  have cellD:∀x c,(X.comp scope N' H2.objs.size s H fp).env.cells.lookup x=some c->c≠s.heap.objs.size:=λx c e=>by obtain⟨v,q⟩:=I.cell x c (S.sub I.ok e);exact dH q.lt
  have pinD:∀p∈X.pn++WN,p.1≠s.heap.objs.size:=λp hp=>dH (dA (I.pin p hp).1);have dfs:s.heap.objs.size∉(X.comp scope N' H2.objs.size s H fp).fs:=λz=>by
   rcases dh.mp (I.nq _ z)with y|y
   .exact absurd I.lt (by rw[<-y];exact e9 _)
   .exact I.oM (dw _) y
  have dfp:s.heap.objs.size∉fp:=λz=>absurd (W1 _ z) (e9 _);have IpD:Inv (X.comp scope N' H2.objs.size s H fp) (X.pn++WN++[(s.heap.objs.size,{cls:=.type "list",data:=.seq us.toArray k})]) σ' H' s':=I'.nJ λp hp=>by
   rcases dU.mp hp with z|z
   .exact I'.pin p (eD _ z)
   .have e:p=(s.heap.objs.size,{cls:=.type "list",data:=.seq us.toArray k}):=by simpa using z
    subst e;exact⟨Xr,hD',hDC,dfs,λv z=>by cases z⟩
  have pfp:∀p∈[((s.heap.objs.size,{cls:=.type "list",data:=.seq us.toArray k}):Addr×Obj)],p.1∉fp:=λp hp=>by
   have e:p=(s.heap.objs.size,{cls:=.type "list",data:=.seq us.toArray k}):=by simpa using hp
   subst e;exact dfp
  rcases turn i n ys σ' H' w' with⟨stop,hz,q⟩|⟨go,hz,step⟩
  .refine eh (T.done (X.comp scope N' H2.objs.size s H fp) rfl rfl rfl hc i _ s' σ' H' (λ_ _=>False) IpD (X2 fr' pfp) XB stop) (λr s1 ⟨hr,I1⟩=>?_) λ_ _ z=>z;subst hr;show RR _ _ _ _;have ZD:s1.heap.get? s.heap.objs.size=some {cls:=.type "list",data:=.seq us.toArray k}:=(I1.pin (s.heap.objs.size,{cls:=.type "list",data:=.seq us.toArray k}) (by simp)).1;obtain⟨m,hnC,_⟩:=id I1.loc;refine WR _ _ s1 (upd H' s.heap.objs.size (.lst ys)) m YZ (by rw[pZ (dO hDC)];exact I1.free) hnC ?_ (q _ hD');have nD:∀b o,s.heap.get? b=some o->b≠s.heap.objs.size:=λb o e=>(Zf b (dA e)).2;have hD0:H s.heap.objs.size=none:=I.mO.fresh (dw _);refine I.oF (s':=s1) (ch:=fp) I1.os ⟨λb o e n1 n2 n3=>?_,λb o e n1 n2 n3=>?_,λb o e n1 n2=>?_,λb o e n1=>?_,λb xs e=>?_,λb o u e=>?_,λb ps e=>?_⟩ (λb u e=>?_) I1.bare λb hb=>⟨(hf b hb).2.2.2.1,(hf b hb).2.1,(hf b hb).2.2.2.2.1,(hf b hb).2.2.2.2.2⟩
   .exact I1.base.keep b o e n1 n2 n3
   .exact I1.base.slot b o e n1 n2 n3
   .rw[pZ (nD b o e)];exact I1.base.free b o e n1 n2
   .exact I1.base.there b o e n1
   .rw[pZ (qJ e hD0)];exact I1.base.nG b xs e
   .rw[pZ (qJ e hD0)];exact I1.base.nE b o u e
   .obtain⟨more,z⟩:=I1.base.nH b ps e;exact⟨more,by rw[pZ (qJ e hD0)];exact z⟩
   .by_cases hb:b=s.heap.objs.size
    .subst hb;rw[qe]at e;cases e;exact⟨hz,us,k,rv',ZD⟩
    .rw[pZ hb]at e;exact(I1.mO b u e).nj (λc v _ z=>z) (λc z=>by rw[pZ (qJ z hD')];exact z) (λc xs z=>by rw[pZ (qJ z hD')];exact z)
  .refine eh (T.item (X.comp scope N' H2.objs.size s H fp) rfl rfl rfl hc i _ s' σ' H' (λ_ _=>False) IpD (X2 fr' pfp) XB go) (λr s1 ⟨v,hr,h4⟩=>?_) λ_ _ z=>z;subst hr;show wpAny _ _ (letOwnedTupleGo tg (.ref it) v) _ _ s1;refine eh h4 (λ_ s2 zz=>?_) λ_ _ z=>z;obtain⟨x,H5,I5,r5,y5,Zc,fr5⟩:=zz;have I5':=I5.pinned (X2 fr5 pfp) (T.obj _ _ Zc);refine eh (hg H2.objs.size s H fp _ s2 σ' H5 x v _ I5' r5 (step x H5 y5)) (λ_ s3 ⟨σ6,H6,I6,q6⟩=>?_) λ_ _ z=>z;refine eh (ht H2.objs.size s H fp _ s3 σ6 H6 _ I6 q6) (λok s4 ⟨H7,I7,q7⟩=>?_) λ_ _ z=>z;have Zg:∀{σ7:St} {H7:Hp} {s7:Sd},Inv (X.comp scope N' H2.objs.size s H fp) (X.pn++WN++[(s.heap.objs.size,{cls:=.type "list",data:=.seq us.toArray k})]++Bm fp s2.heap) σ7 H7 s7->
     tn (i+1) s7.heap/\(∀b∈fp,H7 b=none)/\H7 s.heap.objs.size=none/\s7.heap.get? s.heap.objs.size=some {cls:=.type "list",data:=.seq us.toArray k}:=λ{σ7 H7 s7} K7=>by
    have pd:=K7.pin (s.heap.objs.size,{cls:=.type "list",data:=.seq us.toArray k}) (by simp);refine⟨T.keep _ _ _ Zc λb hb o e=>(K7.pin (b,o) (eD _ (eD _ (ve hb e)))).1,λb hb=>?_,pd.2.1,pd.1⟩;obtain⟨o,e,d⟩:=T.obj _ _ Zc b hb;exact(K7.pin (b,o) (eD _ (eD _ (ve hb e)))).2.1
   cases ok with
   | false=>rw[de dB]at q7 ⊢;obtain⟨m',hm,w7⟩:=q7;obtain⟨t7,f7,d7,o7⟩:=Zg I7;exact⟨m',hm,i+1,ys,us,k,σ6,H7,I7.mU.mU,t7,f7,d7,o7,rv',hz',w7⟩
   | true=>
    rw[dg rfl]at q7 ⊢;refine eh (he H2.objs.size s H fp _ s4 σ6 H7 _ I7 q7) (λyv s5 ⟨y,H8,I8,r8,m',hm,w8⟩=>?_) λ_ _ z=>⟨_,_,λb hb=>(by
     obtain⟨o,e,_⟩:=T.obj _ _ Zc b hb;exact⟨o,eD _ (ve hb e)⟩),z⟩
    obtain⟨t8,f8,d8,o8⟩:=Zg I8;have hsz:us.toArray.size<=sizeLine:=by rw[dz,<-rv'.length];exact hz'
    refine append_at (hsz:=hsz) o8 λh' sb od=>?_;refine⟨m',hm,i+1,ys++[y],us++[yv],k+1,σ6,H8,?_,T.keep _ _ _ t8 λb hb o e=>(sb.2 b λq=>dfp (q ▸ hb)).trans e,f8,d8,?_,rv'.append (.cons r8 .nil),?_,w8⟩
    .exact I8.mU.mU.turned (it:=s.heap.objs.size) (t':=s5.toks) (λb o hb e=>(sb.2 b hb).trans e) d8 hDC (.inr (dw _)) cellD (by simpa using pinD)
    .rw[od,List.push_toArray]
    .rw[cZ,dP];exact hz
 exact codeAny_compStart_list (loop _ rfl) (T.self _ 0 _ _ _ (T.keep _ _ _ st λb _ o e=>old b o e) (loop _ rfl))
def Inv.letGo{C:Addr}{s':Sd}{H':Hp}{σ':St}{h':Heap}(I:Inv X WN σ H s)(I':Inv X WN σ' H' s')(hC:s.heap.objs.size<=C)(hn:H' C=none)(hs:Heap.SameBut C s'.heap h'):Inv X WN σ' H' {s' with heap:=h'}:=
 I'.turned (t':=s'.toks) (it:=C) (λb o hb e=>(hs.2 b hb).trans e) hn (λz=>absurd (dR I.lt hC) (by rw[z];exact e9 _)) (.inr (dX I.sz hC))
  (λx c e z=>by
   obtain⟨v,r⟩:=I.cell x c e;exact absurd (dR r.lt hC) (by rw[z];exact e9 _))
  (λp hp z=>absurd (dR (dA (I.pin p hp).1) hC) (by rw[z];exact e9 _))
def Qc{wi:TI}(hc:X.calm=true)(S:rY X scope ix N')(hi:PI X tg iter wi)(hg:∀C s0 H0 ex,PG (X.comp scope N' C s0 H0 ex) tg g)(ht:∀C s0 H0 ex,PF (X.comp scope N' C s0 H0 ex) Xn tt)(he:∀C s0 H0 ex,PE (X.comp scope N' C s0 H0 ex) XE te) (hs:∀x,foldedSetIterable iter X.env x=pure x:=by intro _;rfl):PE X (.ListComp XE [⟨tg,iter,Xn,0⟩] scope pos) (MM ix wi g tt te):=by
 intro WN s σ H Q I h;rw[eval_ListComp];refine jC (use:=none) rfl hs (yh (S.cells I.ok)) S.kind S.nam (eh (hi WN s σ H _ I h) (λxv s₁ h₁=>eh h₁ (λitv s₂ h₂=>?_) λ_ _ e=>e) λ_ _ e=>e);obtain⟨it,fp,tn,J,H2,e,I2,T,W8,f2,hw⟩:=h₂;subst e;refine BL (RR:=λacc C=>compPost (model X.prog X.w) X.A X.xe none (EP X WN σ Q) acc C) hc S I2 T W8 f2 hg ht (XP:=λ_ _ _ _ _ _ _ _=>False) he (λ_ _ _ _ _ z=>by obtain⟨_,_,_,z⟩:=z;exact z.elim) hw λD C s' H' m hCs hCn hn I3 q=>?_;exact⟨m,hn,λh' Zh=>⟨.ref D,_,I2.letGo I3 hCs hCn Zh,rfl,q⟩⟩
def Hu{wi:TI}{i:Nat}{x:Str}{px Ys:Pos}(hN:X.N.Nodup)(ZE:X.N[i]?=some x)(hx:KQ X.env.scope x)(hc:X.calm=true)(S:rY X scope ix N')(hi:PI X tg iter wi)(hg:∀C s0 H0 ex,PG (X.comp scope N' C s0 H0 ex) tg g)(ht:∀C s0 H0 ex,PF (X.comp scope N' C s0 H0 ex) Xn tt) (he:∀C s0 H0 ex,PE (X.comp scope N' C s0 H0 ex) XE te) (Yh:swapsWith (.ListComp XE [⟨tg,iter,Xn,0⟩] scope pos) (some (.Name x px)) Ys.line X.env=pure true) (hf:KO X x:=by first|exact .inl rfl|exact .inr rfl|assumption) (hs:∀x,foldedSetIterable iter X.env x=pure x:=by intro _;rfl):
  PS X (.Assign [.Name x px] (.ListComp XE [⟨tg,iter,Xn,0⟩] scope pos) Ys) (RQ (MM ix wi g tt te) (MB i)):=by
 intro WN s σ H D I h;rw[exec_Assign_Name_used _ _ _ _ Yh];refine cW (ie (cW ?_));show wpAny _ X.A (do let _<-comprehension (.ListComp XE [⟨tg,iter,Xn,0⟩] scope pos) scope X.env _ (newList []) false (eval iter X.env) (some (assign (.Name x px) X.env))) _ _ s;refine cW (eh (jC (use:=some (assign (.Name x px) X.env)) (Q:=λ_ s'=>SP X WN D .next s') rfl hs (yh (S.cells I.ok)) S.kind S.nam
  (eh (hi WN s σ H _ I h) (λxv s₁ h₁=>eh h₁ (λitv s₂ h₂=>?_) λ_ _ e=>e) λ_ _ e=>e)) (λ_ s' hq=>dq (dq hq)) λ_ _ e=>e)
 obtain⟨it,fp,tn,J,H2,e,I2,T,W8,f2,hw⟩:=h₂;subst e;refine BL (RR:=λacc C=>compPost (model X.prog X.w) X.A X.xe (some (assign (.Name x px) X.env)) (λ_ s'=>SP X WN D .next s') acc C) hc S I2 T W8 f2 hg ht (XP:=λ_ _ _ _ _ _ _ _=>False) he (λ_ _ _ _ _ z=>by obtain⟨_,_,_,z⟩:=z;exact z.elim) hw λDa C s' H' m hCs hCn hn I3 q=>?_;show wpAny _ X.A (assign (.Name x px) X.env (.ref Da)) _ _ _;refine kW (DM I3 hN ZE hx (v:=.ref Da) rfl (λs4 I4 ⟨a,sb,ha⟩=>?_) hf);have ca:C≠a:=λz=>by
  rcases ha with y|y
  .exact absurd (dR I2.lt hCs) (by rw[z,y];exact e9 _)
  .obtain⟨v,r⟩:=I2.cell x a y;exact absurd (dR r.lt hCs) (by rw[z];exact e9 _)
 exact⟨m,hn.sameBut sb ca,λh' Zh=>⟨_,H',I2.letGo I4 hCs hCn Zh,q⟩⟩
end
def AD:typeLookup (.type "list") "__getattr__"=pure none:=by rw[typeLookup_type,j3];kernel_rfl
def EC:typeLookup (.type "list") "keys"=pure none:=by rw[typeLookup_type,j3];kernel_rfl
section
variable {prog:Pg}{w:Wo}{A:Ar}{E:Vl→Sd→Prop}
def LZ(a:Addr)(u:Tok)(its:Array Vl)(n:Nat)(sl:Array (Option Vl)):
  Meets (Builtin.«object.__getattribute__» ⟨[.ref a,.str "keys" u],[]⟩) λA R s=>s.heap.get? a=some ⟨.type "list",none,.seq its n,sl⟩/\A.handled=none/\∀h' tk e,Heap.NewAttrErr s.heap h' e (.ref a) "keys"->R (.error (.ref e)) {s with heap:=h',toks:=tk}:=
 Meets.of_wp λprog w A R s hs=>by
  obtain⟨hp,g,d,tk,os⟩:=s;obtain⟨h1,h2,h3⟩:=hs;have hT:(⟨hp,g,d,tk,os⟩:Sd).TypeIs (.ref a) "list":=⟨_,h1,rfl⟩;have f1:=EC;unfold Builtin.«object.__getattribute__»
  repeat (any_goals(first|assumption|wp_step))
  exact wpAny_raiseAttrError h2 h3 (attrMsg_fits (by decide+kernel) (by decide))
def FF{s:Sd}{a:Addr}{its:Array Vl}{n:Nat}{sl:Array (Option Vl)}{Q:Option Vl->Sd->Prop}(ha:s.heap.get? a=some ⟨.type "list",none,.seq its n,sl⟩)(hA:A.handled=none) (h:∀h' tk,(∀b o,s.heap.get? b=some o->h'.get? b=some o)->Q none {s with heap:=h',toks:=tk}):wpAny (model prog w) A (getAttr? (.ref a) "keys") Q E s:=by
 obtain⟨hp,g,d,tk,os⟩:=s;have hT:(⟨hp,g,d,tk,os⟩:Sd).TypeIs (.ref a) "list":=⟨_,ha,rfl⟩;have f1:=sub_AttributeError;have f3:=io.lookup;have f4:=io.bind (.ref a);have f5:=AD;unfold getAttr? getAttrBy? getAttrBy
 repeat (any_goals(first|assumption|((with_reducible show wpAny _ _ (call (Value.builtin "list.__getattribute__") _ _) _ _ _);refine jq io hT F.entry_list_ga (F.args_list_getattribute_2 _ _) (LZ a _ its n sl) ⟨ha,hA,λh' tk' e hx=>?_⟩)|wp_step))
 obtain⟨t',u',he⟩:=hx.there;show wpAny _ _ (getattributeRaised _ _ _ _ _ _ _) _ _ _;unfold getattributeRaised
 repeat (any_goals(first|assumption|wp_step))
 all_goals first|exact h _ _ hx.keeps|skip
end
def Al:entryFor table "dict.update.loop"=some Builtin.«dict.update.loop»:=entryFor_of_tree (by kernel_rfl)
def vq:plainId "dict.update.loop"=true:=by decide+kernel
section
variable {prog:Pg}{w:Wo}{A:Ar}{E:Vl→Sd→Prop}{R:Result→Sd→Prop}{κ:Type}[DecidableEq κ]{knd:PySem.KeyKind prog w κ}
 {I:Addr} {fp wr:List Addr} {G:Array GenState->Array GenState->Prop} {P:Nat->Vl->Prop} {St:Nat->Sd->Prop}
def PP{s:Sd}{t:Addr}{x y:Vl}{Q:List Vl->Sd->Prop}(h:s.heap.IsTuple t #[x,y])(q:Q [x,y] s):wpAny (model prog w) A (Builtin.Dict.pairItems (.ref t)) Q E s:=by
 obtain⟨⟨oc,od,oda,XI⟩,h1,h2,n,h3⟩:=h;simp only at h2 h3;subst h2 h3;have hT:s.TypeIs (.ref t) "tuple":=⟨_,h1,rfl⟩;obtain⟨hp,g,d,tk,os⟩:=s;unfold Builtin.Dict.pairItems
 repeat (any_goals(first|assumption|wp_step))
def J5{all:List (κ×Vl)}(W:WalksS prog w A.in1 I fp wr G all.length P St)(d:Addr)(Ze:d∉fp)(kv:Nat->Vl)(tp:Nat->Addr)(hP:∀i v,P i v->v=.ref (tp i))(hw:∀j,j<all.length->tp j∉wr/\tp j≠d) (hk:∀j p,all[j]?=some p->knd.is p.1 (kv j)=true) (hz:all.length<=sizeLine):
  ∀(k i:Nat) (z:Int) (s:Sd),all.length - i=k->i<=all.length->St i s->(∀j p,all[j]?=some p->s.heap.IsTuple (tp j) #[kv j,p.2])->s.heap.DictOf knd d (merged [] (all.take i))->
   (∀s',Moved (d::wr) G s s'->s'.heap.DictOf knd d (merged [] all)->R (.ok (.ret .none)) s')->codeAny (model prog w) A (.builtin "dict.update.loop" ⟨[.ref d,.ref I,.int z 0,.none],[]⟩) R s:=by
 have hdw:d∉wr:=λh=>Ze (W.sub _ h);have Yt:∀b∈wr,b∈d::wr:=λb hb=>dC _ hb;intro k;induction k with
 | zero=>
  intro i z s hk0 hi Xc hT hD hR;have YH:i=all.length:=by omega
  subst YH;refine gP Al ?_;rw[hZ vq _];show wpAny _ A.in1 (pyNext (.ref I)>>=_) _ _ s;refine cW (W.done s _ _ Xc λs' hm=>?_);show wpAny _ A.in1 (Builtin.Dict.addKeywords d []>>=_) _ _ s';refine cW (dq (dq (hR s' (hm.mono Yt) ?_)));rw[fG]at hD;obtain⟨o,es,ep,ho,rest⟩:=hD;exact⟨o,es,ep,hm.heap d _ hdw ho,rest⟩
 | succ k ih=>
  intro i z s hk0 hi Xc hT hD hR;have W1:i<all.length:=by omega
  have X5:all[i]?=some all[i]:=cY W1;refine gP Al ?_;rw[hZ vq _];show wpAny _ A.in1 (pyNext (.ref I)>>=_) _ _ s;refine cW (W.item i s _ _ W1 Xc λv s' hPv ZF hm=>?_);obtain rfl:=hP i v hPv;have hT':∀j p,all[j]?=some p->s'.heap.IsTuple (tp j) #[kv j,p.2]:=λj p e=>by obtain⟨o,h1,h2⟩:=hT j p e;exact⟨o,hm.heap _ _ (hw j (cX.mp e).1).1 h1,h2⟩
  have hD':s'.heap.DictOf knd d (merged [] (all.take i)):=by obtain⟨o,es,ep,ho,rest⟩:=hD;exact⟨o,es,ep,hm.heap d _ hdw ho,rest⟩
  show wpAny _ A.in1 (holding [Value.ref (tp i)] _>>=_) _ _ s';refine cW (eU (cW (wpAny_tryCatch (PP (hT' i _ X5) ?_))));show wpAny _ A.in1 (holding [kv i,all[i].2] (dictSet d (kv i) all[i].2)) _ _ s';refine eU ?_;unfold dictSet;refine eU (cW (knd.pyHash (hk i _ X5) ?_));have hl:(merged [] (all.take i)).length<=sizeLine:=by have:=merged_length_le [] (all.take i);rw[fS]at this;simp only[dN]at this;omega
  refine wpAny_dictSetHashed_pairs (hsz:=hl) (hk i _ X5) hD' λh' dd hs=>?_;rw[<-merged_take_succ [] all i _ X5]at dd;refine dq ⟨kx vq _,ih (i+1) _ _ (by omega) W1 (W.frame _ s' _ _ ZF (gT _) λb hb o e=>?_) (λj p e=>?_) dd λZx ZG hD''=>?_⟩
  .rw[hs.2 b (λz:b=d=>Ze (z ▸ hb))];exact e
  .obtain⟨o,h1,h2⟩:=hT' j p e;refine⟨o,?_,h2⟩;show h'.get? (tp j)=some o;rw[hs.2 _ (hw j (cX.mp e).1).2];exact h1
  .refine hR Zx (mB W.gtrans ((hm.mono Yt).then_heap (gT _) λb o hb e=>?_) ZG) hD'';rw[hs.2 b (λz:b=d=>hb (by rw[z];exact dJ))];exact e
end
section
variable {prog:Pg}{w:Wo}{A:Ar}{E:Vl→Sd→Prop}{κ:Type}[DecidableEq κ]{knd:PySem.KeyKind prog w κ}{s:Sd}
def As{l:Addr}{its:Array Vl}{n:Nat}{sl:Array (Option Vl)}{all:List (κ×Vl)}{Q:Vl->Sd->Prop}(kv:Nat->Vl)(tp:Nat->Addr)(hh:A.handled=none)(hl:s.heap.get? l=some ⟨.type "list",none,.seq its n,sl⟩) (hits:∀(j:Nat) (v:Vl),its[j]?=some v->v=.ref (tp j)) (WT:its.size=all.length) (hT:∀j p,all[j]?=some p->s.heap.IsTuple (tp j) #[kv j,p.2]) (hk:∀j p,all[j]?=some p->knd.is p.1 (kv j)=true) (hz:all.length<=sizeLine) (h:∀h' tk,h'.DictOf knd s.heap.objs.size (merged [] all)->(∀b o,s.heap.get? b=some o->h'.get? b=some o)->Q (.ref s.heap.objs.size) {s with heap:=h',toks:=tk}):
  wpAny (model prog w) A (call (.type "dict") [.ref l]) Q E s:=by
 refine callType_codes (Q₁:=λobj s₁=>obj=Value.ref s.heap.objs.size/\s₁={s with heap:=s.heap.push {cls:=.type "dict",data:=.dict #[]}}) PySem.F.kt_called_dict (PySem.F.kt_typeCall_dict_1 _) F.entry_dict_init (kt_code_dict_new _ ⟨rfl,rfl⟩) ?_
 rintro obj s₁ ⟨rfl,rfl⟩
 have Yp:(s.heap.push {cls:=.type "dict",data:=.dict #[]}).DictOf knd s.heap.objs.size []:=Heap.DictOf.new s.heap;have hl':(s.heap.push {cls:=.type "dict",data:=.dict #[]}).get? l=some ⟨.type "list",none,.seq its n,sl⟩:=df _ hl;have hTl:Shared.TypeIs {s with heap:=s.heap.push {cls:=.type "dict",data:=.dict #[]}} (.ref l) "list":=⟨_,hl',rfl⟩;have lsz:l<s.heap.objs.size:=dA hl;refine⟨Yp.typeIs,F.args_dict_init_2 _ _,?_⟩;unfold Builtin.«dict.__init__»;refine cW ?_;unfold Builtin.Dict.selfAndRest;refine cW (wpAny_notOrdered_dict Yp.typeIs ?_);show wpAny _ _ (pure (s.heap.objs.size,[Value.ref l])) _ _ _;refine dq ?_;show wpAny _ _ (Builtin.Dict.updateFrom "dict.__init__" s.heap.objs.size (.ref l) [] .none) _ _ _;unfold Builtin.Dict.updateFrom;refine cW (jA hTl ?_);rw[dg (by decide)];refine cW (FF hl' (by simpa using hh) λh' tk keep=>?_);have hl2:h'.IsList l its:=⟨_,keep _ _ hl',rfl,n,rfl⟩;show wpAny _ _ (rule _>>=_) _ _ _;refine cW (kg (cW (gU hl2 ?_)));have nd:h'.objs.size>s.heap.objs.size:=by have z:h'.get? s.heap.objs.size=some _:=keep _ _ (dG _ rfl);exact dA z
 have hDn:h'.DictOf knd s.heap.objs.size []:=by obtain⟨o,es,ep,ho,rest⟩:=Yp;exact⟨o,es,ep,keep _ _ ho,rest⟩
 have hTs:∀j p,all[j]?=some p->h'.IsTuple (tp j) #[kv j,p.2]:=λj p e=>by obtain⟨o,h1,h2⟩:=hT j p e;exact⟨o,keep _ _ (df _ h1),h2⟩
 have Xd:l≠h'.objs.size:=dH (im lsz nd);have W:=(kh (prog:=prog) (w:=w) (A:=A.in1.in1) (by simpa using hh) h'.objs.size l Xd its).toS;rw[WT]at W;refine dq ⟨kx vq _,J5 (A:=A.in1) W s.heap.objs.size ?_ kv tp (λi v e=>hits i v e) (λj hj=>?_) hk hz all.length 0 0 _ (by omega) (eG _) ⟨⟨_,dG _ rfl,rfl,rfl⟩,hl2.push _⟩ (λj p e=>(hTs j p e).push _) ?_ λs' hm hD=>?_⟩
 .simp only[dh,dE,eP,fM];exact⟨dH nd,gJ lsz⟩
 .have hj':all[j]?=some all[j]:=cY hj;obtain⟨o,h1,_⟩:=hT j _ hj';have tsz:=dA h1;simp only[dh,dE,eP];exact⟨dH (im tsz nd),dH tsz⟩
 .obtain⟨o,es,ep,ho,rest⟩:=hDn;exact⟨o,es,ep,df _ ho,rest⟩
 .obtain⟨h2,g2,d2,t2,o2⟩:=s';have eg:g2=s.gens:=hm.gens;have ed:d2=s.drawn:=hm.drawn;have eo:o2=s.os:=hm.os;subst eg ed eo;refine⟨rfl,h h2 t2 hD λb o e=>?_⟩;have hb:=dA e;refine hm.heap b o ?_ (df _ (keep _ _ (df _ e)));simp only[dh,dE,eP,fM];exact⟨dH hb,dH (im hb nd)⟩
end
def sN{κ:Type}[DecidableEq κ](l:List κ):List κ:=l.foldl (λacc k=>if k∈acc then acc else acc++[k]) []
def xV{κ:Type}[DecidableEq κ](l:List κ)(k:κ):sN (l++[k])=if k∈sN l then sN l else sN l++[k]:=by unfold sN;rw[lb];rfl
def IA{κ:Type}[DecidableEq κ]:∀l:List κ,(sN l).length<=l.length:=by
 have go:∀(l acc:List κ),(l.foldl (λacc k=>if k∈acc then acc else acc++[k]) acc).length<=acc.length+l.length:=by
  intro l;induction l with
  | nil=>intro acc;simp
  | cons k r ih=>
   intro acc;rw[fW];refine dX (ih _) ?_;split
   .simp only[eB];omega
   .simp only[eB,cZ,dN];omega
 intro l;have:=go l []
 simpa [sN]using this
def K2{κ:Type}[DecidableEq κ](x:κ):∀l:List κ,x∈sN l↔x∈l:=by
 have go:∀(l acc:List κ),x∈l.foldl (λacc k=>if k∈acc then acc else acc++[k]) acc↔x∈acc\/x∈l:=by
  intro l;induction l with
  | nil=>intro acc;simp
  | cons k r ih=>
   intro acc;rw[fW,ih];by_cases h:k∈acc
   .rw[dg h,dh];constructor
    .rintro (z|z)
     .exact .inl z
     .exact .inr (.inr z)
    .rintro (z|z|z)
     .exact .inl z
     .subst z;exact .inl h
     .exact .inr z
   .rw[de h,dU,dv,dh,or_assoc]
 intro l;have:=go l []
 simpa [sN]using this
def Hs{κ:Type}[DecidableEq κ]:∀l:List κ,l.Nodup->sN l=l:=by
 have go:∀(l acc:List κ),(acc++l).Nodup->l.foldl (λacc k=>if k∈acc then acc else acc++[k]) acc=acc++l:=by
  intro l;induction l with
  | nil=>intro acc _;simp
  | cons k r ih=>
   intro acc h;have hk:k∉acc:=λz=>by rw[gm]at h;exact h.2.2 k z k dJ rfl
   rw[fW,de hk,ih]
   .rw[fj];rfl
   .rw[fj];exact h
 intro l h;have:=go l [] (by simpa using h)
 simpa [sN]using this
section
variable {prog:Pg}{w:Wo}{A:Ar}{E:Vl→Sd→Prop}{R:Result→Sd→Prop}{κ:Type}[DecidableEq κ][BEq κ][LawfulBEq κ]{knd:PySem.KeyKind prog w κ}
 {I:Addr} {fp wr:List Addr} {G:Array GenState->Array GenState->Prop} {P:Nat->Vl->Prop} {St:Nat->Sd->Prop}
def F0{all:List κ}(W:WalksS prog w A.in1 I fp wr G all.length P St)(S:Addr)(hSf:S∉fp)(hval:∀i v k,P i v->all[i]?=some k->knd.is k v=true/\v.scannable=true)(hb:all.length+1<scanBound):
  ∀(n i:Nat) (s:Sd),all.length - i=n->i<=all.length->St i s->s.heap.SetOf knd S (λx=>decide (x∈sN (all.take i))) (sN (all.take i)).length->
   (∀s',Moved (S::wr) G s s'->s'.heap.SetOf knd S (λx=>decide (x∈sN all)) (sN all).length->R (.ok (.ret .none)) s')->codeAny (model prog w) A (.builtin "set.update.loop" ⟨[.ref S,.ref I],[]⟩) R s:=by
 have hSw:S∉wr:=λh=>hSf (W.sub _ h);have up:∀b∈wr,b∈S::wr:=λb hb=>dC _ hb;have kept:∀{s s':Sd} {T:κ->Bool} {m:Nat},Moved wr G s s'->s.heap.SetOf knd S T m->s'.heap.SetOf knd S T m:=λhm ⟨o,es,ep,t,ho,rest⟩=>⟨o,es,ep,t,hm.heap S _ hSw ho,rest⟩;intro n;induction n with
 | zero=>
  intro i s h0 hi Xc hS hR;obtain rfl:i=all.length:=by omega
  refine gP ip ?_;rw[hZ gA _];rw[fG]at hS;exact cW (W.done s _ _ Xc λs' hm=>dq (hR s' (hm.mono up) (kept hm hS)))
 | succ n ih=>
  intro i s h0 hi Xc hS hR;have W1:i<all.length:=by omega
  have X5:all[i]?=some all[i]:=cY W1;refine gP ip ?_;rw[hZ gA _];refine cW (W.item i s _ _ W1 Xc λv s' hP ZF hm=>?_);obtain⟨k1,k2⟩:=hval i v _ hP X5;have Yu:=kept hm hS;show wpAny _ A.in1 (holding [v] (setAdd S v)>>=_) _ _ s';refine cW (eU ?_);unfold setAdd;refine eU (cW (knd.pyHash k1 ?_));have room:(sN (all.take i)).length+1<scanBound:=by have h1:=IA (all.take i);rw[fS]at h1;omega
  refine wpAny_setAddHashed_of (knd:=knd) (s:={s' with toks:=s'.toks+1}) k1 k2 Yu room λh' hsb hS2=>?_;have et:all.take (i+1)=all.take i++[all[i]]:=by rw[gW,X5];rfl
  have hSi:h'.SetOf knd S (λx=>decide (x∈sN (all.take (i+1)))) (sN (all.take (i+1))).length:=by
   refine iq hS2 (λx=>?_) ?_
   .rw[et];by_cases WP:all[i]∈sN (all.take i)
    .rw[xV,dg WP];by_cases hx:x=all[i]
     .subst hx;simp[WP]
     .simp[hx]
    .rw[xV,de WP];by_cases hx:x=all[i]
     .subst hx;simp
     .simp[hx]
   .rw[et,xV];by_cases WP:all[i]∈sN (all.take i)
    .rw[dg WP];simp[WP]
    .rw[de WP];simp[WP]
  refine dq ⟨kx gA _,ih (i+1) _ (by omega) W1 (W.frame _ s' _ _ ZF (gT _) λb hb o e=>?_) hSi λZx ZG hS''=>?_⟩
  .rw[hsb.2 b (λz:b=S=>hSf (z ▸ hb))];exact e
  .refine hR Zx (mB W.gtrans ((hm.mono up).then_heap (gT _) λb o hb e=>?_) ZG) hS'';rw[hsb.2 b (λz:b=S=>hb (by rw[z];exact dJ))];exact e
end
def Ee:isSubtype (.type "list") (.type "set")=pure false:=by rw[i9];kernel_rfl
def AA:isSubtype (.type "list") (.type "frozenset")=pure false:=by rw[i9];kernel_rfl
section
variable {prog:Pg}{w:Wo}{A:Ar}{E:Vl→Sd→Prop}{κ:Type}[DecidableEq κ][BEq κ][LawfulBEq κ]{knd:PySem.KeyKind prog w κ}{s:Sd}
set_option maxHeartbeats 4000000 in
def Dc{l:Addr}{WO:Array Vl}{all:List κ}{Q:Vl->Sd->Prop}(hh:A.handled=none)(hl:s.heap.IsList l WO)(hn:WO.size=all.length)(hi:∀(i:Nat) (v:Vl) (k:κ),WO[i]?=some v->all[i]?=some k->knd.is k v=true/\v.scannable=true)(hb:all.length+1<scanBound) (h:∀(h':Heap) (tk:Nat),h'.SetOf knd s.heap.objs.size (λx=>decide (x∈sN all)) (sN all).length->(∀b o,s.heap.get? b=some o->h'.get? b=some o)->Q (.ref s.heap.objs.size) {s with heap:=h',toks:=tk}):
  wpAny (model prog w) A (call (.type "set") [.ref l]) Q E s:=by
 obtain⟨c,tl,ZH⟩:=fv.mro;have hmade:=fv.made;have Yt:=fv.sub;refine iA (jR ?_);show wpAny _ _ (callAny (.type "set") _) _ _ _;refine dq ⟨ir _ (by decide+kernel),gP lh ?_⟩;rw[kN (j4 "set" [.ref l] []) rfl];have h1:=fv.notType;have h2:=fv.canCreate;have hct:=lK (.ref l)
 repeat (any_goals(first|assumption|wp_step))
 have fresh:∀Xe:Bool,(s.heap.push {cls:=.type "set",dict:=none,data:=.set #[] 0 (.fresh 0 0 Xe)}).get? s.heap.objs.size=some {cls:=.type "set",dict:=none,data:=.set #[] 0 (.fresh 0 0 Xe)}:=λXe=>dG _ rfl;refine gj (code_set_new_1 (.ref l) (E:=E) (Q₁:=λobj s₁=>∃Xe:Bool,obj=Value.ref s.heap.objs.size/\s₁={s with heap:=s.heap.push {cls:=.type "set",dict:=none,data:=.set #[] 0 (.fresh 0 0 Xe)}}) λXe=>⟨Xe,rfl,rfl⟩) λr s₁ hr=>?_;cases r with
 | error e=>exact hr
 | ok fl=>
  cases fl with
  | ret obj=>
   obtain⟨Xe,rfl,rfl⟩:=hr;have hS:=fresh Xe;have hT:Shared.TypeIs {s with heap:=s.heap.push {cls:=.type "set",dict:=none,data:=.set #[] 0 (.fresh 0 0 Xe)}} (.ref s.heap.objs.size) "set":=⟨_,hS,rfl⟩;have hli:=fv.init.lookup;have hbi:=fv.init.bind (.ref s.heap.objs.size)
   repeat (any_goals(first|assumption|wp_step))
   refine gj (iP (R:=wants (λr s₂=>r=.none/\∃h' tk,s₂={s with heap:=h',toks:=tk}/\h'.SetOf knd s.heap.objs.size (λx=>decide (x∈sN all)) (sN all).length/\(∀b o,s.heap.get? b=some o->h'.get? b=some o)) E) fv.init.plain lL (lM hT ?_)) λr₂ s₂ ZI=>?_
   .obtain⟨ol,hol,Zi,nl,hdl⟩:=hl;obtain⟨ocls,Yv,odata,X6⟩:=ol;simp only at Zi hdl;subst Zi;subst hdl;have ZJ:(s.heap.push {cls:=.type "set",dict:=none,data:=.set #[] 0 (.fresh 0 0 Xe)}).get? l=some {cls:=.type "list",dict:=Yv,data:=.seq WO nl,slots:=X6}:=df _ hol;have hsls:=Ee;have hslf:=AA;have hnd:(Value.type "list"==Value.type "dict")=false:=by decide
    have hl1:(s.heap.push {cls:=.type "set",dict:=none,data:=.set #[] 0 (.fresh 0 0 Xe)}).IsList l WO:=⟨_,ZJ,rfl,nl,rfl⟩;unfold Builtin.«set.__init__» noKeywords Builtin.Frozenset.updateFrom;generalize hPI:pyIter=PI
    wp_walk
    subst hPI;refine gU hl1 ?_;refine cW (wpAny_runValue ?_);have lS:l<s.heap.objs.size:=dA hol;have hh3:A.in1.in1.in1.handled=none:=by simp[hh]
    have lI:l≠(s.heap.push {cls:=.type "set",dict:=none,data:=.set #[] 0 (.fresh 0 0 Xe)}).objs.size:=by rw[fm];exact dH (fV lS)
    have W:=(kh (prog:=prog) (w:=w) hh3 _ l lI WO).toS;rw[hn]at W;refine F0 W s.heap.objs.size ?hf (λi v k e1 e2=>hi i v k e1 e2) hb all.length 0 _ (by omega) (eG _) ⟨⟨_,dG _ rfl,rfl,rfl⟩,(hl1.push _)⟩ ?h0 ?hR;case hf=>rw[fm];simp only[dh,dE,eP,fM];exact⟨dH (fu _),gJ lS⟩
    case h0=>exact iq ((jd (knd:=knd) Xe).setOf (df _ hS) (by unfold scanBound;omega)) (λ_=>rfl) rfl
    case hR=>intro s' hm Yu;obtain⟨h',g',d',tk',Zw⟩:=s';have eg:g'=s.gens:=hm.gens;have ed:d'=s.drawn:=hm.drawn;have eo:Zw=s.os:=hm.os;subst eg;subst ed;subst eo;refine dq ?_;show wpAny _ _ (ret Value.none) _ _ _;refine dq ⟨rfl,h',tk',rfl,Yu,λb o e=>?_⟩;have hb:=dA e;refine hm.heap b o ?_ (df _ (df _ e));rw[fm];simp only[dh,dE,eP,fM];exact⟨dH hb,dH (fV hb)⟩
   .cases r₂ with
    | error e=>exact ZI
    | ok fl₂=>
     cases fl₂ with
     | ret r=>
      obtain⟨rfl,h',tk,rfl,Yu,hk'⟩:=ZI
      repeat (any_goals(first|assumption|wp_step))
      exact h _ _ Yu hk'
     | _=>exact ZI.elim
  | _=>exact hr.elim
end
def C1:isSubtype (.type "tuple") (.type "set")=pure false:=by rw[i9];kernel_rfl
def zM:isSubtype (.type "tuple") (.type "frozenset")=pure false:=by rw[i9];kernel_rfl
section
variable {prog:Pg}{w:Wo}{A:Ar}{E:Vl→Sd→Prop}{κ:Type}[DecidableEq κ][BEq κ][LawfulBEq κ]{knd:PySem.KeyKind prog w κ}{s:Sd}
set_option maxHeartbeats 4000000 in
def BK{l:Addr}{WO:Array Vl}{all:List κ}{Q:Vl->Sd->Prop}(hh:A.handled=none)(hl:s.heap.IsTuple l WO)(hn:WO.size=all.length)(hi:∀(i:Nat) (v:Vl) (k:κ),WO[i]?=some v->all[i]?=some k->knd.is k v=true/\v.scannable=true)(hb:all.length+1<scanBound) (h:∀(h':Heap) (tk:Nat),h'.SetOf knd s.heap.objs.size (λx=>decide (x∈sN all)) (sN all).length->(∀b o,s.heap.get? b=some o->h'.get? b=some o)->Q (.ref s.heap.objs.size) {s with heap:=h',toks:=tk}):
  wpAny (model prog w) A (call (.type "set") [.ref l]) Q E s:=by
 obtain⟨c,tl,ZH⟩:=fv.mro;have hmade:=fv.made;have Yt:=fv.sub;refine iA (jR ?_);show wpAny _ _ (callAny (.type "set") _) _ _ _;refine dq ⟨ir _ (by decide+kernel),gP lh ?_⟩;rw[kN (j4 "set" [.ref l] []) rfl];have h1:=fv.notType;have h2:=fv.canCreate;have hct:=lK (.ref l)
 repeat (any_goals(first|assumption|wp_step))
 have fresh:∀Xe:Bool,(s.heap.push {cls:=.type "set",dict:=none,data:=.set #[] 0 (.fresh 0 0 Xe)}).get? s.heap.objs.size=some {cls:=.type "set",dict:=none,data:=.set #[] 0 (.fresh 0 0 Xe)}:=λXe=>dG _ rfl;refine gj (code_set_new_1 (.ref l) (E:=E) (Q₁:=λobj s₁=>∃Xe:Bool,obj=Value.ref s.heap.objs.size/\s₁={s with heap:=s.heap.push {cls:=.type "set",dict:=none,data:=.set #[] 0 (.fresh 0 0 Xe)}}) λXe=>⟨Xe,rfl,rfl⟩) λr s₁ hr=>?_;cases r with
 | error e=>exact hr
 | ok fl=>
  cases fl with
  | ret obj=>
   obtain⟨Xe,rfl,rfl⟩:=hr;have hS:=fresh Xe;have hT:Shared.TypeIs {s with heap:=s.heap.push {cls:=.type "set",dict:=none,data:=.set #[] 0 (.fresh 0 0 Xe)}} (.ref s.heap.objs.size) "set":=⟨_,hS,rfl⟩;have hli:=fv.init.lookup;have hbi:=fv.init.bind (.ref s.heap.objs.size)
   repeat (any_goals(first|assumption|wp_step))
   refine gj (iP (R:=wants (λr s₂=>r=.none/\∃h' tk,s₂={s with heap:=h',toks:=tk}/\h'.SetOf knd s.heap.objs.size (λx=>decide (x∈sN all)) (sN all).length/\(∀b o,s.heap.get? b=some o->h'.get? b=some o)) E) fv.init.plain lL (lM hT ?_)) λr₂ s₂ ZI=>?_
   .obtain⟨ol,hol,Zi,nl,hdl⟩:=hl;obtain⟨ocls,Yv,odata,X6⟩:=ol;simp only at Zi hdl;subst Zi;subst hdl;have ZJ:(s.heap.push {cls:=.type "set",dict:=none,data:=.set #[] 0 (.fresh 0 0 Xe)}).get? l=some {cls:=.type "tuple",dict:=Yv,data:=.seq WO nl,slots:=X6}:=df _ hol;have hsls:=C1;have hslf:=zM;have hnd:(Value.type "tuple"==Value.type "dict")=false:=by decide
    have hl1:(s.heap.push {cls:=.type "set",dict:=none,data:=.set #[] 0 (.fresh 0 0 Xe)}).IsTuple l WO:=⟨_,ZJ,rfl,nl,rfl⟩;unfold Builtin.«set.__init__» noKeywords Builtin.Frozenset.updateFrom;generalize hPI:pyIter=PI
    wp_walk
    subst hPI;refine iu hl1 ?_;refine cW (wpAny_runValue ?_);have lS:l<s.heap.objs.size:=dA hol;have hh3:A.in1.in1.in1.handled=none:=by simp[hh]
    have lI:l≠(s.heap.push {cls:=.type "set",dict:=none,data:=.set #[] 0 (.fresh 0 0 Xe)}).objs.size:=by rw[fm];exact dH (fV lS)
    have W:=(Walks.tuple (prog:=prog) (w:=w) hh3 _ l lI WO).toS;rw[hn]at W;refine F0 W s.heap.objs.size ?hf (λi v k e1 e2=>hi i v k e1 e2) hb all.length 0 _ (by omega) (eG _) ⟨⟨_,dG _ rfl,rfl,rfl⟩,(hl1.push _)⟩ ?h0 ?hR;case hf=>rw[fm];simp only[dh,dE,eP,fM];exact⟨dH (fu _),gJ lS⟩
    case h0=>exact iq ((jd (knd:=knd) Xe).setOf (df _ hS) (by unfold scanBound;omega)) (λ_=>rfl) rfl
    case hR=>intro s' hm Yu;obtain⟨h',g',d',tk',Zw⟩:=s';have eg:g'=s.gens:=hm.gens;have ed:d'=s.drawn:=hm.drawn;have eo:Zw=s.os:=hm.os;subst eg;subst ed;subst eo;refine dq ?_;show wpAny _ _ (ret Value.none) _ _ _;refine dq ⟨rfl,h',tk',rfl,Yu,λb o e=>?_⟩;have hb:=dA e;refine hm.heap b o ?_ (df _ (df _ e));rw[fm];simp only[dh,dE,eP,fM];exact⟨dH hb,dH (fV hb)⟩
   .cases r₂ with
    | error e=>exact ZI
    | ok fl₂=>
     cases fl₂ with
     | ret r=>
      obtain⟨rfl,h',tk,rfl,Yu,hk'⟩:=ZI
      repeat (any_goals(first|assumption|wp_step))
      exact h _ _ Yu hk'
     | _=>exact ZI.elim
  | _=>exact hr.elim
end
end L2
namespace HT
open PySem PyProof.Rows
variable {prog:Pg}{w:Wo}{A:Ar}{E:Vl→Sd→Prop}{s:Sd}
def zi{t sl:Addr}{WO:Array Vl}{vl vu:Vl}{lo hi:Option Int}{Q:Vl->Sd->Prop}(ht:IsTup s.heap t WO)(hs:s.heap.IsSliceOf sl vl vu .none)(pl:IsPart vl lo)(pu:IsPart vu hi) (hw:sY WO.size 0 lo=0/\sY WO.size WO.size hi=WO.size) (h:Q (.ref t) s):wpAny (model prog w) A (getItem (.ref t) (.ref sl)) Q E s:=by
 obtain⟨os,Zy,Zd,X3⟩:=id hs;have hTs:s.TypeIs (.ref sl) "slice":=⟨os,Zy,Zd⟩;unfold getItem
 try with_reducible refine eU ?_
 first|refine cW (dq ?_)|skip
 refine cW (jl ht.typeIs (by decide) ?_);refine cW (fN (name:=Str.ofString "__getitem__") ht.typeIs fC (fT fC ht.typeIs kA ?_ (kK _ _)));show wpAny _ _ (Builtin.Tuple.tupleItemsOf (.ref t)>>=_) _ _ s;refine cW (tupleItemsOf_ ht ?_);refine cW (jA hTs ?_);rw[dg (by decide)];refine cW (wb hs pl pu ?_);have yes:(((sY WO.size 0 lo:Nat):Int)==0&&(1:Int)==1&&(sY WO.size WO.size hi - sY WO.size 0 lo)==WO.size)=true:=by rw[hw.1,hw.2];simp
 show wpAny _ _ (if (((sY WO.size 0 lo:Nat):Int)==0&&(1:Int)==1&&(sY WO.size WO.size hi - sY WO.size 0 lo)==WO.size)=true then _ else _) _ _ s;rw[dg yes];have hT:=ht.typeIs;obtain⟨hp,g,d,tk,o⟩:=s
 repeat (any_goals(first|assumption|wp_step))
 exact⟨_,rfl,dq h⟩
end HT
namespace L2
open PySem PySem.Spec PyProof.Rows
variable {X:Cx}{p p2 pos Yw:Pos}{e:Expr}{te:TE}
section
def Vz(K:ql):V->Option Int->Option Int->Hp->VK->Prop:=λx lo hi H Q=>∃a xs,x=.ref a/\uR K H a xs/\(HT.sY xs.length 0 lo=0/\HT.sY xs.length xs.length hi=xs.length)/\Q (.ref a) H
def Ry:T4 X (Vz X.K):=by
 intro WN s σ H x v vl vu lo hi sl Q I rx hs pl pu h;obtain⟨a,xs,rfl,hx,hw,q⟩:=h;cases rx;obtain⟨its,r,ht,hz⟩:=I.tuple hx;have WT:its.toArray.size=xs.length:=by rw[dz];exact r.length.symm
 exact⟨"tuple",_,fC.lookup,ht.typeIs,HT.zi ht hs pl pu (by rw[WT];exact hw) ⟨.ref a,H,I,rfl,q⟩⟩
local instance (priority:=5000) keyBEq:BEq qS:=instBEqOfDecidableEq
local instance (priority:=5000) keyLaw:LawfulBEq qS:=inferInstanceAs (LawfulBEq (Sum Int Str))
def NT(K:ql)(te:TE):TE:=λσ H Q=>te σ H λx H1=>∃a,∃ss:List Str,x=.ref a/\(yR K H1 a (ss.map V.str)\/uR K H1 a (ss.map V.str))/\ss.length+1<scanBound/\Q (.int (sN ss).length) H1
def GY{P:Pg}{w:Wo}{ss:List Str}{us:List Vl}(r:qw (ss.map V.str) us):us.length=ss.length/\∀(i:Nat) (v:Vl) (k:qS),us[i]?=some v->(ss.map λx=>(Sum.inr x:qS))[i]?=some k->(rf P w).is k v=true/\v.scannable=true:=by
 refine⟨by rw[<-r.length,cV],λi v k e1 e2=>?_⟩;rw[dD]at e2;cases q:ss[i]? with
 | none=>rw[q]at e2;cases e2
 | some x=>rw[q]at e2;cases e2;obtain⟨u,e3,t,rfl⟩:=r.get (i:=i) (x:=V.str x) (by rw[dD,q];rfl);rw[e3]at e1;cases e1;exact⟨Am P w x t,rfl⟩
def MH{ss:List Str}:(sN (ss.map λx=>(Sum.inr x:qS))).length=(sN ss).length:=by
 have go:∀(l acc:List Str),(l.map λx=>(Sum.inr x:qS)).foldl (λacc k=>if k∈acc then acc else acc++[k]) (acc.map Sum.inr)=(l.foldl (λacc k=>if k∈acc then acc else acc++[k]) acc).map Sum.inr:=by
  intro l;induction l with
  | nil=>intro acc;rfl
  | cons k r ih=>
   intro acc;rw[dY,fW,fW];have hm:(Sum.inr k:qS)∈acc.map Sum.inr↔k∈acc:=by
    rw[dF];constructor
    .rintro ⟨y,h1,h2⟩;cases h2;exact h1
    .exact λh=>⟨k,h,rfl⟩
   by_cases h:k∈acc
   .rw[dg h,dg (hm.mpr h)];exact ih acc
   .rw[de h,de λz=>h (hm.mp z)];have:=ih (acc++[k]);rw[dQ]at this;exact this
 have:=go ss [];unfold sN;rw[iO]at this;rw[this,cV]
def KG(hc:X.calm=true)(he:PE X e te)(hg1:Gl X "len")(WP:X.mg "len"=none)(hg2:Gl X "set")(W7:X.mg "set"=none)(b1:bootBuiltins "len"=some (.builtin "len"))(b2:bootBuiltins "set"=some (.type "set")) (hs:starEach [e] X.env=[(false,eval e X.env)]:=by rfl):PE X (.Call (.Name "len" p) [.Call (.Name "set" p2) [e] [] Yw] [] pos) (NT X.K te):=by
 intro WN s σ H Q I h;refine fR (vO I hg1 WP b1 ?_);refine gO ?_ rfl rfl;show wpAny _ _ (spliced ((false,eval (.Call (.Name "set" p2) [e] [] Yw) X.env)::backTo pos (starEach [] X.env))) _ _ s;refine il ?_;refine fR (vO I hg2 W7 b2 ?_);refine fL ?_ hs rfl;rw[hs];show wpAny _ _ (spliced ((false,eval e X.env)::backTo Yw (starEach [] X.env))) _ _ s;refine il (su (he WN s σ H _ I h) λu s1 ⟨x,H1,I1,r1,a,ss,ex,hq,hb,q⟩=>iE ?_);subst ex;obtain rfl:u=Value.ref a:=r1;have XF:(ss.map λx=>(Sum.inr x:qS)).length+1<scanBound:=by rw[cV];exact hb
 have WR:∀(h':Heap) (tk:Nat),h'.SetOf (rf X.prog X.w) s1.heap.objs.size (λx=>decide (x∈sN (ss.map λx=>(Sum.inr x:qS)))) (sN (ss.map λx=>(Sum.inr x:qS))).length->(∀b o,s1.heap.get? b=some o->h'.get? b=some o)->
   wpAny (model X.prog X.w) X.A (spliced (backTo pos (starEach [] X.env))) (λvs s₁=>wpAny (model X.prog X.w) X.A (call (.builtin "len") (.ref s1.heap.objs.size::vs)) (EP X WN σ Q) X.xe s₁) X.xe {s1 with heap:=h',toks:=tk}:=λh' tk hS keep=>by
  refine iE ?_;obtain⟨o,es,ep,t,ho,hex,hd,_,_,hz,hf,hn⟩:=hS;have W1:(es.size:Int)<2 ^ 63:=by have:scanBound=4096:=rfl;omega
  refine call_len_set ho hex hd hf W1 ?_;refine⟨.int es.size,H1,I1.kept keep,⟨_,rfl⟩,?_⟩;rw[hn,MH];exact q
 rcases hq with hq|hq
 .obtain⟨its,r,pl,hz⟩:=I1.list hq;obtain⟨k1,k2⟩:=GY (P:=X.prog) (w:=X.w) r;exact L2.Dc (knd:=rf X.prog X.w) (all:=ss.map λx=>(Sum.inr x:qS)) (I1.ok.hd hc) pl.isList (by rw[dz,k1,cV]) (λi v k e1 e2=>k2 i v k (by simpa using e1) e2) XF WR
 .obtain⟨its,r,pl,hz⟩:=I1.tuple hq;obtain⟨k1,k2⟩:=GY (P:=X.prog) (w:=X.w) r;exact L2.BK (knd:=rf X.prog X.w) (all:=ss.map λx=>(Sum.inr x:qS)) (I1.ok.hd hc) pl (by rw[dz,k1,cV]) (λi v k e1 e2=>k2 i v k (by simpa using e1) e2) XF WR
end
variable {WN:List (Addr × Obj)}{σ:St}{H:Hp}{s:Sd}
theorem D0(I:Inv X WN σ H s):∀(ts:List Addr) (kvs:List (qS×V)),ts.length=kvs.length->(∀(j:Nat) (t:Addr) (p:qS×V),ts[j]?=some t->kvs[j]?=some p->uR X.K H t [kV p.1,p.2])->
  ∃(us:List Vl) (all:List (qS×Vl)),us.length=kvs.length/\KV kvs all/\∀(j:Nat) (t:Addr) (p:qS×Vl),ts[j]?=some t->all[j]?=some p->∃u,us[j]?=some u/\s.heap.IsTuple t #[u,p.2]/\(rf X.prog X.w).is p.1 u=true
 | [],[],_,_=>⟨[],[],rfl,.nil,λj t p e=>by simp at e⟩
 | [],_::_,h,_=>by simp at h
 | _::_,[],h,_=>by simp at h
 | t::ts,(k,v)::kvs,h,hq=>by
  obtain⟨us,all,h1,h2,h3⟩:=D0 I ts kvs (by simpa using h) (λj t p e1 e2=>hq (j+1) t p (by simpa using e1) (by simpa using e2));obtain⟨its,r,pl,_⟩:=I.tuple (hq 0 t (k,v) (by simp) (by simp));cases r with
  | cons r1 r2=>
   cases r2 with
   | cons r3 r4=>
    cases r4;rename_i u w;refine⟨u::us,(k,w)::all,by simpa using h1,.cons ⟨rfl,r3⟩ h2,λj t' p e1 e2=>?_⟩;cases j with
    | zero=>
     have e1':t=t':=by simpa using e1
     have YW:(k,w)=p:=by simpa using e2
     subst e1' YW;exact⟨u,by simp,pl,GW r1⟩
    | succ j=>simpa using h3 j t' p (by simpa using e1) (by simpa using e2)
theorem Lu:∀{kvs:List (qS×V)} {all:List (qS×Vl)},KV kvs all->all.map (·.1)=kvs.map (·.1)
 | _,_,.nil=>rfl
 | _,_,.cons r rs=>by rw[dY,dY,Lu rs,r.1]
def Ij(hc:X.calm=true):zq X (.type "dict") (λxs H Q=>∃l,∃ts:List Addr,∃kvs:List (qS×V),xs=[V.ref l]/\yR X.K H l (ts.map V.ref)/\ts.length=kvs.length/\
  (∀(j:Nat) (t:Addr) (p:qS×V),ts[j]?=some t->kvs[j]?=some p->uR X.K H t [kV p.1,p.2])/\(kvs.map (·.1)).Nodup/\∀d,H d=none->Q (.ref d) (upd H d (.dK kvs))):=by
 intro WN s σ H xs us Q I r h;obtain⟨l,ts,kvs,rfl,hl,WT,hq,hnd,q⟩:=h;obtain⟨u,rfl,ru⟩:=ye r;cases ru;obtain⟨its,rv,⟨⟨c1,d1,t1,sl1⟩,n,g1,e1,e2,e3⟩,hz⟩:=I.list hl;simp only at e1 e2 e3;subst e1 e2 e3;obtain⟨ks,all,h1,h2,h3⟩:=D0 I ts kvs WT hq;have la:all.length=kvs.length:=(jh h2).symm;have li:its.length=kvs.length:=by rw[<-rv.length,cV,WT]
 have zl:all.length<=sizeLine:=by rw[la,<-WT];simpa using hz
 have at_:∀(j:Nat) (p:qS×Vl),all[j]?=some p->∃t,ts[j]?=some t:=λj p e=>by have:=(cX.mp e).1;exact⟨ts[j],cY (by omega)⟩
 refine As (knd:=rf X.prog X.w) (all:=all) (λj=>(ks[j]?).getD .none) (λj=>(ts[j]?).getD 0) (I.ok.hd hc) g1 (λj v e=>?_) (by rw[dz,li,la]) (λj p e=>?_) (λj p e=>?_) zl λh' tk hD keep=>?_
 .have e':its[j]?=some v:=by simpa using e
  have hj:=(cX.mp e').1;have hj2:j<ts.length:=by omega
  obtain⟨w,e4,e5⟩:=rv.get (i:=j) (x:=V.ref ts[j]) (by rw[dD,cY hj2];rfl);rw[e']at e4;cases e4;show v=Value.ref ((ts[j]?).getD 0);rw[cY hj2];exact e5
 .obtain⟨t,et⟩:=at_ j p e;obtain⟨u,e4,e5,_⟩:=h3 j t p et e;show s.heap.IsTuple ((ts[j]?).getD 0) #[(ks[j]?).getD .none,p.2];rw[et,e4];exact e5
 .obtain⟨t,et⟩:=at_ j p e;obtain⟨u,e4,_,e6⟩:=h3 j t p et e;show(rf X.prog X.w).is p.1 ((ks[j]?).getD .none)=true;rw[e4];exact e6
 .rw[merged_nil_of_nodup all (by rw[Lu h2];exact hnd)]at hD;have fr:=I.mO.fresh (dw s.heap.objs.size);exact⟨.ref s.heap.objs.size,_,I.laid (t':=tk) (o:=.dK kvs) keep (dw _) (LQ (by rw[<-la];exact zl) (gv.mpr (dO (dH I.big))) h2 hD),rfl,q _ fr⟩
def U4:R2:=λx y H Q=>∃a v,x=.ref a/\E7 H a y (some v)/\Q v H
def OR(hu:X.A.units+1<cLine):SY X U4:=by
 intro value WX WN s σ H x y o i Q I rx ry h hs;obtain⟨a,v,rfl,g,q⟩:=h;obtain rfl:o=Value.ref a:=rx;have hT:=Gs I g;have h2:wpAny (model X.prog X.w) X.A (getItem (.ref a) i) (EP X WN σ Q) X.xe s:=KF hu I g ry λw' s3 I3 YU=>⟨v,H,I3,YU,q⟩;unfold subscriptTail;refine cW ?_;rw[j5 hT.not_modules];refine cW (jS hT jr.lookup ?_);have WR:wpAny (model X.prog X.w) X.A (subscripted WX false (.ref a) i) (λr s₃=>wpAny (model X.prog X.w) X.A (letTemporaryGo value (.ref a) r>>=λ_=>pure r) (EP X WN σ Q) X.xe s₃) X.xe s:=by rw[hs];exact wpAny_operating (eh h2 (λr s₃ h₃=>cW (kl (dq h₃))) λ_ _ x=>x)
 first
  | exact dq (cW WR)
  | exact cW (dq (cW WR))
  | exact cW WR
def Q0(hu:X.A.units+1<cLine):xg X (compareOp .In) (λx y H Q=>∃a o,y=.ref a/\E7 H a x o/\Q (.bl o.isSome) H):=by intro WN s σ H x y v u Q I rx ry h;obtain⟨a,o,rfl,g,q⟩:=h;obtain rfl:u=Value.ref a:=ry;exact Vj hu I g rx λs3 I3=>⟨.bl o.isSome,H,I3,rfl,q⟩
variable {prog:Pg}{w:Wo}{A:Ar}{E:Vl→Sd→Prop}{a:Addr}{δ:Type}{k:Str}{tk:Tok}
section
variable {R:δ→Vl→Prop}{D:List (Str × δ)}
def yQ(T:KTD.TabOf R s.heap a D):s.TypeIs (.ref a) "dict":=let⟨_,o,_,_,ho,hc,_⟩:=T;⟨o,ho,hc.1⟩
def Ip{Q:Option Vl->Sd->Prop}(T:KTD.TabOf R s.heap a D)(h1:∀d v,KTD.datumAt k D=some d->R d v->Q (some v) {s with toks:=s.toks+1})(h2:KTD.datumAt k D=none->Q none {s with toks:=s.toks+1}):
  wpAny (model prog w) A (dictGet a (.str k tk)) Q E s:=by
 obtain⟨_,o,es,ep,ho,hc,hd,hr⟩:=T;have hq:Q (findBy (λk v=>v.isStr k) es k) {s with toks:=s.toks+1}:=by
  have hf:findBy (λk v=>v.isStr k) es k=(es.toList.find? λe=>e.key.isStr k).map (·.val):=by obtain⟨l⟩:=es;simp[findBy]
  rw[hf];cases Zj:KTD.datumAt k D with
  | none=>rw[hr.find_none Zj];exact h2 Zj
  | some d=>obtain⟨v,hv,hfl⟩:=hr.find_some Zj;rw[hv];exact h1 d v Zj hfl
 have XQ:(es.all λe=>isExactStrKey e.key)=true:=by
  obtain⟨l⟩:=es
  simpa using hr.exact
 unfold dictGet
 try with_reducible refine eU ?_
 refine cW (lB (cW (KTD.kt_dictFind_strs (s:={s with toks:=s.toks+1}) ho hd XQ ?_)));rw[findBy_of_findIdx?]at hq;cases hi:es.findIdx? λe=>e.key.isStr k with
 | none=>rw[hi]at hq;exact dq hq
 | some i=>rw[hi]at hq;exact cW (wpAny_dictEntries (s:={s with toks:=s.toks+1}) ho hd (dq hq))
def QV{Q:Vl->Sd->Prop}(T:KTD.TabOf R s.heap a D)(h:Q (.bool (KTD.datumAt k D).isSome) {s with toks:=s.toks+1}):wpAny (model prog w) A (compareOp .In (.str k tk) (.ref a)) Q E s:=by
 have hT:=yQ T;show wpAny _ _ (do return .bool (<-contains (.ref a) (.str k tk))) Q E s;refine cW ?_;unfold contains
 try with_reducible refine eU ?_
 refine cW (jS hT je.lookup ?_);show wpAny _ _ (if (some (Value.builtin "dict.__contains__")==some Value.none)=true then _ else _) _ E s;rw[de (by rw[beq_builtin_none];exact dB)];refine cW (wpAny_callSpecialUnlessNone?_slot (name:=Str.ofString "__contains__") hT je (fT je hT entry_dict_contains ?_ (args_dict_contains _ _)));show wpAny _ _ (dictGet a (.str k tk)>>=_) _ _ s;refine cW (Ip T (λd v ha _=>?_) λhn=>?_)
 .rw[ha]at h;show wpAny _ _ (ret (.bool true)) _ _ _;exact dq ⟨_,rfl,fi (dq h)⟩
 .rw[hn]at h;show wpAny _ _ (Builtin.Dict.pendingKey? a (.str k tk)>>=_) _ _ _;exact cW (wpAny_pendingKey_other T.1 (dq ⟨_,rfl,fi (dq h)⟩))
def MK{Q:Vl->Sd->Prop}{d:δ}(T:KTD.TabOf R s.heap a D)(hd:KTD.datumAt k D=some d)(h:∀v,R d v->Q v {s with toks:=s.toks+1}):wpAny (model prog w) A (getItem (.ref a) (.str k tk)) Q E s:=by
 have hT:=yQ T;unfold getItem
 try with_reducible refine eU ?_
 refine cW (jl hT (by decide) ?_);refine cW (fN (name:=Str.ofString "__getitem__") hT lj (fT lj hT entry_dict_getitem ?_ (args_dict_getitem _ _)));show wpAny _ _ (dictGet a (.str k tk)>>=_) _ _ s;refine cW (Ip T (λd' v ha hv=>dq ⟨v,rfl,dq (h v ?_)⟩) λhn=>?_)
 .rw[hd]at ha;cases ha;exact hv
 .rw[hd]at hn;cases hn
end
def LV(K:ql)(mg:Str->Option Vl)(x:Str)(F:List (Str×List Str)):Prop:=∃a o es ep,mg x=some (.ref a)/\(a==sysModules)=false/\K.lookup a=some o/\o.ExactDict/\o.data=.dict es ep/\
 KTD.Rows (λ(ss:List Str) v=>∃t,v=Value.ref t/\uR K (λ_=>none) t (ss.map V.str)) es.toList F
variable {x:Str}{F:List (Str × List Str)}
def Ja{K:ql}{t:Addr}{xs:List V}{H:Hp}(h:uR K (λ_=>none) t xs):uR K H t xs:=by
 rcases h with(h|⟨o,h⟩)|h
 .cases h
 .cases h
 .exact .inr h
def Gq{K:ql}{mg:Str->Option Vl}(T:LV K mg x F):∃a,mg x=some (.ref a)/\∀h:Heap,K.In h->KTD.TabOf (λ(ss:List Str) v=>∃t,v=Value.ref t/\uR K (λ_=>none) t (ss.map V.str)) h a F:=by obtain⟨a,o,es,ep,h1,h2,h3,h4,h5,h6⟩:=T;exact⟨a,h1,λh hk=>⟨h2,o,es,ep,hk a o h3,h4,h5,h6⟩⟩
def U8(x:Str):It:=⟨λi _=>i<x.cps.size,λi H v H'=>H'=H/\∃c,x.cps[i]?=some c/\v=.str ⟨#[c]⟩,λi _=>i=x.cps.size⟩
def F2{P:Pg}{w:Wo}{K:ql}{tg:Expr}{ty:String}{x:Str}{t:Tok}(it:Addr)(W:∀A':Ar,A'.handled=none->Walks P w A' it [it] [it] x.cps.size (SignAt x) (λi h=>h.IsStrIter it ty x t i)) (hself:∀(A:Ar) (i:Nat) (s:Sd) (Q:Vl->Sd->Prop) (E:Vl->Sd->Prop),s.heap.IsStrIter it ty x t i->Q (.ref it) s->wpAny (model P w) A (pyIter (.ref it)) Q E s) (hn:["enumerate","zip","dict_itemiterator","dict_reverseitemiterator","odict_iterator","itertools.zip_longest","itertools.pairwise"].contains ty=false):GM P w K tg (U8 x) [it] it (λi h=>h.IsStrIter it ty x t i) where
 mem:=by simp
 obj:=λi h st b hb=>by
  obtain rfl:b=it:=by simpa using hb
  obtain⟨o,e,c,d⟩:=st;exact⟨o,e,λv z=>by rw[d]at z;cases z⟩
 keep:=λi h h' st k=>by obtain⟨o,e,r⟩:=st;exact⟨o,k it (by simp) o e,r⟩
 item:=by intro X hP hw hK hc i WN s σ H E I hf st hg;subst hP hw hK;obtain⟨f0,f1,f2,f3,f4,f5⟩:=hf it (by simp);refine(W X.A (I.ok.hd hc)).item i s _ _ hg st λv h' tk hv XB kp=>?_;obtain⟨c,u,e1,e2⟩:=hv;have I1:Inv X WN σ H {s with heap:=h',toks:=tk}:=I.turned (t':=tk) (λb o hb e=>kp b o (by simpa using hb) e) f0 f1 f3 f4 f5;obtain⟨o,e,cl,d⟩:=id XB;exact⟨v,rfl,JH (s:={s with heap:=h',toks:=tk}) e cl d hn ⟨.str ⟨#[c]⟩,H,I1,⟨u,e2⟩,⟨rfl,c,e1,rfl⟩,XB,λb hb=>(hf b hb).1⟩⟩
 done:=by intro X hP hw hK hc i WN s σ H E I hf st hg;subst hP hw hK;obtain⟨f0,f1,f2,f3,f4,f5⟩:=hf it (by simp);obtain rfl:i=x.cps.size:=hg;exact(W X.A (I.ok.hd hc)).done s _ _ st λh' tk kp=>⟨rfl,I.turned (t':=tk) (λb o hb e=>kp b o (by simpa using hb) e) f0 f1 f3 f4 f5⟩
 self:=hself
variable {tg:Expr}
def Pu{l:Expr}{tl:TE}(hc:X.calm=true)(hl:PE X l tl):PI X tg l (λσ H R=>tl σ H λx H1=>(∃a,x=.ref a/\(((∃xs,yR X.K H1 a xs)/\R (UO X.K a) H1)\/((∃xs,uR X.K H1 a xs)/\R (U9 X.K a) H1)))\/∃z,x=.str z/\R (U8 z) H1):=by
 intro WN s σ H R I h;refine su (hl WN s σ H _ I h) λv s1 zz=>x5 zz λx H1 I1 r1 q1=>?_;rcases q1 with⟨a,e,q1⟩|⟨z,e,q⟩
 .subst e;cases r1;rcases q1 with⟨⟨xs,hq⟩,q⟩|⟨⟨xs,hq⟩,q⟩
  .obtain⟨its,rv,p,hz⟩:=I1.list hq;refine gU p.isList ?_;refine⟨s1.heap.objs.size,[s1.heap.objs.size],_,_,H1,rfl,I1.kept (t':=s1.toks) λb o e=>df _ e,KL a _,⟨_,dG _ rfl,rfl,rfl⟩,λb hb=>?_,q⟩;obtain rfl:b=s1.heap.objs.size:=by simpa using hb
   exact I1.nP (dw _) (I1.mO.fresh (dw _))
  .obtain⟨its,rv,p,hz⟩:=I1.tuple hq;refine iu (show s1.heap.IsTuple a its.toArray from p) ?_;refine⟨s1.heap.objs.size,[s1.heap.objs.size],_,_,H1,rfl,I1.kept (t':=s1.toks) λb o e=>df _ e,Hx a _,⟨_,dG _ rfl,rfl,rfl⟩,λb hb=>?_,q⟩;obtain rfl:b=s1.heap.objs.size:=by simpa using hb
   exact I1.nP (dw _) (I1.mO.fresh (dw _))
 .subst e;obtain⟨t,rfl⟩:=r1;have fp:∀b∈[s1.heap.objs.size],AC X WN H1 b:=λb hb=>by
   obtain rfl:b=s1.heap.objs.size:=by simpa using hb
   exact I1.nP (dw _) (I1.mO.fresh (dw _))
  cases ha:z.cps.all (·<128)
  .refine wpAny_pyIter_wide ha ?_;exact⟨s1.heap.objs.size,[s1.heap.objs.size],_,_,H1,rfl,I1.kept (t':=s1.toks) λb o e=>df _ e,F2 _ (λA' hA=>Walks.strWide hA _ z t) (λA i s Q E st h=>wpAny_pyIter_striter_wide st h) (by decide),⟨_,dG _ rfl,rfl,rfl⟩,fp,q⟩
  .refine wpAny_pyIter_ascii ha ?_;exact⟨s1.heap.objs.size,[s1.heap.objs.size],_,_,H1,rfl,I1.kept (t':=s1.toks) λb o e=>df _ e,F2 _ (λA' hA=>Walks.strAscii hA _ z t) (λA i s Q E st h=>wpAny_pyIter_striter_ascii st h) (by decide),⟨_,dG _ rfl,rfl,rfl⟩,fp,q⟩
end L2
namespace L2
inductive Ca{α0:Sort u}{α1:Sort v}(p:α0->α1->Prop):Prop
 | mk (a0:α0) (a1:α1) (h:p a0 a1):Ca p
inductive CK{α0:Sort u}{α1:Sort v}{α2:Sort w}(p:α0->α1->α2->Prop):Prop
 | mk (a0:α0) (a1:α1) (a2:α2) (h:p a0 a1 a2):CK p
def x7{α:Sort u}{β:Sort v}{γ:Sort w}{p q r s:α->β->γ->Prop}{C:Prop}(h:CK λa b c=>p a b c/\q a b c/\r a b c/\s a b c)(f:∀a b c,p a b c->q a b c->r a b c->s a b c->C):C:=by obtain⟨a,b,c,h1,h2,h3,h4⟩:=h;exact f a b c h1 h2 h3 h4
def KP{α:Sort u}{β:Sort v}{γ:Sort w}{p q r s s1 s2 s3:α->β->γ->Prop}{C:Prop}(h:CK λa b c=>p a b c/\q a b c/\r a b c/\s a b c/\s1 a b c/\s2 a b c/\s3 a b c)(f:∀a b c,p a b c->q a b c->r a b c->s a b c->s1 a b c->s2 a b c->s3 a b c->C):C:=by obtain⟨a,b,c,h1,h2,h3,h4,h5,h6,h7⟩:=h;exact f a b c h1 h2 h3 h4 h5 h6 h7
inductive CC{α0:Sort u}{α1:Sort v}{α2:Sort w}{α3:Sort u1}(p:α0->α1->α2->α3->Prop):Prop
 | mk (a0:α0) (a1:α1) (a2:α2) (a3:α3) (h:p a0 a1 a2 a3):CC p
inductive FJ{α0:Sort u}{α1:Sort v}{α2:Sort w}{α3:Sort u1}{α4:Sort u2}(p:α0->α1->α2->α3->α4->Prop):Prop
 | mk (a0:α0) (a1:α1) (a2:α2) (a3:α3) (a4:α4) (h:p a0 a1 a2 a3 a4):FJ p
inductive Iz{α0:Sort u}{α1:Sort v}{α2:Sort w}{α3:Sort u1}{α4:Sort u2}{α5:Sort u3}(p:α0->α1->α2->α3->α4->α5->Prop):Prop
 | mk (a0:α0) (a1:α1) (a2:α2) (a3:α3) (a4:α4) (a5:α5) (h:p a0 a1 a2 a3 a4 a5):Iz p
inductive S5{α0:Sort u}{α1:Sort v}{α2:Sort w}{α3:Sort u1}{α4:Sort u2}{α5:Sort u3}{α6:Sort u4}(p:α0->α1->α2->α3->α4->α5->α6->Prop):Prop
 | mk (a0:α0) (a1:α1) (a2:α2) (a3:α3) (a4:α4) (a5:α5) (a6:α6) (h:p a0 a1 a2 a3 a4 a5 a6):S5 p
inductive S7{α0:Sort u}{α1:Sort v}{α2:Sort w}{α3:Sort u1}{α4:Sort u2}{α5:Sort u3}{α6:Sort u4}{α7:Sort u5}(p:α0->α1->α2->α3->α4->α5->α6->α7->Prop):Prop
 | mk (a0:α0) (a1:α1) (a2:α2) (a3:α3) (a4:α4) (a5:α5) (a6:α6) (a7:α7) (h:p a0 a1 a2 a3 a4 a5 a6 a7):S7 p
inductive UI{α0:Sort u}{α1:Sort v}{α2:Sort w}{α3:Sort u1}{α4:Sort u2}{α5:Sort u3}{α6:Sort u4}{α7:Sort u5}{α8:Sort u6}(p:α0->α1->α2->α3->α4->α5->α6->α7->α8->Prop):Prop
 | mk (a0:α0) (a1:α1) (a2:α2) (a3:α3) (a4:α4) (a5:α5) (a6:α6) (a7:α7) (a8:α8) (h:p a0 a1 a2 a3 a4 a5 a6 a7 a8):UI p
inductive Mu{α0:Sort u}{α1:Sort v}{α2:Sort w}{α3:Sort u1}{α4:Sort u2}{α5:Sort u3}{α6:Sort u4}{α7:Sort u5}{α8:Sort u6}{α9:Sort u7}(p:α0->α1->α2->α3->α4->α5->α6->α7->α8->α9->Prop):Prop
 | mk (a0:α0) (a1:α1) (a2:α2) (a3:α3) (a4:α4) (a5:α5) (a6:α6) (a7:α7) (a8:α8) (a9:α9) (h:p a0 a1 a2 a3 a4 a5 a6 a7 a8 a9):Mu p
inductive VY{α0:Sort u}{α1:Sort v}{α2:Sort w}{α3:Sort u1}{α4:Sort u2}{α5:Sort u3}{α6:Sort u4}{α7:Sort u5}{α8:Sort u6}{α9:Sort u7}{α10:Sort u8}(p:α0->α1->α2->α3->α4->α5->α6->α7->α8->α9->α10->Prop):Prop
 | mk (a0:α0) (a1:α1) (a2:α2) (a3:α3) (a4:α4) (a5:α5) (a6:α6) (a7:α7) (a8:α8) (a9:α9) (oX:α10) (h:p a0 a1 a2 a3 a4 a5 a6 a7 a8 a9 oX):VY p
inductive Vx{α0:Sort u}{α1:Sort v}{α2:Sort w}{α3:Sort u1}{α4:Sort u2}{α5:Sort u3}{α6:Sort u4}{α7:Sort u5}{α8:Sort u6}{α9:Sort u7}{α10:Sort u8}{α11:Sort u9}(p:α0->α1->α2->α3->α4->α5->α6->α7->α8->α9->α10->α11->Prop):Prop
 | mk (a0:α0) (a1:α1) (a2:α2) (a3:α3) (a4:α4) (a5:α5) (a6:α6) (a7:α7) (a8:α8) (a9:α9) (oX:α10) (a11:α11) (h:p a0 a1 a2 a3 a4 a5 a6 a7 a8 a9 oX a11):Vx p
end L2
namespace L2
open PySem
def Tv(a C:Addr)(h:Heap):Prop:=Ca λoe vs=>h.get? a=some oe/\oe.cls=.ref C/\oe.data=.fields vs/\oe.dict=none
end L2
namespace L3
open PySem PySem.Spec PyProof.Rows L2
inductive D where
 | mH|bl (b:Bool)|int (i:Int)|str (x:Str)|tup (ds:List D)|ref (a:Addr)|ty (n:String)
 | rl (ds:List D)
def Oz(K:ql)(H:Hp)(a:Addr)(xs:List V):Prop:=(∃o,H a=some (.frz o (.lst xs)))\/
 ∃(o:Obj) (its:Array Vl) (n:Nat),K.lookup a=some o/\o.cls=.type "list"/\o.dict=none/\o.data=.seq its n/\its.size<=sizeLine/\qw xs its.toList
def Oz.sq{K:ql}{H:Hp}{a:Addr}{xs:List V}(h:Oz K H a xs):yR K H a xs:=by
 rcases h with⟨o,h⟩|h
 .exact .inl (.inr ⟨o,h⟩)
 .exact .inr h
mutual
def rD(K:ql)(H:Hp):D->V->Prop
 | .mH,v=>v=.mH
 | .bl b,v=>v=.bl b
 | .int i,v=>v=.int i
 | .str x,v=>v=.str x
 | .ref a,v=>v=.ref a
 | .ty n,v=>v=.ty n
 | .tup ds,v=>∃a xs,v=.ref a/\uR K H a xs/\qa K H ds xs
 | .rl ds,v=>∃a xs,v=.ref a/\Oz K H a xs/\qa K H ds xs
def qa(K:ql)(H:Hp):List D->List V->Prop
 | [],xs=>xs=[]
 | d::ds,xs=>∃x r,xs=x::r/\rD K H d x/\qa K H ds r
end
structure qK(K:ql)(H H':Hp):Prop where
 t:∀a xs,uR K H a xs->uR K H' a xs
 f:∀a o xs,H a=some (.frz o (.lst xs))->H' a=some (.frz o (.lst xs))
def qK.refl{K:ql}{H:Hp}:qK K H H:=⟨λ_ _ h=>h,λ_ _ _ h=>h⟩
def qK.trans{K:ql}{H H1 H2:Hp}(a:qK K H H1)(b:qK K H1 H2):qK K H H2:=⟨λc xs h=>b.t c xs (a.t c xs h),λc o xs h=>b.f c o xs (a.f c o xs h)⟩
def qK.upd{K:ql}{H:Hp}{p:Addr}{o:HO}(h:∀xs,¬Rd H p (.tup xs))(h':∀u xs,H p≠some (.frz u (.lst xs))):qK K H (upd H p o):=⟨λa xs q=>by
 rcases q with q|q
 .have ne:a≠p:=λz=>h xs (z ▸ q);rcases q with q|⟨u,q⟩
  .exact .inl (.inl (by rw[pZ ne];exact q))
  .exact .inl (.inr ⟨u,by rw[pZ ne];exact q⟩)
 .exact .inr q,λa u xs q=>by
 have ne:a≠p:=λz=>h' u xs (z ▸ q);rw[pZ ne];exact q⟩
def qK.new{K:ql}{H:Hp}{p:Addr}{o:HO}(h:H p=none):qK K H (L2.upd H p o):=.upd (λxs q=>by
 rcases q with q|⟨u,q⟩<;>(rw[h]at q;cases q)) λu xs q=>by rw[h]at q;cases q
def Oz.mono{K:ql}{H H':Hp}{a:Addr}{xs:List V}(e:qK K H H')(h:Oz K H a xs):Oz K H' a xs:=by
 rcases h with⟨o,h⟩|h
 .exact .inl ⟨o,e.f a o xs h⟩
 .exact .inr h
mutual
theorem rD.mono{K:ql}{H H':Hp}(e:qK K H H'):∀{d:D} {v:V},rD K H d v->rD K H' d v
 | .mH,_,h=>h
 | .bl _,_,h=>h
 | .int _,_,h=>h
 | .str _,_,h=>h
 | .ref _,_,h=>h
 | .ty _,_,h=>h
 | .tup ds,v,h=>by unfold rD at h ⊢;obtain⟨a,xs,e1,e2,e3⟩:=h;exact⟨a,xs,e1,e.t _ _ e2,qa.mono e e3⟩
 | .rl ds,v,h=>by unfold rD at h ⊢;obtain⟨a,xs,e1,e2,e3⟩:=h;exact⟨a,xs,e1,e2.mono e,qa.mono e e3⟩
theorem qa.mono{K:ql}{H H':Hp}(e:qK K H H'):∀{ds:List D} {xs:List V},qa K H ds xs->qa K H' ds xs
 | [],_,h=>h
 | d::ds,xs,h=>by unfold qa at h ⊢;obtain⟨x,r,e1,e2,e3⟩:=h;exact⟨x,r,e1,rD.mono e e2,qa.mono e e3⟩
end
variable {K:ql}{H H':Hp}
def qa.nil:qa K H [] []:=by unfold qa;rfl
def qa.cons{d:D}{ds:List D}{x:V}{xs:List V}(a:rD K H d x)(b:qa K H ds xs):qa K H (d::ds) (x::xs):=by unfold qa;exact⟨x,xs,rfl,a,b⟩
def qa.inv{d:D}{ds:List D}{xs:List V}(h:qa K H (d::ds) xs):∃x r,xs=x::r/\rD K H d x/\qa K H ds r:=by unfold qa at h;exact h
def qa.nil_inv{xs:List V}(h:qa K H [] xs):xs=[]:=by unfold qa at h;exact h
theorem qa.length:∀{ds:List D} {xs:List V},qa K H ds xs->ds.length=xs.length
 | [],_,h=>by rw[h.nil_inv];rfl
 | d::ds,_,h=>by obtain⟨x,r,rfl,_,e⟩:=h.inv;simp[qa.length e]
theorem qa.get:∀{ds:List D} {xs:List V} {i:Nat} {d:D},qa K H ds xs->ds[i]?=some d->∃x,xs[i]?=some x/\rD K H d x
 | [],_,_,_,_,e=>by simp at e
 | d::ds,_,0,_,h,e=>by obtain⟨x,r,rfl,a,_⟩:=h.inv;simp at e;subst e;exact⟨x,by simp,a⟩
 | d::ds,_,i+1,_,h,e=>by obtain⟨x,r,rfl,_,b⟩:=h.inv;obtain⟨y,e1,e2⟩:=qa.get b (by simpa using e);exact⟨y,by simpa using e1,e2⟩
theorem qa.append:∀{ds es:List D} {xs ys:List V},qa K H ds xs->qa K H es ys->qa K H (ds++es) (xs++ys)
 | [],_,_,_,h,g=>by rw[h.nil_inv];exact g
 | d::ds,_,_,_,h,g=>by obtain⟨x,r,rfl,a,b⟩:=h.inv;exact .cons a (qa.append b g)
theorem qa.take:∀{ds:List D} {xs:List V} (n:Nat),qa K H ds xs->qa K H (ds.take n) (xs.take n)
 | _,_,0,_=>by simp only[List.take_zero];exact .nil
 | [],_,n+1,h=>by rw[h.nil_inv];exact .nil
 | d::ds,_,n+1,h=>by obtain⟨x,r,rfl,a,b⟩:=h.inv;exact .cons a (qa.take n b)
theorem qa.drop:∀{ds:List D} {xs:List V} (n:Nat),qa K H ds xs->qa K H (ds.drop n) (xs.drop n)
 | _,_,0,h=>h
 | [],_,n+1,h=>by rw[h.nil_inv];exact .nil
 | d::ds,_,n+1,h=>by obtain⟨x,r,rfl,a,b⟩:=h.inv;exact qa.drop n b
def qa.snoc{ds:List D}{xs:List V}{d:D}{x:V}(h:qa K H ds xs)(a:rD K H d x):qa K H (ds++[d]) (xs++[x]):=h.append (.cons a .nil)
theorem qa.ints:∀{ns:List Int},qa K H (ns.map D.int) (ns.map V.int)
 | []=>.nil
 | n::r=>.cons (by unfold rD;rfl) qa.ints
def rD.tup{ds:List D}{a:Addr}{xs:List V}(q:uR K H a xs)(h:qa K H ds xs):rD K H (.tup ds) (.ref a):=by unfold rD;exact⟨a,xs,rfl,q,h⟩
def rD.mM{ds:List D}{v:V}(h:rD K H (.tup ds) v):∃a xs,v=.ref a/\uR K H a xs/\qa K H ds xs:=by unfold rD at h;exact h
def rD.mW{ds:List D}{v:V}(h:rD K H (.rl ds) v):∃a xs,v=.ref a/\Oz K H a xs/\qa K H ds xs:=by unfold rD at h;exact h
def rD.int{i:Int}:rD K H (.int i) (.int i):=by unfold rD;rfl
def rD.bl{i:Bool}:rD K H (.bl i) (.bl i):=by unfold rD;rfl
def rD.str{i:Str}:rD K H (.str i) (.str i):=by unfold rD;rfl
def rD.ref{i:Addr}:rD K H (.ref i) (.ref i):=by unfold rD;rfl
def rD.mH:rD K H .mH .mH:=by unfold rD;rfl
def rD.int_inv{i:Int}{v:V}(h:rD K H (.int i) v):v=.int i:=by unfold rD at h;exact h
def rD.mJ{i:Bool}{v:V}(h:rD K H (.bl i) v):v=.bl i:=by unfold rD at h;exact h
def rD.str_inv{i:Str}{v:V}(h:rD K H (.str i) v):v=.str i:=by unfold rD at h;exact h
def rD.mF{i:Addr}{v:V}(h:rD K H (.ref i) v):v=.ref i:=by unfold rD at h;exact h
def rD.nN{i:String}{v:V}(h:rD K H (.ty i) v):v=.ty i:=by unfold rD at h;exact h
def rD.mI{v:V}(h:rD K H .mH v):v=.mH:=by unfold rD at h;exact h
inductive uT where
 | lst (ds:List D)
 | ins (C:Addr) (fs:List (Str×D))
 | dk (kvs:List (qS×D))
 | exc (C:Addr)
abbrev Mp:=Addr->Option uT
def pz(M:Mp)(a:Addr)(c:uT):Mp:=λb=>if b=a then some c else M b
def pL{M:Mp}{a:Addr}{c:uT}:pz M a c a=some c:=by unfold pz;rw[dg rfl]
def tU{M:Mp}{a b:Addr}{c:uT}(h:b≠a):pz M a c b=M b:=by unfold pz;rw[de h]
def rA{M:Mp}{a:Addr}{c d:uT}:pz (pz M a c) a d=pz M a d:=by funext b;unfold pz;split<;>rfl
def S4{M:Mp}{a b:Addr}{c:uT}(h:M a=some c)(h':M b=none):a≠b:=by intro e;subst e;rw[h]at h';cases h'
def Cy(K:ql)(H:Hp)(fs:List (Str×D))(vs:List (Str×V)):Prop:=vs.map (·.1)=fs.map (·.1)/\qa K H (fs.map (·.2)) (vs.map (·.2))
def xF(K:ql)(H:Hp)(a:Addr):uT->Prop
 | .lst ds=>∃xs,H a=some (.lst xs)/\qa K H ds xs
 | .ins C fs=>∃dx vs,H a=some (.ins C dx vs)/\Cls K C/\(∀f,f∈fs.map (·.1)->tX K C f)/\Cy K H fs vs
 | .dk kvs=>∃vs,H a=some (.dK vs)/\vs.map (·.1)=kvs.map (·.1)/\qa K H (kvs.map (·.2)) (vs.map (·.2))
 | .exc C=>H a=some (.ext (Tv a C))
def HM(K:ql)(H:Hp)(M:Mp):Prop:=∀a c,M a=some c->xF K H a c
variable {M:Mp}
def Cy.mono{fs:List (Str×D)}{vs:List (Str×V)}(e:qK K H H')(h:Cy K H fs vs):Cy K H' fs vs:=⟨h.1,h.2.mono e⟩
def xF.keep{a:Addr}{c:uT}(e:qK K H H')(k:H' a=H a)(h:xF K H a c):xF K H' a c:=by
 cases c with
 | lst ds=>obtain⟨xs,e1,e2⟩:=h;exact⟨xs,by rw[k];exact e1,e2.mono e⟩
 | ins C fs=>obtain⟨dx,vs,e1,c,n,e2⟩:=h;exact⟨dx,vs,by rw[k];exact e1,c,n,e2.mono e⟩
 | dk kvs=>obtain⟨vs,e1,e2,e3⟩:=h;exact⟨vs,by rw[k];exact e1,e2,e3.mono e⟩
 | exc C=>exact k.trans h
def xF.there{a:Addr}{c:uT}(h:xF K H a c):∃o,H a=some o/\(∀xs,¬Rd H a (.tup xs))/\∀u xs,H a≠some (.frz u (.lst xs)):=by
 have go:∀o,H a=some o->(∀xs,o≠.tup xs)->(∀u v,o≠.frz u v)->∃o,H a=some o/\(∀xs,¬Rd H a (.tup xs))/\∀u xs,H a≠some (.frz u (.lst xs)):=λo e n1 n2=>⟨o,e,λxs q=>by
  rcases q with q|⟨u,q⟩
  .rw[e]at q;exact n1 xs (dn q)
  .rw[e]at q;exact n2 u _ (dn q),λu xs q=>by rw[e]at q;exact n2 u _ (dn q)⟩
 cases c with
 | lst ds=>obtain⟨xs,e1,e2⟩:=h;exact go _ e1 (λ_ z=>by cases z) λ_ _ z=>by cases z
 | ins C fs=>obtain⟨dx,vs,e1,e2⟩:=h;exact go _ e1 (λ_ z=>by cases z) λ_ _ z=>by cases z
 | dk kvs=>obtain⟨vs,e1,e2,e3⟩:=h;exact go _ e1 (λ_ z=>by cases z) λ_ _ z=>by cases z
 | exc C=>exact go _ h (λ_ z=>by cases z) λ_ _ z=>by cases z
def HM.fresh(h:HM K H M){p:Addr}(n:H p=none):M p=none:=by
 cases e:M p with
 | none=>rfl
 | some c=>obtain⟨o,q,_⟩:=(h p c e).there;rw[n]at q;cases q
def HM.keep(h:HM K H M)(e:qK K H H')(k:∀a c,M a=some c->H' a=H a):HM K H' M:=λa c q=>(h a c q).keep e (k a c q)
def HM.add(h:HM K H M){p:Addr}{o:HO}(n:H p=none):HM K (upd H p o) M:=h.keep (.new n) λa c q=>by obtain⟨u,e,_⟩:=(h a c q).there;rw[pZ (qJ e n)]
def HM.new(h:HM K H M){p:Addr}{o:HO}{c:uT}(n:H p=none)(ok:xF K (upd H p o) p c):HM K (upd H p o) (pz M p c):=λa d q=>by
 by_cases e:a=p
 .subst e;rw[pL]at q;cases q;exact ok
 .rw[tU e]at q;exact h.add n a d q
def HM.put(h:HM K H M){p:Addr}{o:HO}{c c0:uT}(e0:M p=some c0)(ok:qK K H (upd H p o)->xF K (upd H p o) p c):HM K (upd H p o) (pz M p c)/\qK K H (upd H p o):=by
 obtain⟨u,eu,nt,nf⟩:=(h p c0 e0).there;have x:qK K H (upd H p o):=.upd nt nf;refine⟨λa d q=>?_,x⟩;by_cases e:a=p
 .subst e;rw[pL]at q;cases q;exact ok x
 .rw[tU e]at q;exact(h a d q).keep x (pZ e)
abbrev St:=L2.St
abbrev vh:=List (Option D)
abbrev DK:=D->Mp->Prop
abbrev T3:=vh->Mp->DK->Prop
abbrev Ae:=vh->Mp->(Bool->Mp->Prop)->Prop
abbrev wY:=vh->Mp->(List D->Mp->Prop)->Prop
structure GN where
 nx:vh->Mp->Prop
 rt:DK
 bk:vh->Mp->Prop:=λ_ _=>False
 ct:vh->Mp->Prop:=λ_ _=>False
abbrev xc:=GN->vh->Mp->Prop
def zC(K:ql)(H:Hp)(σ:St)(δ:vh):Prop:=∀(i:Nat) (d:D),δ[i]?=some (some d)->∃v,σ[i]?=some (some v)/\rD K H d v
def zC.mono{K:ql}{H H':Hp}{σ:St}{δ:vh}(e:qK K H H')(h:zC K H σ δ):zC K H' σ δ:=λi d q=>by obtain⟨v,e1,e2⟩:=h i d q;exact⟨v,e1,e2.mono e⟩
def zC.set{K:ql}{H:Hp}{σ:St}{δ:vh}{i:Nat}{d:D}{v:V}(h:zC K H σ δ)(hv:rD K H d v)(hi:i<σ.length):zC K H (σ.set i (some v)) (δ.set i (some d)):=λj e q=>by
 by_cases hj:j=i
 .subst hj;rw[fF hi];by_cases hl:j<δ.length
  .rw[fF hl]at q;cases q;exact⟨v,rfl,hv⟩
  .rw[g9 (by simpa using hl)]at q;cases q
 .rw[fE (dO hj)]at q ⊢;exact h j e q
def lo(K:ql)(t:T3):TE:=λσ H Q'=>CK λδ M Q=>zC K H σ δ/\HM K H M/\t δ M Q/\∀v H' d M',rD K H' d v->HM K H' M'->qK K H H'->Q d M'->Q' v H'
def SX(K:ql)(t:Ae):TT:=λσ H Q'=>CK λδ M Q=>zC K H σ δ/\HM K H M/\t δ M Q/\∀b H' M',HM K H' M'->qK K H H'->Q b M'->Q' b H'
def Wp(K:ql)(t:wY):TA:=λσ H Q'=>CK λδ M Q=>zC K H σ δ/\HM K H M/\t δ M Q/\∀vs H' ds M',qa K H' ds vs->HM K H' M'->qK K H H'->Q ds M'->Q' vs H'
def UV(K:ql)(t:xc):TS:=λD' σ H=>CK λδ M D=>zC K H σ δ/\HM K H M/\t D δ M/\(∀σ' H' δ' M',zC K H' σ' δ'->HM K H' M'->qK K H H'->σ'.length=σ.length->D.nx δ' M'->D'.nx σ' H')/\
 (∀v H' d M',rD K H' d v->HM K H' M'->qK K H H'->D.rt d M'->D'.rt v H')/\(∀σ' H' δ' M',zC K H' σ' δ'->HM K H' M'->qK K H H'->σ'.length=σ.length->D.bk δ' M'->D'.bk σ' H')/\
 (∀σ' H' δ' M',zC K H' σ' δ'->HM K H' M'->qK K H H'->σ'.length=σ.length->D.ct δ' M'->D'.ct σ' H')
def E3(X:Cx)(e:Expr)(t:T3):Prop:=PE X e (lo X.K t)
def B3(X:Cx)(e:Expr)(t:Ae):Prop:=PT X e (SX X.K t)
def A3(X:Cx)(es:List Expr)(t:wY):Prop:=PA X es (Wp X.K t)
def S3(X:Cx)(st:Stmt)(t:xc):Prop:=PS X st (UV X.K t)
def G9(X:Cx)(st:List Stmt)(t:xc):Prop:=BR X st (UV X.K t)
def PE.mono{X:Cx}{e:Expr}{t t':TE}(h:PE X e t)(m:∀σ H Q,t' σ H Q->t σ H Q):PE X e t':=λWN s σ H Q I q=>h WN s σ H Q I (m σ H Q q)
def PT.mono{X:Cx}{e:Expr}{t t':TT}(h:PT X e t)(m:∀σ H Q,t' σ H Q->t σ H Q):PT X e t':=λWN s σ H Q I q=>h WN s σ H Q I (m σ H Q q)
def PA.mono{X:Cx}{e:List Expr}{t t':TA}(h:PA X e t)(m:∀σ H Q,t' σ H Q->t σ H Q):PA X e t':=λpos WN s σ H Q I q=>h pos WN s σ H Q I (m σ H Q q)
def PS.mono{X:Cx}{e:Stmt}{t t':TS}(h:PS X e t)(m:∀D σ H,t' D σ H->t D σ H):PS X e t':=λWN s σ H D I q=>h WN s σ H D I (m D σ H q)
def BR.mono{X:Cx}{e:List Stmt}{t t':TS}(h:BR X e t)(m:∀D σ H,t' D σ H->t D σ H):BR X e t':=λWN s σ H D I q=>h WN s σ H D I (m D σ H q)
def PS.nK{X:Cx}{e:Stmt}{t t':TS}(h:PS X e t)(m:∀D σ H,σ.length=X.N.length->t' D σ H->t D σ H):PS X e t':=λWN s σ H D I q=>h WN s σ H D I (m D σ H I.len q)
def uZ{K:ql}{H H1:Hp}{Q':VK}{Q:DK}(x:qK K H H1)(f:∀v H' d M',rD K H' d v->HM K H' M'->qK K H H'->Q d M'->Q' v H'):∀v H' d M',rD K H' d v->HM K H' M'->qK K H1 H'->Q d M'->Q' v H':=
 λv H' d M' a b c e=>f v H' d M' a b (x.trans c) e
variable {X:Cx}{pos:Pos}
def v3(i:Nat):T3:=λδ M Q=>(δ.getD i none).elim False λd=>Q d M
def Kp{δ:vh}{i:Nat}{P:D->Prop}(h:(δ.getD i none).elim False P):∃d,δ[i]?=some (some d)/\P d:=by
 cases e:δ[i]? with
 | none=>rw[gc,e]at h;exact h.elim
 | some o=>
  rw[gc,e]at h;cases o with
  | none=>exact h.elim
  | some d=>exact⟨d,rfl,h⟩
def Re(i:Nat){x:Str}(h:PE X (.Name x pos) (Ii i)):E3 X (.Name x pos) (v3 i):=PE.mono h λσ H Q' zz=>x7 zz λδ M Q hs hm ht k=>by obtain⟨d,e,q⟩:=Kp ht;obtain⟨v,e1,e2⟩:=hs i d e;exact⟨v,e1,k v H d M e2 hm .refl q⟩
def c3(d:D):T3:=λ_ M Q=>Q d M
def pb{i j}:E3 X (.Constant (.int i) j pos) (c3 (.int i)):=PE.mono RY λσ H Q' zz=>x7 zz λδ M Q hs hm ht k=>k _ H _ M .int hm .refl ht
def xk{i j}:E3 X (.Constant (.bool i) j pos) (c3 (.bl i)):=PE.mono Td λσ H Q' zz=>x7 zz λδ M Q hs hm ht k=>k _ H _ M .bl hm .refl ht
def pf{i j}:E3 X (.Constant (.str i) j pos) (c3 (.str i)):=PE.mono SR λσ H Q' zz=>x7 zz λδ M Q hs hm ht k=>k _ H _ M .str hm .refl ht
def rL{j}:E3 X (.Constant .none j pos) (c3 .mH):=PE.mono Q5 λσ H Q' zz=>x7 zz λδ M Q hs hm ht k=>k _ H _ M .mH hm .refl ht
def Oq{x:Str}{a:Addr}(hg:Gl X x)(hm:X.mg x=some (.ref a))(hd:yk x:=by decide):E3 X (.Name x pos) (c3 (.ref a)):=
 PE.mono (Be (v:=.ref a) hg hm rfl hd) λσ H Q' zz=>x7 zz λδ M Q hs hm ht k=>k _ H _ M .ref hm .refl ht
def Tz{x:Str}{n:String}(hg:Gl X x)(hm:X.mg x=none)(hv:bootBuiltins x=some (.type n))(hn:x≠"__name__":=by decide)(hd:yk x:=by decide):E3 X (.Name x pos) (c3 (.ty n)):=
 PE.mono (P0 (v:=.ty n) hg hm hv rfl hn hd) λσ H Q' zz=>x7 zz λδ M Q hs hm ht k=>k _ H _ M (by unfold rD;rfl) hm .refl ht
def oJ(M:Mp)(a:Addr):Option (List D):=match M a with
 | some (.lst ds)=>some ds
 | _=>none
def yr(x:Str)(n:Int):Str:=⟨(List.replicate n.toNat x.cps).foldl (·++·) #[]⟩
def UW(op:Operator)(x y:D)(M:Mp)(Q:DK):Prop:=match op,x,y with
 | .Add,.int i,.int j=>Q (.int (i+j)) M
 | .Add,.str i,.str j=>i.length+j.length<=sizeLine/\Q (.str (i++j)) M
 | .Add,.tup i,.tup j=>i≠[]/\i.length+j.length<=sizeLine/\Q (.tup (i++j)) M
 | .Add,.ref a,.ref b=>(oJ M a).elim False λi=>(oJ M b).elim False λj=>i.length+j.length<=sizeLine/\∀p,M p=none->Q (.ref p) (pz M p (.lst (i++j)))
 | .Add,.rl i,.ref b=>(oJ M b).elim False λj=>i.length+j.length<=sizeLine/\∀p,M p=none->Q (.ref p) (pz M p (.lst (i++j)))
 | .Sub,.int i,.int j=>Q (.int (i - j)) M
 | .Mult,.int i,.int j=>CZ i j/\Q (.int (i*j)) M
 | .Mult,.str i,.int j=>(j<4096/\-4096<j/\i.length<4096)/\Q (.str (yr i j)) M
 | .FloorDiv,.int i,.int j=>TJ i j/\Q (.int (i / j)) M
 | .Mod,.int i,.int j=>0<j/\Q (.int (i % j)) M
 | _,_,_=>False
def o3(op:Operator)(ta tb:T3):T3:=λδ M Q=>ta δ M λx M1=>tb δ M1 λy M2=>UW op x y M2 Q
def Up(K:ql)(H:Hp)(Q':VK)(Q:DK):Prop:=∀v H' d M',rD K H' d v->HM K H' M'->qK K H H'->Q d M'->Q' v H'
variable {ta tb:T3}
section
def qo{K:ql}{H:Hp}{M:Mp}{a:Addr}{ds:List D}(hm:HM K H M)(h:oJ M a=some ds):∃xs,yR K H a xs/\qa K H ds xs/\Rd H a (.lst xs):=by
 unfold oJ at h;cases e:M a with
 | none=>rw[e]at h;cases h
 | some c=>
  rw[e]at h;have ok:=hm a c e;cases c with
  | lst es=>cases h;obtain⟨xs,e1,e2⟩:=ok;exact⟨xs,.inl (.inl e1),e2,.inl e1⟩
  | ins _ _=>cases h
  | dk _=>cases h
  | exc _=>cases h
def qT{α:Type}{o:Option α}{P:α->Prop}(h:o.elim False P):∃a,o=some a/\P a:=by
 cases o with
 | none=>exact h.elim
 | some a=>exact⟨a,rfl,h⟩
def IY:xg X (binaryOp .Add) (λx y H Q=>∃l b xs zs,x=.ref l/\y=.ref b/\yR X.K H l xs/\yR X.K H b zs/\xs.length+zs.length<=sizeLine/\∀p,H p=none->Q (.ref p) (upd H p (.lst (xs++zs)))):=by
 intro WN s σ H x y v u Q I rx ry h;obtain⟨l,b,xs,zs,rfl,rfl,hH,hB,hz,q⟩:=h;cases rx;cases ry;obtain⟨its,r,⟨⟨c1,d1,t1,sl1⟩,n,g1,e1,_,f1⟩,_⟩:=I.list hH;obtain⟨YI,r2,⟨⟨c2,d2,t2,sl2⟩,m,g2,e2,_,f2⟩,_⟩:=I.list hB;simp only at e1 f1 e2 f2;subst e1 f1 e2 f2;have hl:=r.length;have hl2:=r2.length;refine kI ⟨_,g1,rfl⟩ ⟨_,g2,rfl⟩ noFill_list_add seq_list_add PySem.F.slot_list_add PySem.F.entry_list_add (PySem.F.args_list_add_2 _ _) (list_addW l b its.toArray YI.toArray n m d1 d2 sl1 sl2 (by rw[dz,dz];omega)) ⟨g1,g2,?_⟩;have ea:its.toArray++YI.toArray=(its++YI).toArray:=by simp
 rw[ea];exact⟨.ref _,_,I.oG (t':=s.toks) (r.append r2) (by rw[cZ];omega),rfl,q _ I.fresh⟩
def Jq(x:Array Nat):∀k,((List.replicate k x).foldl (·++·) #[]:Array Nat).size=k*x.size:=by
 have go:∀(k:Nat) (acc:Array Nat),((List.replicate k x).foldl (·++·) acc).size=acc.size+k*x.size:=by
  intro k;induction k with
  | zero=>intro acc;simp
  | succ k ih=>intro acc;rw[eJ,fW,ih,Array.size_append,mo];omega
 intro k;rw[go];simp
def Qg:xg X (binaryOp .Mult) (λx y H Q=>∃i j,x=.str i/\y=.int j/\(j<4096/\-4096<j/\i.length<4096)/\Q (.str (yr i j)) H):=by
 intro WN s σ H x y v u Q I rx ry h;obtain⟨i,j,rfl,rfl,⟨h1,h2,h3⟩,q⟩:=h;obtain⟨t,rfl⟩:=rx;obtain⟨t',rfl⟩:=ry;refine PySem.P.mul_str ?_ ?_ ?_ ?_
 .rw[eN (by omega),eN (by omega)];rfl
 .intro h0 _;have:(4096:Int)<=(2 ^ 63 - 1) / j:=by
   have:(4096:Int)*j<=2 ^ 63 - 1:=by omega
   exact(Int.le_ediv_iff_mul_le (by omega)).mpr this
  omega
 .intro h0 _;have hm:i.length*j.toNat<=4096*4096:=j6 (by omega) (by omega);have hz:=dM;unfold Builtin.Str.tooLong;exact eN (by omega)
 .by_cases h0:j<1
  .rw[dg h0];have e:yr i j=Str.empty:=by unfold yr;rw[show j.toNat=0 by omega];rfl
   rw[e]at q;exact⟨by decide,⟨.str Str.empty,H,I.tok _,⟨_,rfl⟩,q⟩⟩
  .rw[de h0];by_cases hj:(j==1||i.length==0)=true
   .rw[dg hj];have e:yr i j=i:=by
     have hj':j=1\/i.length=0:=by simpa using hj
     unfold yr;rcases hj' with z|z
     .subst z;show(⟨#[]++i.cps⟩:Str)=i;simp
     .have ec:i.cps=#[]:=Array.size_eq_zero_iff.mp z;have er:∀k:Nat,((List.replicate k (#[]:Array Nat)).foldl (·++·) #[]:Array Nat)=#[]:=by
       intro k;induction k with
       | zero=>rfl
       | succ k ih=>rw[eJ,fW];simpa using ih
      rw[ec,er,<-ec]
    rw[e]at q;exact⟨.str i,H,I,⟨t,rfl⟩,q⟩
   .rw[de hj];refine⟨?_,⟨.str _,H,I.tok _,⟨_,rfl⟩,q⟩⟩;have hz:=dM;have hm:j.toNat*i.length<=4096*4096:=j6 (by omega) (by omega);show((List.replicate j.toNat i.cps).foldl (·++·) #[]:Array Nat).size<=_;rw[Jq];have Yi:j.toNat*i.cps.size<=4096*4096:=hm;omega
def R3(K:ql)(f:D->D->Mp->DK->Prop):R2:=λvx vy H Q'=>CC λx y M Q=>rD K H x vx/\rD K H y vy/\HM K H M/\f x y M Q/\Up K H Q' Q
def Wz(op:Operator):xg X (binaryOp op) (R3 X.K (UW op)):=by
 intro WN s σ H vx vy v u Q' I rx ry h;obtain⟨x,y,M,Q,hx,hy,hm,q,k⟩:=h;unfold UW at q;split at q
 .cases hx.int_inv;cases hy.int_inv;exact Ss WN s σ H _ _ v u Q' I rx ry ⟨_,_,rfl,rfl,k _ _ _ _ .int hm .refl q⟩
 .cases hx.str_inv;cases hy.str_inv;exact G' WN s σ H _ _ v u Q' I rx ry ⟨_,_,rfl,rfl,q.1,k _ _ _ _ .str hm .refl q.2⟩
 .rename_i i j;obtain⟨q1,q2,q3⟩:=q;obtain⟨a,xs,rfl,ha,Yk⟩:=hx.mM;obtain⟨b,ys,rfl,hb,XF⟩:=hy.mM;have l1:=Yk.length;have l2:=XF.length;refine NZ WN s σ H _ _ v u Q' I rx ry ⟨a,b,xs,ys,rfl,rfl,ha,hb,λz=>q1 (by rw[z]at l1;exact gu.mp l1),by omega,λz=>?_,λz p hp=>?_⟩
  .refine k _ _ _ _ (.tup ha ?_) hm .refl q3;rw[z]at XF;have e0:j=[]:=gu.mp (by simpa using XF.length);rw[e0,eO];exact Yk
  .have e:qK X.K H (upd H p (.tup (xs++ys))):=.new hp;exact k _ _ _ _ (.tup (.of qe) ((Yk.append XF).mono e)) (hm.add hp) e q3
 .obtain⟨i,ei,q⟩:=qT q;obtain⟨j,ej,q1,q2⟩:=qT q;cases hx.mF;cases hy.mF;obtain⟨xs,rx',ZK,_⟩:=qo hm ei;obtain⟨ys,ry',hys,_⟩:=qo hm ej;have l1:=ZK.length;have l2:=hys.length;refine IY WN s σ H _ _ v u Q' I rx ry ⟨_,_,xs,ys,rfl,rfl,rx',ry',by omega,λp hp=>?_⟩;have e:qK X.K H (upd H p (.lst (xs++ys))):=.new hp;exact k _ _ _ _ .ref (hm.new (c:=.lst (i++j)) hp ⟨_,qe,(ZK.append hys).mono e⟩) e (q2 p (hm.fresh hp))
 .obtain⟨j,ej,q1,q2⟩:=qT q;obtain⟨l,xs,rfl,rx',ZK⟩:=hx.mW;cases hy.mF;obtain⟨ys,ry',hys,_⟩:=qo hm ej;have l1:=ZK.length;have l2:=hys.length;refine IY WN s σ H _ _ v u Q' I rx ry ⟨_,_,xs,ys,rfl,rfl,rx'.sq,ry',by omega,λp hp=>?_⟩;have e:qK X.K H (upd H p (.lst (xs++ys))):=.new hp;exact k _ _ _ _ .ref (hm.new (c:=.lst (_++j)) hp ⟨_,qe,(ZK.append hys).mono e⟩) e (q2 p (hm.fresh hp))
 .cases hx.int_inv;cases hy.int_inv;exact Q2 WN s σ H _ _ v u Q' I rx ry ⟨_,_,rfl,rfl,k _ _ _ _ .int hm .refl q⟩
 .cases hx.int_inv;cases hy.int_inv;exact Q1 WN s σ H _ _ v u Q' I rx ry ⟨_,_,rfl,rfl,q.1,k _ _ _ _ .int hm .refl q.2⟩
 .cases hx.str_inv;cases hy.int_inv;exact Qg WN s σ H _ _ v u Q' I rx ry ⟨_,_,rfl,rfl,q.1,k _ _ _ _ .str hm .refl q.2⟩
 .cases hx.int_inv;cases hy.int_inv;exact OK WN s σ H _ _ v u Q' I rx ry ⟨_,_,rfl,rfl,q.1,k _ _ _ _ .int hm .refl q.2⟩
 .cases hx.int_inv;cases hy.int_inv;exact QX WN s σ H _ _ v u Q' I rx ry ⟨_,_,rfl,rfl,q.1,k _ _ _ _ .int hm .refl q.2⟩
 .exact q.elim
variable {a b:Expr}
def Ik{f:D->D->Mp->DK->Prop}:∀σ H Q',lo X.K (λδ M Q=>ta δ M λx M1=>tb δ M1 λy M2=>f x y M2 Q) σ H Q'->Tc (R3 X.K f) (lo X.K ta) (lo X.K tb) σ H Q':=λσ H Q' zz=>x7 zz λδ M Q hs hm ht k=>⟨δ,M,_,hs,hm,ht,λv H1 x M1 hx WP e1 q1=>⟨δ,M1,_,hs.mono e1,WP,q1,λu H2 y M2 hy W7 e2 q2=>⟨x,y,M2,Q,hx.mono e2,hy,W7,q2,uZ (e1.trans e2) k⟩⟩⟩
def pR{op:Operator}(ha:E3 X a ta)(hb:E3 X b tb):E3 X (.BinOp a op b pos) (o3 op ta tb):=PE.mono (QO (Wz op) ha hb) Ik
end
def sI(f:D->D->Option Bool):List D->List D->Option Bool
 | x::a,y::b=>(f x y).bind λp=>(sI f a b).map λq=>p&&q
 | _,_=>some true
def yc(M:Mp):Nat->D->D->Option Bool
 | 0,_,_=>none
 | n+1,x,y=>match x,y with
  | .mH,.mH=>some true
  | .bl a,.bl b=>some (a==b)
  | .int a,.int b=>some (a==b)
  | .str a,.str b=>some (a==b)
  | .mH,.bl _=>some false
  | .mH,.int _=>some false
  | .mH,.str _=>some false
  | .bl _,.mH=>some false
  | .bl _,.str _=>some false
  | .int _,.mH=>some false
  | .int _,.str _=>some false
  | .str _,.mH=>some false
  | .str _,.bl _=>some false
  | .str _,.int _=>some false
  | .tup a,.tup b=>(sI (yc M n) a b).map λp=>p&&a.length==b.length
  | .ref a,.ref b=>(oJ M a).bind λi=>(oJ M b).bind λj=>if i.length=j.length then sI (yc M n) i j else some false
  | _,_=>none
variable {WN:List (Addr × Obj)}{σ:St}{s:Sd}
theorem yN{f:D->D->Option Bool}:∀{ds es:List D} {xs:List V} {b:Bool},qa X.K H ds xs->qa X.K H es xs->(∀x y v b,rD X.K H x v->rD X.K H y v->f x y=some b->b=true)->sI f ds es=some b->b=true
 | [],[],_,_,_,_,_,e=>(dn e).symm
 | [],_::_,_,_,h,g,_,_=>by have h1:=h.length;have h2:=g.length;rw[<-h1]at h2;simp at h2
 | _::_,[],_,_,h,g,_,_=>by have h1:=h.length;have h2:=g.length;rw[<-h1]at h2;simp at h2
 | d::ds,e::es,xs,b,h,g,k,q=>by
  obtain⟨x,r,rfl,h1,h2⟩:=h.inv;obtain⟨x',r',e',g1,g2⟩:=g.inv;cases e';unfold sI at q;cases p1:f d e with
  | none=>rw[p1]at q;cases q
  | some b1=>
   rw[p1]at q;cases p2:sI f ds es with
   | none=>rw[p2]at q;cases q
   | some b2=>rw[p2]at q;have q':(b1&&b2)=b:=dn q;rw[<-q',k _ _ _ _ h1 g1 p1,yN h2 g2 k p2];rfl
theorem yY(I:Inv X WN σ H s)(hm:HM X.K H M):∀(n:Nat) (x y:D) (v:V) (b:Bool),rD X.K H x v->rD X.K H y v->yc M n x y=some b->b=true
 | 0,_,_,_,_,_,_,e=>by cases e
 | n+1,x,y,v,b,hx,hy,e=>by
  unfold yc at e;split at e
  .exact(dn e).symm
  .rw[hx.mJ]at hy;cases hy.mJ;exact(dn e).symm.trans (by simp)
  .rw[hx.int_inv]at hy;cases hy.int_inv;exact(dn e).symm.trans (by simp)
  .rw[hx.str_inv]at hy;cases hy.str_inv;exact(dn e).symm.trans (by simp)
  .rw[hx.mI]at hy;cases hy.mJ
  .rw[hx.mI]at hy;cases hy.int_inv
  .rw[hx.mI]at hy;cases hy.str_inv
  .rw[hx.mJ]at hy;cases hy.mI
  .rw[hx.mJ]at hy;cases hy.str_inv
  .rw[hx.int_inv]at hy;cases hy.mI
  .rw[hx.int_inv]at hy;cases hy.str_inv
  .rw[hx.str_inv]at hy;cases hy.mI
  .rw[hx.str_inv]at hy;cases hy.mJ
  .rw[hx.str_inv]at hy;cases hy.int_inv
  .obtain⟨a,xs,rfl,h1,h2⟩:=hx.mM;obtain⟨a',ys,e',g1,g2⟩:=hy.mM;cases e';rw[I.m8 g1 h1]at g2;cases p:sI (yc M n) _ _ with
   | none=>rw[p]at e;cases e
   | some b1=>rw[p]at e;have e':=dn e;rw[<-e',yN h2 g2 (yY I hm n) p,h2.length,g2.length];simp
  .rw[hx.mF]at hy;cases hy.mF;cases p:oJ M _ with
   | none=>rw[p]at e;cases e
   | some i=>rw[p]at e;have e:(if i.length=i.length then sI (yc M n) i i else some false)=some b:=e;rw[dg rfl]at e;obtain⟨xs,_,h2,_⟩:=qo hm p;exact yN h2 h2 (yY I hm n) e
  .cases e
theorem B4{f:D->D->Option Bool}{A:Ar}:∀{ds es:List D} {xs ys:List V} {us ws:List Vl} {b:Bool},sI f ds es=some b->qa X.K H ds xs->qa X.K H es ys->qw xs us->qw ys ws->
  (∀x y b vx vy u w,f x y=some b->rD X.K H x vx->rD X.K H y vy->qH vx u->qH vy w->SeqAt.EqAt A s u w b)->
  ∃e:Nat->Bool,(∀j (h1:j<us.length) (h2:j<ws.length),SeqAt.EqAt A s us[j] ws[j] (e j))/\(List.range (min us.length ws.length)).all e=b
 | [],es,xs,ys,us,ws,b,q,hx,hy,rx,ry,k=>by
  have e1:=hx.nil_inv;subst e1;cases rx;refine⟨λ_=>true,λj h1=>absurd h1 (by simp),?_⟩;have q':some true=some b:=by cases es<;>exact q
  simpa using(dn q')
 | d::ds,[],xs,ys,us,ws,b,q,hx,hy,rx,ry,k=>by
  have e1:=hy.nil_inv;subst e1;cases ry;refine⟨λ_=>true,λj _ h2=>absurd h2 (by simp),?_⟩;have q':some true=some b:=q
  simpa using(dn q')
 | d::ds,e::es,xs,ys,us,ws,b,q,hx,hy,rx,ry,k=>by
  obtain⟨x,r,rfl,h1,h2⟩:=hx.inv;obtain⟨y,r',rfl,g1,g2⟩:=hy.inv;cases rx with
  | cons r1 r2=>
   cases ry with
   | cons t1 t2=>
    unfold sI at q;cases p1:f d e with
    | none=>rw[p1]at q;cases q
    | some b1=>
     rw[p1]at q;cases p2:sI f ds es with
     | none=>rw[p2]at q;cases q
     | some b2=>
      rw[p2]at q;have q':(b1&&b2)=b:=dn q;obtain⟨e',he,ha⟩:=B4 p2 h2 g2 r2 t2 k;refine⟨λj=>match j with|0=>b1|j+1=>e' j,λj l1 l2=>?_,?_⟩
      .cases j with
       | zero=>exact k _ _ _ _ _ _ _ p1 h1 g1 r1 t1
       | succ j=>exact he j (by simpa using l1) (by simpa using l2)
      .rw[<-q',<-ha];simp only[eB];rw[Nat.succ_min_succ,List.range_succ_eq_map,eW,jD];rfl
theorem Eg(I:Inv X WN σ H s)(hm:HM X.K H M):∀(n:Nat) (A:Ar) (x y:D) (b:Bool) (vx vy:V) (u w:Vl),A.units+n<cLine->yc M n x y=some b->rD X.K H x vx->rD X.K H y vy->qH vx u->qH vy w->
  SeqAt.RcAt A s u w b/\SeqAt.EqAt A s u w b/\SeqAt.RcNeAt A s u w (!b)
 | 0,_,_,_,_,_,_,_,_,_,e,_,_,_,_=>by cases e
 | n+1,A,x,y,b,vx,vy,u,w,hu,e,hx,hy,rx,ry=>by
  have hu1:A.units<cLine:=by omega
  have hui:A.in1.units+n<cLine:=by show A.units+1+n<cLine;omega
  unfold yc at e;split at e
  .cases hx.mI;cases hy.mI;cases rx;cases ry;cases e;exact⟨.none_none,.same _,.none_none⟩
  .cases hx.mJ;cases hy.mJ;cases rx;cases ry;cases e;exact⟨.bool_bool _ _,.bool_bool _ _,.bool_bool _ _⟩
  .cases hx.int_inv;cases hy.int_inv;obtain⟨t,rfl⟩:=rx;obtain⟨t',rfl⟩:=ry;cases e;exact⟨.int_int _ _ _ _,.int_int _ _ _ _,.int_int _ _ _ _⟩
  .cases hx.str_inv;cases hy.str_inv;obtain⟨t,rfl⟩:=rx;obtain⟨t',rfl⟩:=ry;cases e;exact⟨.str_str _ _ _ _,.str_str _ _ _ _,.str_str _ _ _ _⟩
  .cases hx.mI;cases hy.mJ;cases rx;cases ry;cases e;exact⟨.none_bool _,.none_bool _,.none_bool _⟩
  .cases hx.mI;cases hy.int_inv;cases rx;obtain⟨t',rfl⟩:=ry;cases e;exact⟨.none_int _ _,.none_int _ _,.none_int _ _⟩
  .cases hx.mI;cases hy.str_inv;cases rx;obtain⟨t',rfl⟩:=ry;cases e;exact⟨.none_str _ _,.none_str _ _,.none_str _ _⟩
  .cases hx.mJ;cases hy.mI;cases rx;cases ry;cases e;exact⟨.bool_none _,.bool_none _,.bool_none _⟩
  .cases hx.mJ;cases hy.str_inv;cases rx;obtain⟨t',rfl⟩:=ry;cases e;exact⟨.bool_str _ _ _,.bool_str _ _ _,.bool_str _ _ _⟩
  .cases hx.int_inv;cases hy.mI;obtain⟨t,rfl⟩:=rx;cases ry;cases e;exact⟨.int_none _ _,.int_none _ _,.int_none _ _⟩
  .cases hx.int_inv;cases hy.str_inv;obtain⟨t,rfl⟩:=rx;obtain⟨t',rfl⟩:=ry;cases e;exact⟨.int_str _ _ _ _,.int_str _ _ _ _,.int_str _ _ _ _⟩
  .cases hx.str_inv;cases hy.mI;obtain⟨t,rfl⟩:=rx;cases ry;cases e;exact⟨.str_none _ _,.str_none _ _,.str_none _ _⟩
  .cases hx.str_inv;cases hy.mJ;obtain⟨t,rfl⟩:=rx;cases ry;cases e;exact⟨.str_bool _ _ _,.str_bool _ _ _,.str_bool _ _ _⟩
  .cases hx.str_inv;cases hy.int_inv;obtain⟨t,rfl⟩:=rx;obtain⟨t',rfl⟩:=ry;cases e;exact⟨.str_int _ _ _ _,.str_int _ _ _ _,.str_int _ _ _ _⟩
  .rename_i da db;obtain⟨a1,xs,rfl,h1,h2⟩:=hx.mM;obtain⟨a2,ys,rfl,g1,g2⟩:=hy.mM;cases rx;cases ry;obtain⟨us,r1,p1,_⟩:=I.tuple h1;obtain⟨ws,r2,p2,_⟩:=I.tuple g1;cases p:sI (yc M n) da db with
   | none=>rw[p]at e;cases e
   | some b1=>
    have e0:=e;rw[p]at e;have e':(b1&&da.length==db.length)=b:=dn e;obtain⟨f,hf,ha⟩:=B4 (A:=A.in1) (s:=s) p h2 g2 r1 r2 λx y b vx vy u w q1 q2 q3 q4 q5=>(Eg I hm n A.in1 x y b vx vy u w hui q1 q2 q3 q4 q5).2.1;have hb:((List.range (min us.toArray.size ws.toArray.size)).all f&&us.toArray.size==ws.toArray.size)=b:=by rw[dz,dz,ha,<-e',<-r1.length,<-r2.length,h2.length,g2.length]
    have hf':∀j (l1:j<us.toArray.size) (l2:j<ws.toArray.size),SeqAt.EqAt A.in1 s us.toArray[j] ws.toArray[j] (f j):=λj l1 l2=>by simpa using hf j (by simpa using l1) (by simpa using l2)
    have c1:SeqAt.RcAt A s (.ref a1) (.ref a2) b:=by rw[<-hb];exact .tuples p1 p2 hu1 hf'
    have c3:SeqAt.RcNeAt A s (.ref a1) (.ref a2) (!b):=by have:=SeqAt.RcNeAt.tuples p1 p2 hu1 hf';rw[hb]at this;exact this
    refine⟨c1,?_,c3⟩;by_cases ea:a1=a2
    .subst ea;have:b=true:=yY I hm (n+1) (.tup da) (.tup db) (.ref a1) b hx hy (by unfold yc;exact e0);rw[this];exact .same _
    .exact .of_refs ea c1
  .cases hx.mF;cases hy.mF;cases rx;cases ry;rename_i a1 a2;have e0:=e;cases p:oJ M a1 with
   | none=>rw[p]at e;cases e
   | some i=>
    cases p':oJ M a2 with
    | none=>rw[p,p']at e;cases e
    | some j=>
     rw[p,p']at e;have e:(if i.length=j.length then sI (yc M n) i j else some false)=some b:=e;obtain⟨xs,q1,h2,_⟩:=qo hm p;obtain⟨ys,q2,g2,_⟩:=qo hm p';obtain⟨us,r1,p1,_⟩:=I.list q1;obtain⟨ws,r2,p2,_⟩:=I.list q2;have WR:SeqAt.RcAt A s (.ref a1) (.ref a2) b/\SeqAt.RcNeAt A s (.ref a1) (.ref a2) (!b):=by
      by_cases hl:i.length=j.length
      .rw[dg hl]at e;obtain⟨f,hf,ha⟩:=B4 (A:=A.in1) (s:=s) e h2 g2 r1 r2 λx y b vx vy u w q1 q2 q3 q4 q5=>(Eg I hm n A.in1 x y b vx vy u w hui q1 q2 q3 q4 q5).2.1;have hsz:us.toArray.size=ws.toArray.size:=by rw[dz,dz,<-r1.length,<-r2.length,<-h2.length,<-g2.length];exact hl
       have hf':∀j (l1:j<us.toArray.size) (l2:j<ws.toArray.size),SeqAt.EqAt A.in1 s us.toArray[j] ws.toArray[j] (f j):=λj l1 l2=>by simpa using hf j (by simpa using l1) (by simpa using l2)
       have hb:(List.range us.toArray.size).all f=b:=by rw[<-ha];rw[dz,dz]at hsz;rw[dz,<-hsz,Nat.min_self]
       rw[<-hb];exact⟨.lists p1.isList p2.isList hsz hu1 hf',.lists p1.isList p2.isList hsz hu1 hf'⟩
      .rw[de hl]at e;cases e;have hsz:(us.toArray.size != ws.toArray.size)=true:=by
        rw[dz,dz,<-r1.length,<-r2.length,<-h2.length,<-g2.length]
        simpa using hl
       exact⟨.lists_lengths p1.isList p2.isList hsz hu1,.lists_lengths p1.isList p2.isList hsz hu1⟩
     refine⟨WR.1,?_,WR.2⟩;by_cases ea:a1=a2
     .subst ea;have:b=true:=yY I hm (n+1) (.ref a1) (.ref a1) (.ref a1) b .ref .ref (by unfold yc;exact e0);rw[this];exact .same _
     .exact .of_refs ea WR.1
  .cases e
def uL:D->Bool
 | .mH=>true
 | .bl _=>true
 | .int _=>true
 | .str _=>true
 | _=>false
def PJ:D->D->Bool
 | .mH,.mH=>true
 | .bl a,.bl b=>a==b
 | .bl a,.int b=>(if a then 1 else 0)==b
 | .int a,.bl b=>a==(if b then 1 else 0)
 | .int a,.int b=>a==b
 | .str a,.str b=>a==b
 | _,_=>false
def inD(x:D)(ds:List D):Bool:=ds.any λy=>PJ y x
def K4(M:Mp):D->Option (List D)
 | .tup ds=>some ds
 | .ref a=>oJ M a
 | .rl ds=>some ds
 | _=>none
def CN(i j:Str):Bool:=!(Builtin.Str.occurrences j i 0 j.length 1).isEmpty
def RZ(Yj:Bool)(x y:D)(M:Mp)(Q:DK):Prop:=match x,y with
 | .str i,.str j=>Q (.bl (if Yj then !CN i j else CN i j)) M
 | _,_=>(K4 M y).elim False λds=>uL x=true/\ds.all uL=true/\Q (.bl (if Yj then !inD x ds else inD x ds)) M
def Pc(op:CmpOp)(x y:D)(M:Mp)(Q:DK):Prop:=match op with
 | .Eq=>(yc M 9 x y).elim False λb=>Q (.bl b) M
 | .NotEq=>(yc M 9 x y).elim False λb=>Q (.bl (!b)) M
 | .Lt=>match x,y with|.int i,.int j=>Q (.bl (decide (i<j))) M|_,_=>False
 | .LtE=>match x,y with|.int i,.int j=>Q (.bl (decide (i<=j))) M|_,_=>False
 | .Gt=>match x,y with|.int i,.int j=>Q (.bl (decide (j<i))) M|_,_=>False
 | .GtE=>match x,y with|.int i,.int j=>Q (.bl (decide (j<=i))) M|_,_=>False
 | .Is=>match y with|.mH=>Q (.bl (match x with|.mH=>true|_=>false)) M|_=>False
 | .IsNot=>match y with|.mH=>Q (.bl (match x with|.mH=>false|_=>true)) M|_=>False
 | .In=>RZ false x y M Q
 | .NotIn=>RZ true x y M Q
def k3(op:CmpOp)(ta tb:T3):T3:=λδ M Q=>ta δ M λx M1=>tb δ M1 λy M2=>Pc op x y M2 Q
def zp{d:D}{v:V}(h:rD K H d v)(f:uL d=true):yf v=true:=by
 cases d with
 | mH=>rw[h.mI];rfl
 | bl _=>rw[h.mJ];rfl
 | int _=>rw[h.int_inv];rfl
 | str _=>rw[h.str_inv];rfl
 | _=>cases f
def IZ{d e:D}{v w:V}(h:rD K H d v)(g:rD K H e w)(f:uL d=true)(f':uL e=true):NL v w=PJ d e:=by
 cases d with
 | mH=>
  rw[h.mI];cases e with
  | mH=>rw[g.mI];rfl
  | bl _=>rw[g.mJ];rfl
  | int _=>rw[g.int_inv];rfl
  | str _=>rw[g.str_inv];rfl
  | _=>cases f'
 | bl _=>
  rw[h.mJ];cases e with
  | mH=>rw[g.mI];rfl
  | bl _=>rw[g.mJ];rfl
  | int _=>rw[g.int_inv];rfl
  | str _=>rw[g.str_inv];rfl
  | _=>cases f'
 | int _=>
  rw[h.int_inv];cases e with
  | mH=>rw[g.mI];rfl
  | bl _=>rw[g.mJ];rfl
  | int _=>rw[g.int_inv];rfl
  | str _=>rw[g.str_inv];rfl
  | _=>cases f'
 | str _=>
  rw[h.str_inv];cases e with
  | mH=>rw[g.mI];rfl
  | bl _=>rw[g.mJ];rfl
  | int _=>rw[g.int_inv];rfl
  | str _=>rw[g.str_inv];rfl
  | _=>cases f'
 | _=>cases f
theorem E5:∀{ds:List D} {xs:List V},qa K H ds xs->ds.all uL=true->xs.all yf=true
 | [],_,h,_=>by rw[h.nil_inv];rfl
 | d::ds,_,h,f=>by obtain⟨x,r,rfl,h1,h2⟩:=h.inv;rw[eW,dW]at f ⊢;exact⟨zp h1 f.1,E5 h2 f.2⟩
theorem Nc{e:D}{w:V}(g:rD K H e w)(f':uL e=true):∀{ds:List D} {xs:List V},qa K H ds xs->ds.all uL=true->inV w xs=inD e ds
 | [],_,h,_=>by rw[h.nil_inv];rfl
 | d::ds,_,h,f=>by obtain⟨x,r,rfl,h1,h2⟩:=h.inv;rw[eW,dW]at f;show(NL x w||inV w r)=(PJ d e||inD e ds);rw[IZ h1 g f.1 f',Nc g f' h2 f.2]
def EE(hm:HM K H M){y:D}{v:V}{ds:List D}(h:rD K H y v)(q:K4 M y=some ds):∃p xs,v=.ref p/\(yR K H p xs\/uR K H p xs)/\qa K H ds xs:=by
 cases y with
 | tup es=>cases q;obtain⟨a,xs,rfl,h1,h2⟩:=h.mM;exact⟨a,xs,rfl,.inr h1,h2⟩
 | ref a=>cases h.mF;obtain⟨xs,h1,h2,_⟩:=qo hm q;exact⟨a,xs,rfl,.inl h1,h2⟩
 | rl es=>cases q;obtain⟨a,xs,rfl,h1,h2⟩:=h.mW;exact⟨a,xs,rfl,.inl h1.sq,h2⟩
 | _=>cases q
variable {c:Expr}{tc:T3}
section
def Kl(op:CmpOp)(hu:X.A.units+9<cLine):xg X (compareOp op) (R3 X.K (Pc op)):=by
 intro WN s σ H vx vy v u Q' I rx ry h;obtain⟨x,y,M,Q,hx,hy,hm,q,k⟩:=h;have bk:∀b,Q (.bl b) M->EP X WN σ Q' (.bool b) s:=λb q=>⟨.bl b,H,I,rfl,k _ _ _ _ .bl hm .refl q⟩;have inn:∀Yj:Bool,((K4 M y).elim False λds=>uL x=true/\ds.all uL=true/\Q (.bl (if Yj then !inD x ds else inD x ds)) M)->V4 X.K Yj vx vy H Q':=λYj q=>by obtain⟨ds,e,f1,f2,q⟩:=qT q;obtain⟨p,xs,rfl,h1,h2⟩:=EE hm hy e;refine⟨p,xs,rfl,h1,zp hx f1,E5 h2 f2,?_⟩;rw[Nc hx f1 h2 f2];exact k _ _ _ _ .bl hm .refl q
 cases op with
 | Eq=>obtain⟨b,e,q⟩:=qT q;exact(Eg I hm 9 X.A x y b vx vy v u hu e hx hy rx ry).1 _ _ _ _ (bk b q)
 | NotEq=>obtain⟨b,e,q⟩:=qT q;exact(Eg I hm 9 X.A x y b vx vy v u hu e hx hy rx ry).2.2 _ _ _ _ (bk _ q)
 | Lt=>
  cases x<;>first|exact q.elim|skip
  cases y<;>first|exact q.elim|skip
  cases hx.int_inv;cases hy.int_inv;exact Ta WN s σ H _ _ v u Q' I rx ry ⟨_,_,rfl,rfl,k _ _ _ _ .bl hm .refl q⟩
 | LtE=>
  cases x<;>first|exact q.elim|skip
  cases y<;>first|exact q.elim|skip
  cases hx.int_inv;cases hy.int_inv;exact Ua WN s σ H _ _ v u Q' I rx ry ⟨_,_,rfl,rfl,k _ _ _ _ .bl hm .refl q⟩
 | Gt=>
  cases x<;>first|exact q.elim|skip
  cases y<;>first|exact q.elim|skip
  cases hx.int_inv;cases hy.int_inv;exact Ue WN s σ H _ _ v u Q' I rx ry ⟨_,_,rfl,rfl,k _ _ _ _ .bl hm .refl q⟩
 | GtE=>
  cases x<;>first|exact q.elim|skip
  cases y<;>first|exact q.elim|skip
  cases hx.int_inv;cases hy.int_inv;exact Te WN s σ H _ _ v u Q' I rx ry ⟨_,_,rfl,rfl,k _ _ _ _ .bl hm .refl q⟩
 | Is=>
  cases y<;>first|exact q.elim|skip
  cases hy.mI;refine SE WN s σ H _ _ v u Q' I rx ry ⟨rfl,k _ _ _ _ ?_ hm .refl q⟩;cases x with
  | mH=>rw[hx.mI];exact .bl
  | bl _=>rw[hx.mJ];exact .bl
  | int _=>rw[hx.int_inv];exact .bl
  | str _=>rw[hx.str_inv];exact .bl
  | tup _=>obtain⟨a,xs,rfl,_⟩:=hx.mM;exact .bl
  | ref _=>rw[hx.mF];exact .bl
  | ty _=>rw[hx.nN];exact .bl
  | rl _=>obtain⟨a,xs,rfl,_⟩:=hx.mW;exact .bl
 | IsNot=>
  cases y<;>first|exact q.elim|skip
  cases hy.mI;refine NX WN s σ H _ _ v u Q' I rx ry ⟨rfl,k _ _ _ _ ?_ hm .refl q⟩;cases x with
  | mH=>rw[hx.mI];exact .bl
  | bl _=>rw[hx.mJ];exact .bl
  | int _=>rw[hx.int_inv];exact .bl
  | str _=>rw[hx.str_inv];exact .bl
  | tup _=>obtain⟨a,xs,rfl,_⟩:=hx.mM;exact .bl
  | ref _=>rw[hx.mF];exact .bl
  | ty _=>rw[hx.nN];exact .bl
  | rl _=>obtain⟨a,xs,rfl,_⟩:=hx.mW;exact .bl
 | In=>
  have q:RZ false x y M Q:=q;unfold RZ at q;split at q
  .cases hx.str_inv;cases hy.str_inv;exact Kj WN s σ H _ _ v u Q' I rx ry ⟨_,_,rfl,rfl,k _ _ _ _ .bl hm .refl q⟩
  .exact Kh WN s σ H _ _ v u Q' I rx ry (inn false q)
 | NotIn=>
  have q:RZ true x y M Q:=q;unfold RZ at q;split at q
  .cases hx.str_inv;cases hy.str_inv;exact Ef WN s σ H _ _ v u Q' I rx ry ⟨_,_,rfl,rfl,k _ _ _ _ .bl hm .refl q⟩
  .exact Eb WN s σ H _ _ v u Q' I rx ry (inn true q)
variable {a b:Expr}
def qc{op:CmpOp}(hu:X.A.units+9<cLine)(ha:E3 X a ta)(hb:E3 X b tb)(hm:behindInMarks op b=false:=by first|exact HY _|with_unfolding_all rfl):E3 X (.Compare a [op] [b] pos) (k3 op ta tb):=PE.mono (Jo (Kl op hu) ha hb hm) Ik
def b3(t:T3):Ae:=λδ M Q=>t δ M λd M1=>match d with|.bl c=>Q c M1|_=>False
def uM{e:Expr}{t:T3}(h:E3 X e t)(he:∀Xl,isTrue e X.env Xl=(do let v<-Xl;standAt e.pos;holding [v] (truthy v)):=by intro _;rfl):B3 X e (b3 t):=PT.mono (Rl h he) λσ H Q' zz=>x7 zz λδ M Q hs hm ht k=>
 ⟨δ,M,_,hs,hm,ht,λv H1 d M1 hd WP e1 q1=>by
  cases d with
  | bl c=>exact⟨c,hd.mJ,k c H1 M1 WP e1 q1⟩
  | _=>exact q1.elim⟩
def pC{op:CmpOp}(hu:X.A.units+9<cLine)(ha:E3 X a ta)(hb:E3 X b tb)(hm:behindInMarks op b=false:=by first|exact HY _|with_unfolding_all rfl):B3 X (.Compare a [op] [b] pos) (b3 (k3 op ta tb)):=PT.mono (IX (Kl op hu) ha hb hm) λσ H Q' zz=>x7 zz λδ M Q hs hm ht k=>
 Ik σ H _ ⟨δ,M,_,hs,hm,ht,λv H1 d M1 hd WP e1 q1=>by
  cases d with
  | bl c=>exact⟨c,hd.mJ,k c H1 M1 WP e1 q1⟩
  | _=>exact q1.elim⟩
end
variable {tA tB:Ae}{rest:List Expr}
section
variable {a b:Expr}
def OD(t u:Ae):Ae:=λδ M Q=>t δ M λc M1=>if c=true then u δ M1 Q else Q false M1
def WC(t u:Ae):Ae:=λδ M Q=>t δ M λc M1=>if c=true then Q true M1 else u δ M1 Q
def Uh(t:Ae):Ae:=λδ M Q=>t δ M λc M1=>Q (!c) M1
def W3(X:Cx)(e:Expr)(t:Ae):Prop:=PW X e (SX X.K t)
def PW.mono{X:Cx}{e:Expr}{t t':TT}(h:PW X e t)(m:∀σ H Q,t' σ H Q->t σ H Q):PW X e t':=λwh WN s σ H Q I q=>h wh WN s σ H Q I (m σ H Q q)
def W3.b3{e:Expr}{t:Ae}(h:W3 X e t):B3 X e t:=PW.pt h
def xQ(h:B3 X a tA):W3 X (.BoolOp .And [a] pos) tA:=OL h
def vK(h:B3 X a tA):W3 X (.BoolOp .Or [a] pos) tA:=R8 h
def yG(ha:B3 X a tA)(hb:W3 X (.BoolOp .And (b::rest) pos) tB):W3 X (.BoolOp .And (a::b::rest) pos) (OD tA tB):=PW.mono (RF ha hb) λσ H Q' zz=>x7 zz λδ M Q hs hm ht k=>
 ⟨δ,M,_,hs,hm,ht,λc H1 M1 WP e1 q1=>by
  cases c with
  | true=>exact(dg rfl).mpr ⟨δ,M1,Q,hs.mono e1,WP,(dg rfl).mp q1,λb H' M' x1 x2 x3=>k b H' M' x1 (e1.trans x2) x3⟩
  | false=>exact(de dB).mpr (k false H1 M1 WP e1 ((de dB).mp q1))⟩
def vn(ha:B3 X a tA)(hb:W3 X (.BoolOp .Or (b::rest) pos) tB):W3 X (.BoolOp .Or (a::b::rest) pos) (WC tA tB):=PW.mono (TM ha hb) λσ H Q' zz=>x7 zz λδ M Q hs hm ht k=>
 ⟨δ,M,_,hs,hm,ht,λc H1 M1 WP e1 q1=>by
  cases c with
  | true=>exact(dg rfl).mpr (k true H1 M1 WP e1 ((dg rfl).mp q1))
  | false=>exact(de dB).mpr ⟨δ,M1,Q,hs.mono e1,WP,(de dB).mp q1,λb H' M' x1 x2 x3=>k b H' M' x1 (e1.trans x2) x3⟩⟩
def wC(ha:B3 X a tA):B3 X (.UnaryOp .Not a pos) (Uh tA):=PT.mono (Rp ha) λσ H Q' zz=>x7 zz λδ M Q hs hm ht k=>⟨δ,M,_,hs,hm,ht,λc H1 M1 WP e1 q1=>k _ H1 M1 WP e1 q1⟩
def UC(ta tb:T3):T3:=λδ M Q=>ta δ M λd M1=>match d with|.bl c=>if c=true then tb δ M1 Q else Q (.bl false) M1|_=>False
def VR(ta tb:T3):T3:=λδ M Q=>ta δ M λd M1=>match d with|.bl c=>if c=true then Q (.bl true) M1 else tb δ M1 Q|_=>False
def Uu(ta:T3):T3:=λδ M Q=>ta δ M λd M1=>match d with|.bl c=>Q (.bl (!c)) M1|_=>False
def sH{op}(h:E3 X a ta):E3 X (.BoolOp op [a] pos) ta:=RX h
def sS(ha:E3 X a ta)(hb:E3 X (.BoolOp .And (b::rest) pos) tb):E3 X (.BoolOp .And (a::b::rest) pos) (UC ta tb):=PE.mono (Sg ha hb) λσ H Q' zz=>x7 zz λδ M Q hs hm ht k=>
 ⟨δ,M,_,hs,hm,ht,λv H1 d M1 hd WP e1 q1=>by
  cases d with
  | bl c=>
   refine⟨c,hd.mJ,?_⟩;cases c with
   | true=>exact(dg rfl).mpr ⟨δ,M1,Q,hs.mono e1,WP,(dg rfl).mp q1,uZ e1 k⟩
   | false=>exact(de dB).mpr (k _ H1 _ M1 .bl WP e1 ((de dB).mp q1))
  | _=>exact q1.elim⟩
def Iv(ha:E3 X a ta)(hb:E3 X (.BoolOp .Or (b::rest) pos) tb):E3 X (.BoolOp .Or (a::b::rest) pos) (VR ta tb):=PE.mono (T9 ha hb) λσ H Q' zz=>x7 zz λδ M Q hs hm ht k=>
 ⟨δ,M,_,hs,hm,ht,λv H1 d M1 hd WP e1 q1=>by
  cases d with
  | bl c=>
   refine⟨c,hd.mJ,?_⟩;cases c with
   | true=>exact(dg rfl).mpr (k _ H1 _ M1 .bl WP e1 ((dg rfl).mp q1))
   | false=>exact(de dB).mpr ⟨δ,M1,Q,hs.mono e1,WP,(de dB).mp q1,uZ e1 k⟩
  | _=>exact q1.elim⟩
def RS(ha:E3 X a ta):E3 X (.UnaryOp .Not a pos) (Uu ta):=PE.mono (Sh ha) λσ H Q' zz=>x7 zz λδ M Q hs hm ht k=>
 ⟨δ,M,_,hs,hm,ht,λv H1 d M1 hd WP e1 q1=>by
  cases d with
  | bl c=>exact⟨c,hd.mJ,k _ H1 _ M1 .bl WP e1 q1⟩
  | _=>exact q1.elim⟩
def Wx(t:Ae)(ta tb:T3):T3:=λδ M Q=>t δ M λc M1=>if c=true then ta δ M1 Q else tb δ M1 Q
def QP(hc:B3 X c tA)(ha:E3 X a ta)(hb:E3 X b tb):E3 X (.IfExp c a b pos) (Wx tA ta tb):=PE.mono (MV hc ha hb) λσ H Q' zz=>x7 zz λδ M Q hs hm ht k=>
 ⟨δ,M,_,hs,hm,ht,λc H1 M1 WP e1 q1=>by
  cases c with
  | true=>exact(dg rfl).mpr ⟨δ,M1,Q,hs.mono e1,WP,(dg rfl).mp q1,uZ e1 k⟩
  | false=>exact(de dB).mpr ⟨δ,M1,Q,hs.mono e1,WP,(de dB).mp q1,uZ e1 k⟩⟩
def VO(x y:D)(M:Mp)(Q:DK):Prop:=match x,y with
 | .tup ds,.int i=>(wj ds i).elim False λd=>Q d M
 | .ref a,.int i=>(oJ M a).elim False λds=>(wj ds i).elim False λd=>Q d M
 | .rl ds,.int i=>(wj ds i).elim False λd=>Q d M
 | .str z,.int i=>z.length<=sizeLine/\(wj z.cps.toList i).elim False λc=>Q (.str ⟨#[c]⟩) M
 | _,_=>False
def i3(ta tb:T3):T3:=λδ M Q=>ta δ M λx M1=>tb δ M1 λy M2=>VO x y M2 Q
def Ek{K:ql}{H:Hp}{ds:List D}{xs:List V}{i:Int}{d:D}(h:qa K H ds xs)(e:wj ds i=some d):∃v,wj xs i=some v/\rD K H d v:=by
 unfold wj at e ⊢;rw[<-h.length];cases q:FY ds.length i with
 | none=>rw[q]at e;cases e
 | some j=>rw[q]at e;exact h.get e
def WK:SY X (R3 X.K VO):=by
 intro value WX WN s σ H vx vy v u Q' I rx ry h hs;obtain⟨x,y,M,Q,hx,hy,hm,q,k⟩:=h;unfold VO at q;split at q
 .obtain⟨d,e,q⟩:=qT q;obtain⟨p,xs,rfl,h1,h2⟩:=hx.mM;cases hy.int_inv;obtain⟨w,e1,e2⟩:=Ek h2 e;exact Su value WX WN s σ H _ _ v u Q' I rx ry ⟨p,xs,_,w,rfl,rfl,h1,e1,k _ _ _ _ e2 hm .refl q⟩ hs
 .obtain⟨ds,e0,q⟩:=qT q;obtain⟨d,e,q⟩:=qT q;cases hx.mF;cases hy.int_inv;obtain⟨xs,h1,h2,_⟩:=qo hm e0;obtain⟨w,e1,e2⟩:=Ek h2 e;exact Jr value WX WN s σ H _ _ v u Q' I rx ry ⟨_,xs,_,w,rfl,rfl,h1,e1,k _ _ _ _ e2 hm .refl q⟩ hs
 .obtain⟨d,e,q⟩:=qT q;obtain⟨p,xs,rfl,h1,h2⟩:=hx.mW;cases hy.int_inv;obtain⟨w,e1,e2⟩:=Ek h2 e;exact Jr value WX WN s σ H _ _ v u Q' I rx ry ⟨p,xs,_,w,rfl,rfl,h1.sq,e1,k _ _ _ _ e2 hm .refl q⟩ hs
 .obtain⟨q1,q⟩:=q;obtain⟨c,e,q⟩:=qT q;cases hx.str_inv;cases hy.int_inv;exact SH value WX WN s σ H _ _ v u Q' I rx ry ⟨_,_,c,rfl,rfl,q1,e,k _ _ _ _ .str hm .refl q⟩ hs
 .exact q.elim
def pF(ha:E3 X a ta)(hb:E3 X b tb)(hs:A7 b:=by exact λ_ _=>rfl):E3 X (.Subscript a b pos) (i3 ta tb):=PE.mono (Ml WK ha hb hs) Ik
def uD(ds:List D)(lo hi:Option Int):List D:=(ds.drop (HT.sY ds.length 0 lo)).take (HT.sY ds.length ds.length hi - HT.sY ds.length 0 lo)
def Fs{K:ql}{H:Hp}{ds:List D}{xs:List V}{l h:Option Int}(q:qa K H ds xs):qa K H (uD ds l h) (BU xs l h):=by unfold uD BU;rw[q.length];exact(q.drop _).take _
abbrev S0:=vh->Mp->(Option Int->Mp->Prop)->Prop
def Ww(K:ql)(t:S0):TO:=λσ H Q'=>CK λδ M Q=>zC K H σ δ/\HM K H M/\t δ M Q/\∀o H' M',HM K H' M'->qK K H H'->Q o M'->Q' o H'
def O3(X:Cx)(e:Option Expr)(t:S0):Prop:=PO X e (Ww X.K t)
def Pw:S0:=λ_ M Q=>Q none M
def Uv(t:T3):S0:=λδ M Q=>t δ M λd M1=>match d with|.int i=>Q (some i) M1|_=>False
def PO.mono{X:Cx}{e:Option Expr}{t t':TO}(h:PO X e t)(m:∀σ H Q,t' σ H Q->t σ H Q):PO X e t':=λWN s σ H Q I q=>h WN s σ H Q I (m σ H Q q)
def sT:O3 X none Pw:=PO.mono ON λσ H Q' zz=>x7 zz λδ M Q hs hm ht k=>k none H M hm .refl ht
def sU{e:Expr}{t:T3}(h:E3 X e t):O3 X (some e) (Uv t):=PO.mono (O5 h) λσ H Q' zz=>x7 zz λδ M Q hs hm ht k=>
 ⟨δ,M,_,hs,hm,ht,λv H1 d M1 hd WP e1 q1=>by
  cases d with
  | int i=>exact⟨i,hd.int_inv,k (some i) H1 M1 WP e1 q1⟩
  | _=>exact q1.elim⟩
def Wn(x:D)(lo hi:Option Int)(M:Mp)(Q:DK):Prop:=match x with
 | .tup ds=>Q (.tup (uD ds lo hi)) M
 | .ref a=>(oJ M a).elim False λds=>∀p,M p=none->Q (.ref p) (pz M p (.lst (uD ds lo hi)))
 | .rl ds=>∀p,M p=none->Q (.ref p) (pz M p (.lst (uD ds lo hi)))
 | _=>False
def s3(te:T3)(tl th:S0):T3:=λδ M Q=>te δ M λx M1=>tl δ M1 λl M2=>th δ M2 λu M3=>Wn x l u M3 Q
def VM(K:ql):V->Option Int->Option Int->Hp->VK->Prop:=λvx l u H Q'=>CK λx M Q=>rD K H x vx/\HM K H M/\Wn x l u M Q/\Up K H Q' Q
def N8{ds:List D}{lo hi:Option Int}(h:HT.sY ds.length 0 lo=0/\HT.sY ds.length ds.length hi=ds.length):uD ds lo hi=ds:=by unfold uD;rw[h.1,h.2,j7,kO,fG]
def Ve:T4 X (VM X.K):=by
 intro WN s σ H vx v vl vu l u sl Q' I rx hsl pl pu h;obtain⟨x,M,Q,hx,hm,q,k⟩:=h;cases x with
 | tup ds=>
  have q2:Q (.tup (uD ds l u)) M:=q;obtain⟨a,xs,rfl,h1,h2⟩:=hx.mM;by_cases q1:HT.sY ds.length 0 l=0/\HT.sY ds.length ds.length u=ds.length
  .rw[N8 q1]at q2;exact Ry WN s σ H _ v vl vu l u sl Q' I rx hsl pl pu ⟨a,xs,rfl,h1,by rw[<-h2.length];exact q1,k _ _ _ _ hx hm .refl q2⟩
  refine R0 WN s σ H _ v vl vu l u sl Q' I rx hsl pl pu ⟨a,xs,rfl,h1,by rw[<-h2.length];exact q1,λp hp=>?_⟩;have e:qK X.K H (upd H p (.tup (BU xs l u))):=.new hp;exact k _ _ _ _ (.tup (.of qe) ((Fs h2).mono e)) (hm.add hp) e q2
 | ref a=>obtain⟨ds,e0,q⟩:=qT q;cases hx.mF;obtain⟨xs,h1,h2,_⟩:=qo hm e0;refine JB WN s σ H _ v vl vu l u sl Q' I rx hsl pl pu ⟨a,xs,rfl,h1,λp hp=>?_⟩;have e:qK X.K H (upd H p (.lst (BU xs l u))):=.new hp;exact k _ _ _ _ .ref (hm.new (c:=.lst (uD ds l u)) hp ⟨_,qe,(Fs h2).mono e⟩) e (q p (hm.fresh hp))
 | rl ds=>obtain⟨a,xs,rfl,h1,h2⟩:=hx.mW;refine JB WN s σ H _ v vl vu l u sl Q' I rx hsl pl pu ⟨a,xs,rfl,h1.sq,λp hp=>?_⟩;have e:qK X.K H (upd H p (.lst (BU xs l u))):=.new hp;exact k _ _ _ _ .ref (hm.new (c:=.lst (uD ds l u)) hp ⟨_,qe,(Fs h2).mono e⟩) e (q p (hm.fresh hp))
 | _=>exact q.elim
def r6{e:Expr}{te:T3}{lo hi:Option Expr}{tl th:S0}{p2:Pos}(he:E3 X e te)(hl:O3 X lo tl)(hu:O3 X hi th):E3 X (.Subscript e (.Slice lo hi none p2) pos) (s3 te tl th):=PE.mono (LD Ve he hl hu) λσ H Q' zz=>x7 zz λδ M Q hs hm ht k=>⟨δ,M,_,hs,hm,ht,λv H1 x M1 hx WP e1 q1=>⟨δ,M1,_,hs.mono e1,WP,q1,λl H2 M2 W7 e2 q2=>⟨δ,M2,_,hs.mono (e1.trans e2),W7,q2,λu H3 M3 XJ e3 q3=>⟨x,M3,Q,hx.mono (e2.trans e3),XJ,q3,uZ (e1.trans (e2.trans e3)) k⟩⟩⟩⟩
def xj:wY:=λ_ M Q=>Q [] M
def uY(ta:T3)(tr:wY):wY:=λδ M Q=>ta δ M λx M1=>tr δ M1 λxs M2=>Q (x::xs) M2
def sR:A3 X [] xj:=PA.mono R6 λσ H Q' zz=>x7 zz λδ M Q hs hm ht k=>k [] H [] M .nil hm .refl ht
def pT{e:Expr}{es:List Expr}{te:T3}{t:wY}(ha:E3 X e te)(hr:A3 X es t)(hs:AH X e es:=by rfl):A3 X (e::es) (uY te t):=PA.mono (OA ha hr hs) λσ H Q' zz=>x7 zz λδ M Q hs hm ht k=>⟨δ,M,_,hs,hm,ht,λv H1 x M1 hx WP e1 q1=>⟨δ,M1,_,hs.mono e1,WP,q1,λvs H2 xs M2 ZK W7 e2 q2=>k _ H2 _ M2 (.cons (hx.mono e2) ZK) W7 (e1.trans e2) q2⟩⟩
def VG(t:wY):T3:=λδ M Q=>t δ M λds M1=>ds.length<=sizeLine/\Q (.tup ds) M1
def Uc(t:wY):T3:=λδ M Q=>t δ M λds M1=>ds.length<=sizeLine/\∀p,M1 p=none->Q (.ref p) (pz M1 p (.lst ds))
def pJ{x1}{es:List Expr}{t:wY}(h:A3 X es t):E3 X (.Tuple es x1 pos) (VG t):=PE.mono (RN h) λσ H Q' zz=>x7 zz λδ M Q hs hm ht k=>
 ⟨δ,M,_,hs,hm,ht,λvs H1 ds M1 X3 WP e1 q1=>⟨by rw[<-X3.length];exact q1.1,λp hp=>by
  have e:qK X.K H1 (upd H1 p (.tup vs)):=.new hp;exact k _ _ _ M1 (.tup (.of qe) (X3.mono e)) (WP.add hp) (e1.trans e) q1.2⟩⟩
def qV{es:List Expr}{t:wY}(h:A3 X es t):E3 X (.List es pos) (Uc t):=PE.mono (Sa h) λσ H Q' zz=>x7 zz λδ M Q hs hm ht k=>
 ⟨δ,M,_,hs,hm,ht,λvs H1 ds M1 X3 WP e1 q1=>⟨by rw[<-X3.length];exact q1.1,λp hp=>by
  have e:qK X.K H1 (upd H1 p (.lst vs)):=.new hp;exact k _ _ _ _ .ref (WP.new (c:=.lst ds) hp ⟨_,qe,X3.mono e⟩) (e1.trans e) (q1.2 p (WP.fresh hp))⟩⟩
def tQ(t u:xc):xc:=λD δ M=>t {D with nx:=u D} δ M
def Wh:xc:=λD δ M=>D.nx δ M
def pE:G9 X [] Wh:=BR.mono Ph λD' σ H zz=>KP zz λδ M D hs hm ht k1 k2 k3 k4=>k1 σ H δ M hs hm .refl rfl ht
def oY{st:Stmt}{rest:List Stmt}{t u:xc}(h1:S3 X st t)(h2:G9 X rest u):G9 X (st::rest) (tQ t u):=BR.mono (Ls h1 h2) λD' σ H zz=>KP zz λδ M D hs hm ht k1 k2 k3 k4=>
 ⟨δ,M,{D with nx:=u D},hs,hm,ht,λσ1 H1 δ1 M1 ZL WP e1 l1 q1=>⟨δ1,M1,D,ZL,WP,q1,λσ' H' δ' M' x1 x2 x3 x4 x5=>k1 σ' H' δ' M' x1 x2 (e1.trans x3) (x4.trans l1) x5,λv H' d M' x1 x2 x3 x4=>k2 v H' d M' x1 x2 (e1.trans x3) x4,λσ' H' δ' M' x1 x2 x3 x4 x5=>k3 σ' H' δ' M' x1 x2 (e1.trans x3) (x4.trans l1) x5,λσ' H' δ' M' x1 x2 x3 x4 x5=>k4 σ' H' δ' M' x1 x2 (e1.trans x3) (x4.trans l1) x5⟩,k2,k3,k4⟩
def o9{st:Stmt}{t:xc}(h1:S3 X st t):G9 X [st] t:=BR.mono (IU h1) λD' σ H h=>h
def Tb(te:T3):xc:=λD δ M=>te δ M λ_ M1=>D.nx δ M1
def pI{e:Expr}{te:T3}(he:E3 X e te)(Yh:swapsWith e none pos.line X.env=pure false:=by rfl):S3 X (.Expr e pos) (Tb te):=PS.mono (Pk he Yh) λD' σ H zz=>KP zz λδ M D hs hm ht k1 k2 k3 k4=>⟨δ,M,_,hs,hm,ht,λv H1 d M1 hd WP e1 q1=>k1 σ H1 δ M1 (hs.mono e1) WP e1 rfl q1⟩
def Sj(te:T3):xc:=λD δ M=>te δ M D.rt
def pq{e:Expr}{te:T3}(he:E3 X e te):S3 X (.Return (some e) pos) (Sj te):=PS.mono (Rz he) λD' σ H zz=>KP zz λδ M D hs hm ht k1 k2 k3 k4=>⟨δ,M,_,hs,hm,ht,λv H1 d M1 hd WP e1 q1=>k2 v H1 d M1 hd WP e1 q1⟩
def Rb(c:Ae)(t u:xc):xc:=λD δ M=>c δ M λb M1=>if b=true then t D δ M1 else u D δ M1
def pM{c:Expr}{as bs:List Stmt}{tc:Ae}{t u:xc}(hc:B3 X c tc)(ha:G9 X as t)(hb:G9 X bs u):S3 X (.If c as bs pos) (Rb tc t u):=PS.mono (T8 hc ha hb) λD' σ H zz=>KP zz λδ M D hs hm ht k1 k2 k3 k4=>
 ⟨δ,M,_,hs,hm,ht,λb H1 M1 WP e1 q1=>by
  have up:∀t:xc,t D δ M1->UV X.K t D' σ H1:=λt q=>⟨δ,M1,D,hs.mono e1,WP,q,λσ' H' δ' M' x1 x2 x3 x4 x5=>k1 σ' H' δ' M' x1 x2 (e1.trans x3) x4 x5,λv H' d M' x1 x2 x3 x4=>k2 v H' d M' x1 x2 (e1.trans x3) x4,λσ' H' δ' M' x1 x2 x3 x4 x5=>k3 σ' H' δ' M' x1 x2 (e1.trans x3) x4 x5,λσ' H' δ' M' x1 x2 x3 x4 x5=>k4 σ' H' δ' M' x1 x2 (e1.trans x3) x4 x5⟩
  cases b with
  | true=>exact(dg rfl).mpr (up t ((dg rfl).mp q1))
  | false=>exact(de dB).mpr (up u ((de dB).mp q1))⟩
def SC:xc:=λ_ _ _=>False
def GR{st:Stmt}:S3 X st SC:=PS.mono L1 λD' σ H ⟨δ,M,D,hs,hm,ht,_⟩=>ht
abbrev DP:=D->vh->Mp->(vh->Mp->Prop)->Prop
def UY(K:ql)(g:DP):TG:=λv σ H Q'=>CC λd δ M Q=>rD K H d v/\zC K H σ δ/\HM K H M/\g d δ M Q/\∀σ' H' δ' M',zC K H' σ' δ'->HM K H' M'->qK K H H'->σ'.length=σ.length->Q δ' M'->Q' σ' H'
def G3(X:Cx)(e:Expr)(g:DP):Prop:=PG X e (UY X.K g)
def PG.nK{X:Cx}{e:Expr}{t t':TG}(h:PG X e t)(m:∀v σ H Q,σ.length=X.N.length->t' v σ H Q->t v σ H Q):PG X e t':=λWN s σ H v u Q I r q=>h WN s σ H v u Q I r (m v σ H Q I.len q)
def uG(i:Nat):DP:=λd δ M Q=>Q (δ.set i (some d)) M
def Iw{i:Nat}{x:Str}(hN:X.N.Nodup)(hi:X.N[i]?=some x)(hx:KQ X.env.scope x)(hf:KO X x:=by first|exact .inl rfl|exact .inr rfl|assumption):G3 X (.Name x pos) (uG i):=
 PG.nK (OH hN hi hx hf) λv σ H Q' hl ⟨d,δ,M,Q,hd,hs,hm,ht,k⟩=>k _ H _ M (hs.set hd (by rw[hl];exact(cX.mp hi).1)) hm .refl (by simp) ht
abbrev G4:=List D->vh->Mp->(vh->Mp->Prop)->Prop
def VI(K:ql)(g:G4):OY:=λvs σ H Q'=>CC λds δ M Q=>qa K H ds vs/\zC K H σ δ/\HM K H M/\g ds δ M Q/\∀σ' H' δ' M',zC K H' σ' δ'->HM K H' M'->qK K H H'->σ'.length=σ.length->Q δ' M'->Q' σ' H'
def US(X:Cx)(es:List Expr)(g:G4):Prop:=NJ X es (VI X.K g)
def NJ.mono{X:Cx}{e:List Expr}{t t':OY}(h:NJ X e t)(m:∀v σ H Q,t' v σ H Q->t v σ H Q):NJ X e t':=λWN s σ H v u Q I r q=>h WN s σ H v u Q I r (m v σ H Q q)
def PG.mono{X:Cx}{e:Expr}{t t':TG}(h:PG X e t)(m:∀v σ H Q,t' v σ H Q->t v σ H Q):PG X e t':=λWN s σ H v u Q I r q=>h WN s σ H v u Q I r (m v σ H Q q)
def Lx:G4:=λds δ M Q=>match ds with|[]=>Q δ M|_=>False
def Fm(t:DP)(u:G4):G4:=λds δ M Q=>match ds with|d::r=>t d δ M λδ' M'=>u r δ' M' Q|[]=>False
def uB:US X [] Lx:=NJ.mono OC λvs σ H Q' ⟨ds,δ,M,Q,hd,hs,hm,ht,k⟩=>by
 cases ds with
 | nil=>exact⟨hd.nil_inv,k σ H δ M hs hm .refl rfl ht⟩
 | cons _ _=>exact ht.elim
def qI{e:Expr}{es:List Expr}{t:DP}{u:G4}(h1:G3 X e t)(h2:US X es u)(hs:(assignEach (e::es) X.env).map (·.2)=assign e X.env::(assignEach es X.env).map (·.2):=by rfl):US X (e::es) (Fm t u):=
 NJ.mono (KW h1 h2 hs) λvs σ H Q' ⟨ds,δ,M,Q,hd,hs,hm,ht,k⟩=>by
 cases ds with
 | nil=>exact ht.elim
 | cons d r=>obtain⟨x,xr,rfl,hx,hr⟩:=hd.inv;exact⟨x,xr,rfl,d,δ,M,_,hx,hs,hm,ht,λσ1 H1 δ1 M1 ZL WP e1 l1 q1=>⟨r,δ1,M1,Q,hr.mono e1,ZL,WP,q1,λσ' H' δ' M' x1 x2 x3 x4 x5=>k σ' H' δ' M' x1 x2 (e1.trans x3) (x4.trans l1) x5⟩⟩
def QK(n:Nat)(t:G4):DP:=λd δ M Q=>match d with|.tup ds=>ds.length=n/\t ds δ M Q|_=>False
def vN{es:List Expr}{k:Nat}{t:G4}{n:Nat}(hc:X.calm=true)(h:US X es t)(hn:(assignEach es X.env).length=n:=by rfl)(Xc:(assignEach es X.env).findIdx? (·.1)=none:=by rfl):G3 X (.Tuple es k pos) (QK n t):=
 PG.mono (Q8 hc h hn Xc) λv σ H Q' ⟨d,δ,M,Q,hd,hs,hm,ht,k⟩=>by
 cases d with
 | tup ds=>obtain⟨a,xs,rfl,h1,h2⟩:=hd.mM;exact⟨a,xs,rfl,h1,by rw[<-h2.length];exact ht.1,ds,δ,M,Q,h2,hs,hm,ht.2,k⟩
 | _=>exact ht.elim
def GX(te:T3)(g:DP):xc:=λD δ M=>te δ M λx M1=>g x δ M1 D.nx
def Sw{tg e:Expr}{te:T3}{g:DP}(he:E3 X e te)(hg:G3 X tg g)(hs:swapsWithSole [tg] e pos.line X.env=pure false:=by rfl)(hw:swappedStores [tg] e X.env=pure none:=by rfl)
  (h1:(assignEach [tg] X.env).map (·.2)=[assign tg X.env]:=by rfl):S3 X (.Assign [tg] e pos) (GX te g):=PS.mono (Rg he hg hs hw h1) λD' σ H zz=>KP zz λδ M D hs hm ht k1 k2 k3 k4=>
 ⟨δ,M,_,hs,hm,ht,λv H1 d M1 hd WP e1 q1=>⟨d,δ,M1,_,hd,hs.mono e1,WP,q1,λσ' H' δ' M' x1 x2 x3 x4 x5=>k1 σ' H' δ' M' x1 x2 (e1.trans x3) x4 x5⟩⟩
def RH{i:Nat}{x:Str}{e:Expr}{te:T3}{WV:Pos}(hN:X.N.Nodup)(hi:X.N[i]?=some x)(hx:KQ X.env.scope x)(he:E3 X e te)(Yh:swapsWith e (some (.Name x WV)) pos.line X.env=pure false:=by rfl)
  (hf:KO X x:=by first|exact .inl rfl|exact .inr rfl|assumption):S3 X (.Assign [.Name x WV] e pos) (GX te (uG i)):=PS.nK (Rq hN hi hx he Yh hf) λD' σ H hl zz=>KP zz λδ M D hs hm ht k1 k2 k3 k4=>
 ⟨δ,M,_,hs,hm,ht,λv H1 d M1 hd WP e1 q1=>k1 _ H1 _ M1 ((hs.mono e1).set hd (by rw[hl];exact(cX.mp hi).1)) WP e1 (by simp) q1⟩
end
abbrev qX:=List D->Mp->DK->Prop
def NK(K:ql)(sp:qX):Sp:=λvs H Q' _=>CK λds M Q=>qa K H ds vs/\HM K H M/\sp ds M Q/\Up K H Q' Q
def wF(N:List Str)(ds:List D):vh:=ds.map some++List.replicate (N.length - ds.length) none
def DU{K:ql}{H:Hp}{N:List Str}{ds:List D}{vs:List V}(h:qa K H ds vs):zC K H (L2.yg N vs) (wF N ds):=λi d q=>by
 unfold wF at q;unfold L2.yg;by_cases hi:i<ds.length
 .rw[eZ (by simpa using hi),dD]at q;cases e:ds[i]? with
  | none=>rw[e]at q;cases q
  | some d'=>rw[e]at q;cases q;obtain⟨v,e1,e2⟩:=h.get e;refine⟨v,?_,e2⟩;rw[eZ (by rw[cV,<-h.length];exact hi),dD,e1];rfl
 .rw[eV (by simpa using hi),jL]at q;split at q<;>cases q
variable {P:Pg}{w:Wo}{mg:Str→Option Vl}{base:Heap}
abbrev S6(P:Pg)(w:Wo)(K:ql)(mg:Str->Option Vl)(base:Heap)(k:Nat)(f:Addr)(fd:FuncData)(ps:List Str)(sp:qX):Prop:=xb P w K mg base NI k f fd ps (NK K sp)
variable {k:Nat}{f C:Addr}{fd:FuncData}{ps:List Str}{sp:qX}{x m fn:Str}{p WQ:Pos}{e o:Expr}{es:List Expr}{t:wY}
def DA(sp:qX)(t:wY):T3:=λδ M Q=>t δ M λds M1=>sp ds M1 Q
def Ou(F:S6 X.prog X.w X.K X.mg X.base k f fd ps sp)(hr:rM k X.A)(hg:Gl X x)(hm:X.mg x=some (.ref f))(hk:W.keepIn X.K (.ref f)=true)(hb:uq X.K fd ps [])(ha:A3 X (e::es) t) (W5:yk x:=by decide) (he:AH X e es:=by rfl) (W4:Cw X pos es:=by rfl):
  E3 X (.Call (.Name x p) (e::es) [] pos) (DA sp t):=PE.mono (Jk F hr hg hm hk hb .nil (Gk (X:=X)) ha W5 he W4) λσ H Q' zz=>x7 zz λδ M Q hs hm ht k=>
 ⟨δ,M,_,hs,hm,ht,λvs H1 ds M1 hd WP e1 q1=>⟨ds,M1,Q,by rw[eO];exact hd,WP,q1,uZ e1 k⟩⟩
def C3(X:Cx)(f:Vl)(r:qX):Prop:=zq X f λvs H Q'=>∃ds M Q,qa X.K H ds vs/\HM X.K H M/\r ds M Q/\Up X.K H Q' Q
def pN{id:String}{r:qX}(hc:C3 X (.builtin id) r)(hg:Gl X x)(hm:X.mg x=none)(hv:bootBuiltins x=some (.builtin id))(ha:A3 X (e::es) t)(hn:x≠"__name__":=by decide)(W5:yk x:=by decide)
  (he:AH X e es:=by rfl) (W4:Cw X pos es:=by rfl):E3 X (.Call (.Name x p) (e::es) [] pos) (DA r t):=
 PE.mono (MQ hc hg hm hv ha hn W5 he W4) λσ H Q' zz=>x7 zz λδ M Q hs hm ht k=>⟨δ,M,_,hs,hm,ht,λvs H1 ds M1 hd WP e1 q1=>⟨ds,M1,Q,hd,WP,q1,uZ e1 k⟩⟩
def pP{T:String}{r:qX}(hc:C3 X (.type T) r)(hg:Gl X x)(hm:X.mg x=none)(hv:bootBuiltins x=some (.type T))(ha:A3 X (e::es) t)(hn:x≠"__name__":=by decide)(W5:yk x:=by decide)
  (he:AH X e es:=by rfl) (W4:Cw X pos es:=by rfl):E3 X (.Call (.Name x p) (e::es) [] pos) (DA r t):=
 PE.mono (J4 hc hg hm hv ha hn W5 he W4) λσ H Q' zz=>x7 zz λδ M Q hs hm ht k=>⟨δ,M,_,hs,hm,ht,λvs H1 ds M1 hd WP e1 q1=>⟨ds,M1,Q,hd,WP,q1,uZ e1 k⟩⟩
def TZ(ds:List D)(M:Mp)(Q:DK):Prop:=match ds with
 | [.str z]=>z.length<=sizeLine/\Q (.int z.length) M
 | [.tup es]=>Q (.int es.length) M
 | [.ref a]=>(oJ M a).elim False λes=>Q (.int es.length) M
 | [.rl es]=>Q (.int es.length) M
 | _=>False
def sd{K:ql}{H:Hp}{d:D}{vs:List V}(h:qa K H [d] vs):∃v,vs=[v]/\rD K H d v:=by obtain⟨x,r,rfl,a,b⟩:=h.inv;rw[b.nil_inv];exact⟨x,rfl,a⟩
def AZ{K:ql}{H:Hp}{d e:D}{vs:List V}(h:qa K H [d,e] vs):∃v u,vs=[v,u]/\rD K H d v/\rD K H e u:=by obtain⟨x,r,rfl,a,b⟩:=h.inv;obtain⟨y,rfl,c⟩:=sd b;exact⟨x,y,rfl,a,c⟩
def qu:C3 X (.builtin "len") TZ:=by
 intro WN s σ H vs us Q' I rv h;obtain⟨ds,M,Q,hd,hm,q,k⟩:=h;unfold TZ at q;split at q
 .obtain⟨v,rfl,hv⟩:=sd hd;cases hv.str_inv;exact D9 WN s σ H _ us Q' I rv ⟨_,rfl,q.1,k _ _ _ _ .int hm .refl q.2⟩
 .obtain⟨v,rfl,hv⟩:=sd hd;obtain⟨a,xs,rfl,h1,h2⟩:=hv.mM;exact wB WN s σ H _ us Q' I rv ⟨a,xs,rfl,.inr h1,k _ _ _ _ (by rw[<-h2.length];exact .int) hm .refl q⟩
 .obtain⟨v,rfl,hv⟩:=sd hd;obtain⟨es,e0,q⟩:=qT q;cases hv.mF;obtain⟨xs,h1,h2,_⟩:=qo hm e0;exact wB WN s σ H _ us Q' I rv ⟨_,xs,rfl,.inl h1,k _ _ _ _ (by rw[<-h2.length];exact .int) hm .refl q⟩
 .obtain⟨v,rfl,hv⟩:=sd hd;obtain⟨a,xs,rfl,h1,h2⟩:=hv.mW;exact wB WN s σ H _ us Q' I rv ⟨a,xs,rfl,.inl h1.sq,k _ _ _ _ (by rw[<-h2.length];exact .int) hm .refl q⟩
 .exact q.elim
def Tt(ds:List D)(M:Mp)(Q:DK):Prop:=match ds with
 | [.int i,.int j]=>Q (.int (if j<i then j else i)) M
 | _=>False
def Md(hc:X.calm=true):C3 X (.builtin "min") Tt:=by
 intro WN s σ H vs us Q' I rv h;obtain⟨ds,M,Q,hd,hm,q,k⟩:=h;unfold Tt at q;split at q
 .obtain⟨v,u,rfl,hv,hw⟩:=AZ hd;cases hv.int_inv;cases hw.int_inv;exact Kw hc WN s σ H _ us Q' I rv ⟨_,_,rfl,k _ _ _ _ .int hm .refl q⟩
 .exact q.elim
def K'(ds:List D)(M:Mp)(Q:DK):Prop:=match ds with
 | [.tup es]=>Q (.tup es) M
 | [.ref a]=>(oJ M a).elim False λes=>Q (.tup es) M
 | [.rl es]=>Q (.tup es) M
 | _=>False
def sf:C3 X (.type "tuple") K':=by
 intro WN s σ H vs us Q' I rv h;obtain⟨ds,M,Q,hd,hm,q,k⟩:=h;unfold K' at q;split at q
 .obtain⟨v,rfl,hv⟩:=sd hd;obtain⟨a,xs,rfl,h1,h2⟩:=id hv.mM;exact vM WN s σ H _ us Q' I rv ⟨a,xs,rfl,.inr ⟨h1,k _ _ _ _ hv hm .refl q⟩⟩
 .obtain⟨v,rfl,hv⟩:=sd hd;obtain⟨es,e0,q⟩:=qT q;cases hv.mF;obtain⟨xs,h1,h2,_⟩:=qo hm e0;refine vM WN s σ H _ us Q' I rv ⟨_,xs,rfl,.inl ⟨h1,λl hl=>?_⟩⟩;have e:qK X.K H (upd H l (.tup xs)):=.new hl;exact k _ _ _ _ (.tup (.of qe) (h2.mono e)) (hm.add hl) e q
 .obtain⟨v,rfl,hv⟩:=sd hd;obtain⟨a,xs,rfl,h1,h2⟩:=hv.mW;refine vM WN s σ H _ us Q' I rv ⟨_,xs,rfl,.inl ⟨h1.sq,λl hl=>?_⟩⟩;have e:qK X.K H (upd H l (.tup xs)):=.new hl;exact k _ _ _ _ (.tup (.of qe) (h2.mono e)) (hm.add hl) e q
 .exact q.elim
def Qz(ds:List D)(M:Mp)(Q:DK):Prop:=match ds with
 | [d]=>(K4 M d).elim False λes=>∀p,M p=none->Q (.ref p) (pz M p (.lst es))
 | _=>False
def rZ:C3 X (.type "list") Qz:=by
 intro WN s σ H vs us Q' I rv h;obtain⟨ds,M,Q,hd,hm,q,k⟩:=h;unfold Qz at q;split at q
 .obtain⟨v,rfl,hv⟩:=sd hd;obtain⟨es,e0,q⟩:=qT q;obtain⟨p,xs,rfl,h1,h2⟩:=EE hm hv e0;refine E8 WN s σ H _ us Q' I rv ⟨p,xs,rfl,h1,λl hl=>?_⟩;have e:qK X.K H (upd H l (.lst xs)):=.new hl;exact k _ _ _ _ .ref (hm.new (c:=.lst es) hl ⟨_,qe,h2.mono e⟩) e (q l (hm.fresh hl))
 .exact q.elim
theorem wR{K:ql}{H:Hp}{f:Str}:∀{fs:List (Str×D)} {vs:List (Str×V)},Cy K H fs vs->(∀d,fs.lookup f=some d->∃v,vs.lookup f=some v/\rD K H d v)/\(fs.lookup f=none->vs.lookup f=none)
 | [],[],_=>⟨λd e=>by simp at e,λ_=>rfl⟩
 | [],_::_,h=>by have:=h.1;simp at this
 | _::_,[],h=>by have:=h.1;simp at this
 | (g,d)::fs,(g',v)::vs,h=>by
  have h1:g'=g/\vs.map (·.1)=fs.map (·.1):=by
   have:=h.1
   simpa using this
  obtain⟨x,r,e,a,b⟩:=h.2.inv;have e':v::vs.map (·.2)=x::r:=e;cases e';obtain⟨i1,i2⟩:=wR (f:=f) (fs:=fs) (vs:=vs) ⟨h1.2,b⟩;rw[h1.1];refine⟨λd' e=>?_,λe=>?_⟩
  .rw[eI]at e ⊢;cases q:f==g with
   | true=>rw[q]at e;cases e;exact⟨v,rfl,a⟩
   | false=>rw[q]at e;exact i1 d' e
  .rw[eI]at e ⊢;cases q:f==g with
   | true=>rw[q]at e;cases e
   | false=>rw[q]at e;exact i2 e
theorem Jd{f:Str}{d:D}:∀{fs:List (Str×D)},fs.lookup f=some d->f∈fs.map (·.1)
 | [],h=>by simp at h
 | (g,e)::r,h=>by
  rw[eI]at h;cases q:f==g with
  | true=>
   have z:f=g:=by simpa using q
   rw[z,dY];exact dJ
  | false=>rw[q]at h;simp[Jd h]
def zU(o:Option uT)(F:Addr->List (Str×D)->Prop):Prop:=match o with
 | some (.ins C fs)=>F C fs
 | _=>False
def oZ{o:Option uT}{F:Addr->List (Str×D)->Prop}{C:Addr}{fs:List (Str×D)}(e:o=some (.ins C fs))(h:F C fs):zU o F:=by rw[e];exact h
def xn{o:Option uT}{F:Addr->List (Str×D)->Prop}(h:zU o F):∃C fs,o=some (.ins C fs)/\F C fs:=by
 unfold zU at h;split at h
 .exact⟨_,_,rfl,h⟩
 .exact h.elim
def U7(f:Str)(ta:T3):T3:=λδ M Q=>ta δ M λx M1=>match x with
 | .ref a=>zU (M1 a) λ_ fs=>(fs.lookup f).elim False λd=>Q d M1
 | _=>False
def pk{f:Str}(he:E3 X o ta)(hb:attributeBase o f X.env (eval o X.env)=eval o X.env:=by rfl):E3 X (.Attribute o f pos) (U7 f ta):=PE.mono (Sq he hb) λσ H Q' zz=>x7 zz λδ M Q hs hm ht k=>
 ⟨δ,M,_,hs,hm,ht,λv H1 d M1 hd WP e1 q1=>by
  cases d with
  | ref a=>cases hd.mF;obtain⟨C,fs,e,q1⟩:=xn q1;obtain⟨d,e2,q⟩:=qT q1;obtain⟨dx,vs,h1,cl,na,fo⟩:=WP a _ e;obtain⟨v,e3,hv⟩:=(wR fo).1 d e2;exact⟨a,C,dx,vs,v,rfl,h1,cl,na f (Jd e2),e3,k v H1 d M1 hv WP e1 q⟩
  | _=>exact q1.elim⟩
def vQ(f:Str)(v:D):List (Str×D)->List (Str×D)
 | []=>[(f,v)]
 | (g,u)::r=>if g=f then(g,v)::r else(g,u)::vQ f v r
theorem Ft{K:ql}{H:Hp}{f:Str}{d:D}{v:V}(hv:rD K H d v):∀{fs:List (Str×D)} {vs:List (Str×V)},Cy K H fs vs->Cy K H (vQ f d fs) (vm f v vs)
 | [],[],_=>⟨rfl,.cons hv .nil⟩
 | [],_::_,h=>by have:=h.1;simp at this
 | _::_,[],h=>by have:=h.1;simp at this
 | (g,e)::fs,(g',u)::vs,h=>by
  have h1:g'=g/\vs.map (·.1)=fs.map (·.1):=by
   have:=h.1
   simpa using this
  obtain⟨x,r,e1,a,b⟩:=h.2.inv;have e':u::vs.map (·.2)=x::r:=e1;cases e';obtain⟨hg,ht⟩:=h1;subst hg;rw[show vQ f d ((g',e)::fs)=(if g'=f then(g',d)::fs else(g',e)::vQ f d fs)from rfl,show vm f v ((g',u)::vs)=(if g'=f then(g',v)::vs else(g',u)::vm f v vs)from rfl];by_cases q:g'=f
  .rw[dg q,dg q];exact⟨by simpa using ht,.cons hv b⟩
  .rw[de q,de q];obtain⟨i1,i2⟩:=Ft hv (fs:=fs) (vs:=vs) ⟨ht,b⟩;exact⟨by simpa using i1,.cons a i2⟩
theorem Cn{f:Str}{d:D}:∀{fs:List (Str×D)} {g:Str},g∈(vQ f d fs).map (·.1)->g=f\/g∈fs.map (·.1)
 | [],g,h=>.inl (by simpa [vQ]using h)
 | (k,e)::r,g,h=>by
  rw[show vQ f d ((k,e)::r)=(if k=f then(k,d)::r else(k,e)::vQ f d r)from rfl]at h;by_cases q:k=f
  .rw[dg q]at h;exact .inr (by simpa using h)
  .rw[de q]at h;rw[dY,dh]at h;rcases h with h|h
   .exact .inr (by simp[h])
   .rcases Cn h with z|z
    .exact .inl z
    .exact .inr (by simp;right;simpa using z)
def Ug(K:ql)(f:Str)(ta tv:T3):xc:=λD δ M=>tv δ M λy M1=>ta δ M1 λx M2=>match x with
 | .ref a=>zU (M2 a) λC fs=>tX K C f/\fs.length<1000/\D.nx δ (pz M2 a (.ins C (vQ f y fs)))
 | _=>False
def pV{f:Str}{value:Expr}{tv:T3}{WV:Pos}(ha:E3 X o ta)(hv:E3 X value tv)(Yh:swapsWith value (some (.Attribute o f WV)) pos.line X.env=pure false:=by rfl):S3 X (.Assign [.Attribute o f WV] value pos) (Ug X.K f ta tv):=
 PS.mono (Ra ha hv Yh) λD' σ H zz=>KP zz λδ M D hs hm ht k1 k2 k3 k4=>
 ⟨δ,M,_,hs,hm,ht,λy H1 dy M1 hy WP e1 q1=>⟨δ,M1,_,hs.mono e1,WP,q1,λv H2 d M2 hd W7 e2 q2=>by
  cases d with
  | ref a=>
   cases hd.mF;obtain⟨C,fs,e,q2⟩:=xn q2;obtain⟨na,hl,q⟩:=q2;obtain⟨dx,vs,h1,cl,nn,fo⟩:=W7 a _ e;have WT:vs.length=fs.length:=by have:=eY List.length fo.1;simpa using this
   refine⟨a,C,dx,vs,rfl,h1,cl,na,by omega,?_⟩;obtain⟨XJ,e3⟩:=W7.put (p:=a) (o:=.ins C dx (vm f y vs)) (c:=.ins C (vQ f dy fs)) e λx=>⟨dx,_,qe,cl,λg hg=>by
    rcases Cn hg with z|z
    .rw[z];exact na
    .exact nn g z,Ft ((hy.mono e2).mono x) (fo.mono x)⟩
   exact k1 σ _ δ _ (hs.mono (e1.trans (e2.trans e3))) XJ (e1.trans (e2.trans e3)) rfl q
  | _=>exact q2.elim⟩⟩
def QC(C:Addr)(sp:qX)(t:wY):T3:=λδ M Q=>t δ M λds M1=>∀x,M1 x=none->sp (.ref x::ds) (pz M1 x (.ins C [])) λd M2=>d=.mH/\Q (.ref x) M2
def Ly{K:ql}{H:Hp}{M:Mp}{xa dx:Addr}(hm:HM K H M)(cl:Cls K C)(h1:H xa=none)(h2:H dx=none)(ne:dx≠xa):HM K (upd (upd H dx (.own xa)) xa (.ins C dx [])) (pz M xa (.ins C []))/\qK K H (upd (upd H dx (.own xa)) xa (.ins C dx [])):=by
 have Xt:upd H dx (.own xa) xa=none:=by rw[pZ (dO ne)];exact h1
 exact⟨(hm.add (p:=dx) (o:=.own xa) h2).new Xt ⟨dx,[],qe,cl,λg hg=>by simp at hg,rfl,.nil⟩,qK.trans (.new h2) (.new Xt)⟩
def Pj(cl:Cls X.K C)(Mk':Mk X.K C f)(F:S6 X.prog X.w X.K X.mg X.base k f fd ps sp)(hr:rM (k+1) X.A)(hg:Gl X x)(hm:X.mg x=some (.ref C))(hb:uq X.K fd ps [])(ha:A3 X (e::es) t) (W5:yk x:=by decide) (he:AH X e es:=by rfl) (W4:Cw X pos es:=by rfl):
  E3 X (.Call (.Name x p) (e::es) [] pos) (QC C sp t):=PE.mono (Oe Mk' F hr hg hm hb .nil (Gk (X:=X)) ha W5 he W4) λσ H Q' zz=>x7 zz λδ M Q hs hm ht k=>
 ⟨δ,M,_,hs,hm,ht,λvs H1 ds M1 hd WP e1 q1=>λxa dx n1 n2 ne=>by
  obtain⟨W7,e2⟩:=Ly WP cl n1 n2 ne;refine⟨.ref xa::ds,_,_,?_,W7,q1 xa (WP.fresh n1),λv H3 d M3 hd3 XJ e3 q3=>?_⟩
  .rw[eO];exact .cons .ref (hd.mono e2)
  .obtain⟨z,q3⟩:=q3;subst z;exact⟨hd3.mI,k _ H3 _ M3 .ref XJ (e1.trans (e2.trans e3)) q3⟩⟩
def HH(m:Str)(R:Addr->Sp->Prop)(ta:TE)(t:TA):TE:=λσ H Q=>ta σ H λx H1=>∃a C dx fs sp,x=.ref a/\H1 a=some (.ins C dx fs)/\fs.lookup m=none/\R C sp/\t σ H1 λvs H2=>sp (x::vs) H2 Q E0
def xo(P:Pg)(w:Wo)(K:ql)(mg:Str->Option Vl)(base:Heap)(k:Nat)(m:Str)(C:Addr)(sp:Sp):Prop:=Cls K C/\∃f fd ps,vj K C m f/\xb P w K mg base NI k f fd ps sp/\uq K fd ps []
def LM{R:Addr->Sp->Prop}{ta:TE}{t:TA}{pl:Sem Bool}(he:PE X o ta)(hR:∀C sp,R C sp->xo X.prog X.w X.K X.mg X.base k m C sp)(hr:rM k X.A)(ha:PA X (e::es) t) (Xc:AH X e es:=by rfl) (W4:Cw X pos es:=by rfl)
  (ht:eval (.Call (.Attribute o m WQ) (e::es) [] pos) X.env=(do
   let ov<-eval o X.env
   standAt WQ.atName
   let(f,first)<-holding [ov] (getMethod ov m pl)
   callWith pos f first (backTo pos (starEach (e::es) X.env)) (backToKw pos (keywordEach [] X.env))):=by rfl):
  PE X (.Call (.Attribute o m WQ) (e::es) [] pos) (HH m R ta t):=by
 intro WN s σ H Q I h;refine jT (pl:=pl) (su (he WN s σ H _ I h) λu s1 zz=>?_) ht;obtain⟨x,H1,I1,rx,a,C,dx,fs,sp,ex,ea,l,hRC,q⟩:=zz;obtain⟨c,f,fd,ps,hm,F,hb⟩:=hR C sp hRC;subst ex;obtain rfl:u=Value.ref a:=rx;refine By I1 ea c hm l ?_;refine iN (first:=[.ref a]) (h₀:=X.base) I.ok.mod.oz hm.kp (su (ha pos WN s1 σ H1 _ I1 q) λus s2 zz=>x5 zz λvs H2 I2 r q2=>⟨I2.mY,?_⟩) Xc W4;exact EZ (us:=.ref a::us) (vs:=.ref a::vs) F hr hb .nil (Gk (X:=X)) I2 (.cons rfl r) (by rw[eO];exact q2)
def KN{R:Addr->Sp->Prop}{ta:TE}{pl:Sem Bool}(he:PE X o ta)(hR:∀C sp,R C sp->xo X.prog X.w X.K X.mg X.base k m C sp)(hr:rM k X.A) (ht:eval (.Call (.Attribute o m WQ) [] [] pos) X.env=(do
   let ov<-eval o X.env
   standAt WQ.atName
   let(f,first)<-holding [ov] (getMethod ov m pl)
   callWith pos f first (backTo pos (starEach [] X.env)) (backToKw pos (keywordEach [] X.env))):=by rfl):
  PE X (.Call (.Attribute o m WQ) [] [] pos) (HH m R ta T5):=by
 intro WN s σ H Q I h;refine jT (pl:=pl) (su (he WN s σ H _ I h) λu s1 zz=>?_) ht;obtain⟨x,H1,I1,rx,a,C,dx,fs,sp,ex,ea,l,hRC,q⟩:=zz;obtain⟨c,f,fd,ps,hm,F,hb⟩:=hR C sp hRC;subst ex;obtain rfl:u=Value.ref a:=rx;refine By I1 ea c hm l ?_;exact W.callWith_K0 (first:=[.ref a]) I1.mY hm.kp (EZ (us:=[.ref a]) (vs:=[.ref a]) F hr hb .nil (Gk (X:=X)) I1 (.cons rfl .nil) (by rw[eO];exact q))
def Ah(m:Str)(R:Addr->qX->Prop)(ta:T3)(t:wY):T3:=λδ M Q=>ta δ M λx M1=>match x with
 | .ref a=>zU (M1 a) λC fs=>fs.lookup m=none/\∃sp,R C sp/\t δ M1 λds M2=>sp (x::ds) M2 Q
 | _=>False
def Vs(K:ql)(R:Addr->qX->Prop):Addr->Sp->Prop:=λC sp'=>∃sp,R C sp/\sp'=NK K sp
def Jg{R:Addr->qX->Prop}:∀σ H Q',lo X.K (Ah m R ta t) σ H Q'->HH m (Vs X.K R) (lo X.K ta) (Wp X.K t) σ H Q':=λσ H Q' zz=>x7 zz λδ M Q hs hm ht k=>
 ⟨δ,M,_,hs,hm,ht,λv H1 d M1 hd WP e1 q1=>by
  cases d with
  | ref a=>cases hd.mF;obtain⟨C,fs,e,q1⟩:=xn q1;obtain⟨hn,sp,hR,q⟩:=q1;obtain⟨dx,vs,h1,cl,na,fo⟩:=WP a _ e;exact⟨a,C,dx,vs,_,rfl,h1,(wR fo).2 hn,⟨sp,hR,rfl⟩,δ,M1,_,hs.mono e1,WP,q,λus H2 ds M2 X3 W7 e2 q2=>⟨.ref a::ds,M2,Q,.cons .ref X3,W7,q2,uZ (e1.trans e2) k⟩⟩
  | _=>exact q1.elim⟩
def ER{R:Addr->qX->Prop}{pl:Sem Bool}(he:E3 X o ta)(hR:∀C sp,R C sp->xo X.prog X.w X.K X.mg X.base k m C (NK X.K sp))(hr:rM k X.A)(ha:A3 X (e::es) t) (Xc:AH X e es:=by rfl) (W4:Cw X pos es:=by rfl)
  (ht:eval (.Call (.Attribute o m WQ) (e::es) [] pos) X.env=(do
   let ov<-eval o X.env
   standAt WQ.atName
   let(f,first)<-holding [ov] (getMethod ov m pl)
   callWith pos f first (backTo pos (starEach (e::es) X.env)) (backToKw pos (keywordEach [] X.env))):=by rfl):
  E3 X (.Call (.Attribute o m WQ) (e::es) [] pos) (Ah m R ta t):=PE.mono (LM (R:=Vs X.K R) he (λC sp' ⟨sp,h,z⟩=>by rw[z];exact hR C sp h) hr ha Xc W4 ht) Jg
def Bp{R:Addr->qX->Prop}{pl:Sem Bool}(he:E3 X o ta)(hR:∀C sp,R C sp->xo X.prog X.w X.K X.mg X.base k m C (NK X.K sp))(hr:rM k X.A) (ht:eval (.Call (.Attribute o m WQ) [] [] pos) X.env=(do
   let ov<-eval o X.env
   standAt WQ.atName
   let(f,first)<-holding [ov] (getMethod ov m pl)
   callWith pos f first (backTo pos (starEach [] X.env)) (backToKw pos (keywordEach [] X.env))):=by rfl):
  E3 X (.Call (.Attribute o m WQ) [] [] pos) (Ah m R ta xj):=PE.mono (KN (R:=Vs X.K R) he (λC sp' ⟨sp,h,z⟩=>by rw[z];exact hR C sp h) hr ht) λσ H Q' h=>by
 obtain⟨δ,M,Q,hs,hm,ht,k⟩:=Jg (t:=xj) σ H Q' h;refine⟨δ,M,Q,hs,hm,ht,λv H' d M' x1 x2 x3 x4=>?_⟩;obtain⟨a,C,dx,fs,sp,e1,e2,e3,e4,δ',WS,Q'',y1,y2,y3,y4⟩:=k v H' d M' x1 x2 x3 x4;exact⟨a,C,dx,fs,sp,e1,e2,e3,e4,y4 [] H' [] WS .nil y2 .refl y3⟩
structure G1(K:ql)(H1:Hp)(J:It)(ds:List D)(ok:Mp->Prop):Prop where
 go:∀i H M,i<ds.length->HM K H M->ok M->qK K H1 H->J.go i H
 oN:∀i d H M x H',ds[i]?=some d->HM K H M->ok M->qK K H1 H->J.oN i H x H'->rD K H' d x/\HM K H' M/\qK K H H'
 stop:∀H M,HM K H M->ok M->qK K H1 H->J.stop ds.length H
abbrev NG:=vh->Mp->(List D->(Mp->Prop)->Mp->Prop)->Prop
def Ws(K:ql)(wi:NG):TI:=λσ H R'=>CK λδ M R=>zC K H σ δ/\HM K H M/\wi δ M R/\∀J H1 ds ok M1,G1 K H1 J ds ok->HM K H1 M1->qK K H H1->ok M1->R ds ok M1->R' J H1
def I3(X:Cx)(tg iter:Expr)(wi:NG):Prop:=PI X tg iter (Ws X.K wi)
def PI.mono{X:Cx}{tg e:Expr}{t t':TI}(h:PI X tg e t)(m:∀σ H Q,t' σ H Q->t σ H Q):PI X tg e t':=λWN s σ H Q I q=>h WN s σ H Q I (m σ H Q q)
variable {H1:Hp}
def Lc{a:Addr}{ds:List D}:G1 K H1 (UO K a) ds (λM=>oJ M a=some ds) where
 go:=λi H M hi hm ok _=>by obtain⟨xs,h1,h2,_⟩:=qo hm ok;obtain⟨x,e,_⟩:=h2.get (cY hi);exact⟨xs,x,h1,e⟩
 oN:=λi d H M x H' hd hm ok _ y=>by obtain⟨xs,h1,h2,_⟩:=qo hm ok;obtain⟨e,y⟩:=y;subst e;obtain⟨x',e,hx⟩:=h2.get hd;have:=y xs h1;rw[e]at this;cases this;exact⟨hx,hm,.refl⟩
 stop:=λH M hm ok _=>by obtain⟨xs,h1,h2,_⟩:=qo hm ok;exact⟨xs,h1,by rw[h2.length];exact dw _⟩
def PM{a:Addr}{ds:List D}{xs:List V}(h1:uR K H1 a xs)(h2:qa K H1 ds xs):G1 K H1 (U9 K a) ds (λ_=>True) where
 go:=λi H M hi hm ok e1=>by obtain⟨x,e,_⟩:=h2.get (cY hi);exact⟨xs,x,e1.t _ _ h1,e⟩
 oN:=λi d H M x H' hd hm ok e1 y=>by obtain⟨e,y⟩:=y;subst e;obtain⟨x',e,hx⟩:=h2.get hd;have:=y xs (e1.t _ _ h1);rw[e]at this;cases this;exact⟨hx.mono e1,hm,.refl⟩
 stop:=λH M hm ok e1=>⟨xs,e1.t _ _ h1,by rw[h2.length];exact dw _⟩
def RK{a:Addr}{ds:List D}{xs:List V}(h1:Oz K H1 a xs)(h2:qa K H1 ds xs):G1 K H1 (UO K a) ds (λ_=>True) where
 go:=λi H M hi hm ok e1=>by obtain⟨x,e,_⟩:=h2.get (cY hi);exact⟨xs,x,(h1.mono e1).sq,e⟩
 oN:=λi d H M x H' hd hm ok e1 y=>by obtain⟨e,y⟩:=y;subst e;obtain⟨x',e,hx⟩:=h2.get hd;have:=y xs (h1.mono e1).sq;rw[e]at this;cases this;exact⟨hx.mono e1,hm,.refl⟩
 stop:=λH M hm ok e1=>⟨xs,(h1.mono e1).sq,by rw[h2.length];exact dw _⟩
def Dw{n:Nat}{lo:Int}:G1 K H1 (Uk lo n) ((List.range n).map λi=>D.int (lo+(i:Nat))) (λ_=>True) where
 go:=λi H M hi hm ok e1=>by
  have z:i<n:=by simpa using hi
  exact z
 oN:=λi d H M x H' hd hm ok e1 y=>by
  obtain⟨e,y⟩:=y;subst e;subst y;have hi:i<n:=by
   have:=(cX.mp hd).1
   simpa using this
  have hd':d=D.int (lo+(i:Nat)):=by rw[dD,iW hi]at hd;exact(dn hd).symm
  subst hd';exact⟨.int,hm,.refl⟩
 stop:=λH M hm ok e1=>by show n<=_;simp
variable {scope:Scope}{ix:List (Option Nat)}{N':List Str}{iter XE:Expr}{Xn:List Expr}{wi:NG}{g:DP}{tt:Ae}{te:T3}{tg:Expr}
def Uq(t:T3):NG:=λδ M R=>t δ M λx M1=>match x with
 | .tup ds=>R ds (λ_=>True) M1
 | .ref a=>(oJ M1 a).elim False λds=>R ds (λM=>oJ M a=some ds) M1
 | .rl ds=>R ds (λ_=>True) M1
 | .str z=>R (z.cps.toList.map λc=>D.str ⟨#[c]⟩) (λ_=>True) M1
 | _=>False
def Qe{K:ql}{H1:Hp}{z:Str}:G1 K H1 (U8 z) (z.cps.toList.map λc=>D.str ⟨#[c]⟩) (λ_=>True) where
 go:=λi H M hi hm ok _=>by
  show i<z.cps.size
  simpa using hi
 oN:=λi d H M x H' hd hm ok _ y=>by obtain⟨e,c,e1,e2⟩:=y;subst e e2;rw[dD,Array.getElem?_toList,e1]at hd;cases hd;exact⟨.str,hm,.refl⟩
 stop:=λH M hm ok _=>by show _=z.cps.size;simp
def qG{l:Expr}{t:T3}(h:E3 X l t)(hc:X.calm=true:=by rfl):I3 X tg l (Uq t):=PI.mono (Pu hc h) λσ H R' zz=>x7 zz λδ M R hs hm ht k=>
 ⟨δ,M,_,hs,hm,ht,λv H1 d M1 hd WP e1 q1=>by
  cases d with
  | tup ds=>obtain⟨a,xs,rfl,h1,h2⟩:=hd.mM;exact .inl ⟨a,rfl,.inr ⟨⟨xs,h1⟩,k _ H1 ds _ M1 (PM h1 h2) WP e1 trivial q1⟩⟩
  | ref a=>cases hd.mF;obtain⟨ds,e0,q⟩:=qT q1;obtain⟨xs,h1,h2,_⟩:=qo WP e0;exact .inl ⟨a,rfl,.inl ⟨⟨xs,h1⟩,k _ H1 ds _ M1 Lc WP e1 e0 q⟩⟩
  | str z=>exact .inr ⟨z,hd.str_inv,k _ H1 _ _ M1 Qe WP e1 trivial q1⟩
  | rl ds=>obtain⟨a,xs,rfl,h1,h2⟩:=hd.mW;exact .inl ⟨a,rfl,.inl ⟨⟨xs,h1.sq⟩,k _ H1 ds _ M1 (RK h1 h2) WP e1 trivial q1⟩⟩
  | _=>exact q1.elim⟩
def Qr(t:wY):NG:=λδ M R=>t δ M λds M1=>match ds with
 | [.int j]=>(-(2 ^ 62)<=j/\j<2 ^ 62)/\R ((List.range j.toNat).map λi=>D.int (0+(i:Nat))) (λ_=>True) M1
 | [.int i,.int j]=>(-(2 ^ 62)<=i/\i<2 ^ 62/\-(2 ^ 62)<=j/\j<2 ^ 62)/\R ((List.range (j - i).toNat).map λn=>D.int (i+(n:Nat))) (λ_=>True) M1
 | _=>False
def wg{a:Expr}{ta:wY}(hg:Gl X "range")(hm:X.mg "range"=none)(ha:A3 X [a] ta)(hs:starEach [a] X.env=[(false,eval a X.env)]:=by rfl):I3 X tg (.Call (.Name "range" p) [a] [] pos) (Qr λδ M Q=>ta δ M λds M1=>ds.length=1/\Q ds M1):=
 PI.mono (J3 hg hm ha hs) λσ H R' zz=>x7 zz λδ M R hs hm ht k=>⟨δ,M,_,hs,hm,ht,λvs H1 ds M1 hd WP e1 q1=>by
  obtain⟨hl,q1⟩:=q1;split at q1
  .obtain⟨v,rfl,hv⟩:=sd hd;cases hv.int_inv;exact⟨_,rfl,q1.1.1,q1.1.2,k _ H1 _ _ M1 Dw WP e1 trivial q1.2⟩
  .simp at hl
  .exact q1.elim⟩
def Kz{a b:Expr}{ta:wY}(hg:Gl X "range")(hm:X.mg "range"=none)(ha:A3 X [a,b] ta)(hs:starEach [a,b] X.env=[(false,eval a X.env),(false,eval b X.env)]:=by rfl)(XY:starEach [b] X.env=[(false,eval b X.env)]:=by rfl):
  I3 X tg (.Call (.Name "range" p) [a,b] [] pos) (Qr λδ M Q=>ta δ M λds M1=>ds.length=2/\Q ds M1):=
 PI.mono (J1 hg hm ha hs XY) λσ H R' zz=>x7 zz λδ M R hs hm ht k=>⟨δ,M,_,hs,hm,ht,λvs H1 ds M1 hd WP e1 q1=>by
  obtain⟨hl,q1⟩:=q1;split at q1
  .simp at hl
  .obtain⟨v,u,rfl,hv,hw⟩:=AZ hd;cases hv.int_inv;cases hw.int_inv;exact⟨_,_,rfl,q1.1,k _ H1 _ _ M1 Dw WP e1 trivial q1.2⟩
  .exact q1.elim⟩
def Ff(g:DP)(tb:xc)(ok:Mp->Prop)(E:GN):List D->vh->Mp->Prop
 | [],δ,M=>E.nx δ M
 | d::r,δ,M=>g d δ M λδ2 M2=>tb {E with nx:=λδ' M'=>ok M'/\Ff g tb ok E r δ' M',ct:=λδ' M'=>ok M'/\Ff g tb ok E r δ' M',bk:=E.nx} δ2 M2
def U5(wi:NG)(g:DP)(tb:xc):xc:=λE δ M=>wi δ M λds ok M1=>Ff g tb ok E ds δ M1
def uI{iter:Expr}{body:List Stmt}{wi:NG}{g:DP}{tb:xc}(hp:PassesOwn (model X.prog X.w) X.A X.env X.xe)(hc:X.calm=true)(hi:I3 X tg iter wi)(hg:G3 X tg g)(hb:G9 X body tb) (hs:∀x,foldedSetIterable iter X.env x=pure x:=by intro _;rfl):S3 X (.For tg iter body [] pos) (U5 wi g tb):=PS.mono (Q3 hp hc hi hg hb hs) λD' σ H zz=>KP zz λδ M E hs hm ht k1 k2 k3 k4=>
 ⟨δ,M,_,hs,hm,ht,λJ H1 ds ok M1 S WP e1 ok1 q1=>by
  refine⟨λi m σ' H'=>m=ds.length - i/\i<=ds.length/\∃δ' M',zC X.K H' σ' δ'/\HM X.K H' M'/\ok M'/\qK X.K H1 H'/\σ'.length=σ.length/\Ff g tb ok E (ds.drop i) δ' M',⟨ds.length,by simp,eG _,δ,M1,hs.mono e1,WP,ok1,.refl,rfl,by simpa using q1⟩,?_⟩
  rintro i m σ' H' ⟨rfl,hi,δ',M',Zh,Yi,ZM,e',l',q'⟩
  by_cases W1:i<ds.length
  .rw[gH W1]at q';refine .inr ⟨S.go i H' M' W1 Yi ZM e',λσ2 H2=>∃δ2 M2,zC X.K H2 σ2 δ2/\HM X.K H2 M2/\ok M2/\qK X.K H1 H2/\σ2.length=σ.length/\Ff g tb ok E (ds.drop (i+1)) δ2 M2,λσ2 H2 z=>⟨ds.length - (i+1),by omega,rfl,W1,z⟩,λx H2 y=>?_⟩;obtain⟨hx,W7,e2⟩:=S.oN i ds[i] H' M' x H2 (cY W1) Yi ZM e' y;refine⟨ds[i],δ',M',_,hx,Zh.mono e2,W7,q',λσ3 H3 δ3 M3 x1 x2 x3 x4 x5=>?_⟩;refine⟨δ3,M3,_,x1,x2,x5,λσ4 H4 δ4 M4 y1 y2 y3 y4 y5=>?_,λv H4 d M4 y1 y2 y3 y4=>?_,λσ4 H4 δ4 M4 y1 y2 y3 y4 y5=>?_,λσ4 H4 δ4 M4 y1 y2 y3 y4 y5=>?_⟩
   .exact⟨δ4,M4,y1,y2,y5.1,e'.trans (e2.trans (x3.trans y3)),by rw[y4,x4,l'],y5.2⟩
   .exact k2 v H4 d M4 y1 y2 (e1.trans (e'.trans (e2.trans (x3.trans y3)))) y4
   .exact k1 σ4 H4 δ4 M4 y1 y2 (e1.trans (e'.trans (e2.trans (x3.trans y3)))) (by rw[y4,x4,l']) y5
   .exact⟨δ4,M4,y1,y2,y5.1,e'.trans (e2.trans (x3.trans y3)),by rw[y4,x4,l'],y5.2⟩
  .have e:i=ds.length:=by omega
   subst e;rw[jE]at q';exact .inl ⟨S.stop H' M' Yi ZM e',k1 σ' H' δ' M' Zh Yi (e1.trans e') l' q'⟩⟩
def OB(ix:List (Option Nat))(δ:vh):vh:=ix.map λo=>o.bind λi=>(δ[i]?).join
def PC{K:ql}{H:Hp}{σ:St}{δ:vh}{ix:List (Option Nat)}(h:zC K H σ δ):zC K H (Ow ix σ) (OB ix δ):=λi d q=>by
 unfold OB at q;unfold Ow;rw[dD]at q ⊢;cases e:ix[i]? with
 | none=>rw[e]at q;cases q
 | some o=>
  rw[e]at q;cases o with
  | none=>cases q
  | some j=>
   have q':(δ[j]?).join=some d:=dn q;have e4:δ[j]?=some (some d):=by
    cases r:δ[j]? with
    | none=>rw[r]at q';cases q'
    | some w=>rw[r]at q';exact eY some q'
   obtain⟨v,e5,hv⟩:=h j d e4;refine⟨v,?_,hv⟩;show some ((σ[j]?).join)=some (some v);rw[e5];rfl
def uQ(g:DP)(tt:Ae)(te:T3)(ok:Mp->Prop)(Q:DK):List D->List D->vh->Mp->Prop
 | [],acc,_,M=>acc.length<=sizeLine/\∀p,M p=none->Q (.ref p) (pz M p (.lst acc))
 | d::r,acc,δ,M=>acc.length<sizeLine/\g d δ M λδ2 M2=>tt δ2 M2 λb M3=>if b=true then te δ2 M3 λy M4=>ok M4/\uQ g tt te ok Q r (acc++[y]) δ2 M4 else ok M3/\uQ g tt te ok Q r acc δ2 M3
def Lm(ix:List (Option Nat))(wi:NG)(g:DP)(tt:Ae)(te:T3):T3:=λδ M Q=>wi δ M λds ok M1=>uQ g tt te ok Q ds [] (OB ix δ) M1
def F3(X:Cx)(Xn:List Expr)(t:Ae):Prop:=PF X Xn (SX X.K t)
def PF.mono{X:Cx}{e:List Expr}{t t':TT}(h:PF X e t)(m:∀σ H Q,t' σ H Q->t σ H Q):PF X e t':=λWN s σ H Q I q=>h WN s σ H Q I (m σ H Q q)
def BM:Ae:=λ_ M Q=>Q true M
def rS:F3 X [] BM:=PF.mono Q7 λσ H Q' zz=>x7 zz λδ M Q hs hm ht k=>k true H M hm .refl ht
def vJ{c:Expr}{t:Ae}(h:B3 X c t):F3 X [c] t:=Rk h
def IB:∀σ H Q',lo X.K (Lm ix wi g tt te) σ H Q'->MM ix (Ws X.K wi) (UY X.K g) (SX X.K tt) (lo X.K te) σ H Q':=λσ H Q' zz=>x7 zz λδ M Q hs hm ht k=>
 ⟨δ,M,_,hs,hm,ht,λJ H1 ds ok M1 S WP e1 ok1 q1=>by
  refine⟨λi m ys σ' H'=>m=ds.length - i/\i<=ds.length/\∃δ' M' acc,zC X.K H' σ' δ'/\HM X.K H' M'/\qa X.K H' acc ys/\ok M'/\qK X.K H1 H'/\uQ g tt te ok Q (ds.drop i) acc δ' M',⟨ds.length,by simp,eG _,OB ix δ,M1,[],PC (hs.mono e1),WP,.nil,ok1,.refl,by simpa using q1⟩,?_⟩
  rintro i m ys σ' H' ⟨rfl,hi,δ',M',acc,Zh,Yi,Yk,ZM,e',q'⟩
  by_cases W1:i<ds.length
  .rw[gH W1]at q';obtain⟨hz,q'⟩:=q';refine .inr ⟨S.go i H' M' W1 Yi ZM e',by rw[<-Yk.length];exact hz,λx H2 y=>?_⟩;obtain⟨hx,W7,e2⟩:=S.oN i ds[i] H' M' x H2 (cY W1) Yi ZM e' y;refine⟨ds[i],δ',M',_,hx,Zh.mono e2,W7,q',λσ3 H3 δ3 M3 x1 x2 x3 x4 x5=>?_⟩;refine⟨δ3,M3,_,x1,x2,x5,λb H4 M4 y2 y3 y5=>?_⟩;cases b with
   | true=>rw[dg rfl]at y5 ⊢;refine⟨δ3,M4,_,x1.mono y3,y2,y5,λv H5 d M5 z1 z2 z3 z4=>⟨ds.length - (i+1),by omega,rfl,W1,δ3,M5,acc++[d],x1.mono (y3.trans z3),z2,(Yk.mono (e2.trans (x3.trans (y3.trans z3)))).snoc z1,z4.1,e'.trans (e2.trans (x3.trans (y3.trans z3))),z4.2⟩⟩
   | false=>rw[de dB]at y5 ⊢;exact⟨ds.length - (i+1),by omega,rfl,W1,δ3,M4,acc,x1.mono y3,y2,Yk.mono (e2.trans (x3.trans y3)),y5.1,e'.trans (e2.trans (x3.trans y3)),y5.2⟩
  .have e:i=ds.length:=by omega
   subst e;rw[jE]at q';refine .inl ⟨S.stop H' M' Yi ZM e',by rw[<-Yk.length];exact q'.1,λp hp=>?_⟩;have e5:qK X.K H' (upd H' p (.lst ys)):=.new hp;exact k _ _ _ _ .ref (Yi.new (c:=.lst acc) hp ⟨_,qe,Yk.mono e5⟩) (e1.trans (e'.trans e5)) (q'.2 p (Yi.fresh hp))⟩
def qC(hc:X.calm=true)(S:rY X scope ix N')(hi:I3 X tg iter wi)(hg:∀{C s0 H0 ex},G3 (X.comp scope N' C s0 H0 ex) tg g)(ht:∀{C s0 H0 ex},F3 (X.comp scope N' C s0 H0 ex) Xn tt)(he:∀{C s0 H0 ex},E3 (X.comp scope N' C s0 H0 ex) XE te) (hs:∀x,foldedSetIterable iter X.env x=pure x:=by intro _;rfl):E3 X (.ListComp XE [⟨tg,iter,Xn,0⟩] scope pos) (Lm ix wi g tt te):=PE.mono (Qc (g:=UY X.K g) (tt:=SX X.K tt) (te:=lo X.K te) hc S hi (λ_ _ _ _=>hg) (λ_ _ _ _=>ht) (λ_ _ _ _=>he) hs) IB
def wJ{i:Nat}{x:Str}{px Ys:Pos}(hN:X.N.Nodup)(ZE:X.N[i]?=some x)(hx:KQ X.env.scope x)(hc:X.calm=true)(S:rY X scope ix N')(hi:I3 X tg iter wi)(hg:∀{C s0 H0 ex},G3 (X.comp scope N' C s0 H0 ex) tg g)(ht:∀{C s0 H0 ex},F3 (X.comp scope N' C s0 H0 ex) Xn tt) (he:∀{C s0 H0 ex},E3 (X.comp scope N' C s0 H0 ex) XE te) (Yh:swapsWith (.ListComp XE [⟨tg,iter,Xn,0⟩] scope pos) (some (.Name x px)) Ys.line X.env=pure true:=by rfl)
  (hf:KO X x:=by first|exact .inl rfl|exact .inr rfl|assumption) (hs:∀x,foldedSetIterable iter X.env x=pure x:=by intro _;rfl):
  S3 X (.Assign [.Name x px] (.ListComp XE [⟨tg,iter,Xn,0⟩] scope pos) Ys) (GX (Lm ix wi g tt te) (uG i)):=PS.nK (Hu (g:=UY X.K g) (tt:=SX X.K tt) (te:=lo X.K te) hN ZE hx hc S hi (λ_ _ _ _=>hg) (λ_ _ _ _=>ht) (λ_ _ _ _=>he) Yh hf hs) λD' σ H hl zz=>KP zz λδ M D hs hm ht k1 k2 k3 k4=>
 IB σ H _ ⟨δ,M,_,hs,hm,ht,λv H1 d M1 hd WP e1 q1=>k1 _ H1 _ M1 ((hs.mono e1).set hd (by rw[hl];exact(cX.mp ZE).1)) WP e1 (by simp) q1⟩
def We{A:Ar}{k:Nat}(hr:rM k A):A.units+9<cLine:=by have:=hr.units;omega
def Ib(sc:Scope)(N:List Str)(scope:Scope)(ix:List (Option Nat))(N':List Str):Bool:=
 (scope.kind==.function)&&(scope.names.all λy=>!(y.2==.cell))&&(scope.names.all λy=>!(y.2==.local)||(scope.names.lookup y.1==some .local))&&
 (scope.names.all λy=>!(y.2==.free)||(sc.names.lookup y.1==some .cell)||(sc.names.lookup y.1==some .free))&&(ix.length==N'.length)&&
 ((ix.zip N').all λp=>match p.1 with|none=>true|some i=>(N[i]?==some p.2)&&(scope.names.lookup p.2==some .free))
def Ub{X:Cx}{scope:Scope}{ix:List (Option Nat)}{N':List Str}(h:Ib X.env.scope X.N scope ix N'=true):rY X scope ix N':=by
 unfold Ib at h;simp only[dW]at h;obtain⟨⟨⟨⟨⟨h1,h2⟩,h3⟩,h4⟩,h5⟩,h6⟩:=h;refine⟨by simpa using h1,λy hy e=>?_,λy hy e=>?_,λy hy e=>?_,by simpa using h5,λj i x e1 e2=>?_⟩
 .have:=eF.mp h2 y hy;rw[e]at this;simp at this
 .have:=eF.mp h3 y hy;rw[e]at this
  simpa using this
 .have:=eF.mp h4 y hy;rw[e]at this
  simpa using this
 .have hm:(some i,x)∈ix.zip N':=by
   have:(ix.zip N')[j]?=some (some i,x):=by rw[ik];exact⟨e1,e2⟩
   exact fk this
  have:=eF.mp h6 _ hm
  simpa using this
section
variable {a b:Expr}
def Jx(op XD:CmpOp)(ta tb tc:T3):T3:=λδ M Q=>ta δ M λx M1=>tb δ M1 λy M2=>Pc op x y M2 λz M3=>match z with
 | .bl k=>if k=true then tc δ M3 λw M4=>Pc XD y w M4 Q else Q (.bl false) M3
 | _=>False
def ub{op XD:CmpOp}(hu:X.A.units+9<cLine)(ha:E3 X a ta)(hb:E3 X b tb)(hc:E3 X c tc)(hmk:lastMarks [op,XD] [b,c]=false:=by rfl):
  E3 X (.Compare a [op,XD] [b,c] pos) (Jx op XD ta tb tc):=PE.mono (MI (Kl op hu) (Kl XD hu) ha hb hc hmk) λσ H Q' zz=>x7 zz λδ M Q hs hm ht k=>
 ⟨δ,M,_,hs,hm,ht,λv H1 x M1 hx WP e1 q1=>⟨δ,M1,_,hs.mono e1,WP,q1,λu H2 y M2 hy W7 e2 q2=>⟨x,y,M2,_,hx.mono e2,hy,W7,q2,λw H3 z M3 hz XJ e3 q3=>by
  cases z with
  | bl c=>
   refine⟨c,hz.mJ,?_⟩;cases c with
   | true=>refine(dg rfl).mpr ⟨δ,M3,_,hs.mono (e1.trans (e2.trans e3)),XJ,(dg rfl).mp q3,λw' H4 d M4 hd hm4 e4 q4=>⟨y,d,M4,Q,hy.mono (e3.trans e4),hd,hm4,q4,uZ (e1.trans (e2.trans (e3.trans e4))) k⟩⟩
   | false=>exact(de dB).mpr (k _ H3 _ M3 .bl XJ (e1.trans (e2.trans e3)) ((de dB).mp q3))
  | _=>exact q3.elim⟩⟩⟩
def GE{op XD:CmpOp}(hu:X.A.units+9<cLine)(ha:E3 X a ta)(hb:E3 X b tb)(hc:E3 X c tc)(hmk:lastMarks [op,XD] [b,c]=false:=by rfl):
  B3 X (.Compare a [op,XD] [b,c] pos) (b3 (Jx op XD ta tb tc)):=PT.mono (Nr (Kl op hu) (Kl XD hu) ha hb hc hmk) λσ H Q' zz=>x7 zz λδ M Q hs hm ht k=>
 ⟨δ,M,_,hs,hm,ht,λv H1 x M1 hx WP e1 q1=>⟨δ,M1,_,hs.mono e1,WP,q1,λu H2 y M2 hy W7 e2 q2=>⟨x,y,M2,_,hx.mono e2,hy,W7,q2,λw H3 z M3 hz XJ e3 q3=>by
  cases z with
  | bl c=>
   refine⟨c,hz.mJ,?_⟩;cases c with
   | true=>
    refine(dg rfl).mpr ⟨δ,M3,_,hs.mono (e1.trans (e2.trans e3)),XJ,(dg rfl).mp q3,λw' H4 d M4 hd hm4 e4 q4=>⟨y,d,M4,_,hy.mono (e3.trans e4),hd,hm4,q4,λw5 H5 d5 M5 hd5 hm5 e5 q5=>?_⟩⟩;cases d5 with
    | bl c5=>exact⟨c5,hd5.mJ,k c5 H5 M5 hm5 (e1.trans (e2.trans (e3.trans (e4.trans e5)))) q5⟩
    | _=>exact q5.elim
   | false=>exact(de dB).mpr ⟨false,rfl,k false H3 M3 XJ (e1.trans (e2.trans e3)) ((de dB).mp q3)⟩
  | _=>exact q3.elim⟩⟩⟩
structure TN(K:ql)(C:Addr):Prop where
 ha:W.findIn K (.ref C) "__class__"=some (some (.builtin "object.__class__"))
 hn:W.specialIn K (.builtin "object.__class__") "__get__"=some (some (.builtin "getset_descriptor.__get__"))
 htk:W.takesIn K (.builtin "object.__class__")=some true
 hm:W.mroIn K C (.type "object")=some true
def Fu:Option uT->Option Vl
 | some (.lst _)=>some (.type "list")
 | some (.ins C _)=>some (.ref C)
 | some (.dk _)=>some (.type "dict")
 | some (.exc _)=>none
 | none=>none
def U6(M:Mp):D->Option Vl
 | .mH=>some (.type "NoneType")
 | .bl _=>some (.type "bool")
 | .int _=>some (.type "int")
 | .str _=>some (.type "str")
 | .tup _=>some (.type "tuple")
 | .ref a=>Fu (M a)
 | .ty _=>none
 | .rl _=>some (.type "list")
def Vk:D->Option Vl
 | .ref C=>some (.ref C)
 | .ty n=>some (.type n)
 | _=>none
def QG(K:ql)(ds:List D)(M:Mp)(Q:DK):Prop:=match ds with
 | [x,c]=>(U6 M x).elim False λt=>(Vk c).elim False λcv=>(∀C,t=.ref C->TN K C)/\(W.kitOne K t cv).elim False λb=>Q (.bl b) M
 | _=>False
def Dk:C3 X (.builtin "isinstance") (QG X.K):=by
 intro WN s σ H vs us Q' I rv h;obtain⟨ds,M,Q,hd,hm,q,k⟩:=h;unfold QG at q;split at q
 .rename_i x c;obtain⟨v,u,rfl,hv,hw⟩:=AZ hd;obtain⟨t,et,q⟩:=qT q;obtain⟨cv,ec,hC,q⟩:=qT q;obtain⟨b,eb,qb⟩:=qT q;obtain⟨uv,uw,rfl,Y0,rv2⟩:=MF rv;have ecv:uw=cv:=by
   cases c with
   | ref C=>cases hw.mF;cases ec;exact rv2
   | ty n=>cases hw.nN;cases ec;exact rv2
   | _=>cases ec
  subst ecv;have WR:∀tk,EP X WN σ Q' (.bool b) {s with toks:=tk}:=λtk=>⟨.bl b,H,I.tok tk,rfl,k _ _ _ _ .bl hm .refl qb⟩;cases x with
  | mH=>cases hv.mI;cases et;exact uy I Y0 .mH eb WR
  | bl y=>cases hv.mJ;cases et;exact uy I Y0 (.bl y) eb WR
  | int y=>cases hv.int_inv;cases et;exact uy I Y0 (.int y) eb WR
  | str y=>cases hv.str_inv;cases et;exact uy I Y0 (.str y) eb WR
  | tup ds=>obtain⟨a,xs,rfl,h1,h2⟩:=hv.mM;cases et;cases Y0;obtain⟨its,r,p,_⟩:=I.tuple h1;obtain⟨o,g1,g2,_⟩:=p;exact gp W.kitx_tuple I.mY ⟨o,g1,g2⟩ eb (λz=>nomatch z) WR
  | ref a=>
   cases hv.mF;have et:Fu (M a)=some t:=et;cases e:M a with
   | none=>rw[e]at et;cases et
   | some cell=>
    rw[e]at et;have ok:=hm a cell e;cases cell with
    | lst ds=>cases et;obtain⟨xs,e1,_⟩:=ok;exact uy I Y0 (.lst e1) eb WR
    | ins C fs=>cases et;obtain⟨dx,vs,e1,cl,_⟩:=ok;obtain⟨i1,i2,i3,i4⟩:=hC C rfl;exact uy I Y0 (.ins e1 cl i1 i2 i3 i4) eb WR
    | dk kvs=>cases et;obtain⟨vs,e1,_⟩:=ok;exact uy I Y0 (.dK e1) eb WR
    | exc C=>cases et
  | ty n=>cases et
  | rl ds=>obtain⟨p,xs,rfl,h1,h2⟩:=hv.mW;cases et;cases Y0;obtain⟨its,r,⟨o,n,g1,g2,_⟩,_⟩:=I.list h1.sq;exact gp lw I.mY ⟨o,g1,g2⟩ eb (λz=>nomatch z) WR
 .exact q.elim
def Gf:List D->Option (List Bool)
 | []=>some []
 | .bl b::r=>(Gf r).map (b::·)
 | _::_=>none
theorem Fg{K:ql}{H:Hp}:∀{ds:List D} {bs:List Bool} {xs:List V} {us:List Vl},Gf ds=some bs->qa K H ds xs->qw xs us->us=bs.map Value.bool
 | [],bs,xs,us,e,h,r=>by cases e;have:=h.nil_inv;subst this;cases r;rfl
 | d::ds,bs,xs,us,e,h,r=>by
  cases d with
  | bl b=>
   obtain⟨y,ys,rfl,h1,h2⟩:=h.inv;cases h1.mJ;unfold Gf at e;cases q:Gf ds with
   | none=>rw[q]at e;cases e
   | some cs=>
    rw[q]at e;cases e;cases r with
    | cons r1 r2=>cases r1;rw[Fg q h2 r2];rfl
  | _=>cases e
def Um(ds:List D)(M:Mp)(Q:DK):Prop:=match ds with
 | [.ref a]=>(oJ M a).elim False λes=>(Gf es).elim False λbs=>Q (.bl (bs.all id)) M
 | _=>False
def Fh(hc:X.calm=true):C3 X (.builtin "all") Um:=by
 intro WN s σ H vs us Q' I rv h;obtain⟨ds,M,Q,hd,hm,q,k⟩:=h;unfold Um at q;split at q
 .rename_i a;obtain⟨v,rfl,hv⟩:=sd hd;obtain⟨es,e0,q⟩:=qT q;obtain⟨bs,e1,q⟩:=qT q;cases hv.mF;obtain⟨u,rfl,ru⟩:=ye rv;cases ru;obtain⟨xs,h1,h2,_⟩:=qo hm e0;obtain⟨its,r,pl,hz⟩:=I.list h1;have ZN:=Fg e1 h2 r;subst ZN;have Xd:a≠s.heap.objs.size:=by obtain⟨o,_,e,_⟩:=pl;exact dH (dA e)
  refine call_all_walk (gU pl.isList ?_);refine⟨s.heap.objs.size,_,_,_,_,_,λi=>(bs[i]?).getD true,rfl,kh (A:=X.A.in1) (I.ok.hd hc) _ a Xd (bs.map Value.bool).toArray,⟨⟨_,dG _ rfl,rfl,rfl⟩,?_⟩,λi v s' Q E hP hQ=>?_,λh' tk hk=>?_⟩
  .obtain⟨o,n,e,c,d,q⟩:=pl;exact⟨o,df _ e,c,n,q⟩
  .simp only[iL,dD]at hP;cases e2:bs[i]? with
   | none=>rw[e2]at hP;cases hP
   | some b=>rw[e2]at hP;cases hP;have hQ:Q ((bs[i]?).getD true) s':=hQ;rw[e2]at hQ;exact fi hQ
  .have ea:(List.range (bs.map Value.bool).toArray.size).all (λi=>(bs[i]?).getD true)=bs.all id:=by
    rw[dz,cV];rw[gk,eF,eF];constructor
    .intro z b hb;obtain⟨i,hi,e⟩:=gM hb;have:=z i (gg.mpr hi);rw[cY hi,e]at this;exact this
    .intro z i hi;have Yl:=gg.mp hi;rw[cY Yl];exact z _ (h9 Yl)
   rw[ea];refine⟨.bl (bs.all id),H,?_,rfl,k _ _ _ _ .bl hm .refl q⟩;exact I.kept (h':=h') (t':=tk) λb o e=>hk b o (by simpa using dH (dA e)) (df _ e)
 .exact q.elim
def AM(x:D):List D->Option Nat
 | []=>none
 | d::r=>if PJ d x=true then some 0 else(AM x r).map (·+1)
theorem IF{K:ql}{H:Hp}{e:D}{w:V}(g:rD K H e w)(fe:uL e=true):∀{ds:List D} {xs:List V} {us:List Vl} {j:Nat},qa K H ds xs->qw xs us->ds.all uL=true->AM e ds=some j->
  ∃h:j<us.length,E6 w us[j]=true/\∀m (hm:m<us.length),m<j->E6 w us[m]=false
 | [],_,_,_,_,_,_,q=>by cases q
 | d::ds,_,us,j,h,r,fl,q=>by
  obtain⟨y,ys,rfl,h1,h2⟩:=h.inv;rw[eW,dW]at fl;cases r with
  | @cons _ u _ us' r1 r2=>
   have eu:E6 w u=PJ d e:=by rw[Ih r1 (zp h1 fl.1),IZ h1 g fl.1 fe]
   unfold AM at q;by_cases hq:PJ d e=true
   .rw[dg hq]at q;cases q;exact⟨by simp,by simpa [eu]using hq,λm _ hm=>absurd hm (Nat.not_lt_zero m)⟩
   .rw[de hq]at q;cases q2:AM e ds with
    | none=>rw[q2]at q;cases q
    | some j'=>
     rw[q2]at q;cases q;obtain⟨hl,e1,e2⟩:=IF g fe h2 r2 fl.2 q2;refine⟨by simpa using hl,by simpa using e1,λm hm W1=>?_⟩;cases m with
     | zero=>simpa [eu]using hq
     | succ m=>simpa using e2 m (by simpa using hm) (by have z:m+1<j'+1:=W1;omega)
def Rx(x:D)(ds:List D)(M:Mp)(Q:DK):Prop:=match x,ds with
 | .ref a,[y]=>(oJ M a).elim False λes=>uL y=true/\es.all uL=true/\(AM y es).elim False λj=>Q (.int (j:Nat)) M
 | _,_=>False
def M3(X:Cx)(id:String)(r:D->List D->Mp->DK->Prop):Prop:=Wu X id λvx vs H Q'=>∃x ds M Q,rD X.K H x vx/\qa X.K H ds vs/\HM X.K H M/\r x ds M Q/\Up X.K H Q' Q
def Ms:M3 X "list.index" Rx:=by
 intro WN s σ H vx vs v us Q' I rx rv h;obtain⟨x,ds,M,Q,hx,hd,hm,q,k⟩:=h;unfold Rx at q;split at q
 .rename_i a y;obtain⟨es,e0,f1,f2,q⟩:=qT q;obtain⟨j,e1,q⟩:=qT q;cases hx.mF;cases rx;obtain⟨w,rfl,hw⟩:=sd hd;obtain⟨u,rfl,ru⟩:=ye rv;obtain⟨xs,h1,h2,rd⟩:=qo hm e0;obtain⟨hz,its,n,r,g⟩:=rd.ok I.mO;obtain⟨hl,p1,p2⟩:=IF hw f1 h2 r f2 e1;have hlz:its.length<=sizeLine:=by rw[<-r.length];exact hz
  have h63:=yo;refine jq F.slot_list_index ⟨_,g,rfl⟩ F.entry_list_index (F.args_list_index_2 _ _) (SeqAt.list_indexAt a its.toArray n none #[] u (E6 w) j (by simpa using hl) (by omega) (by simpa using p1) λm hm W1=>by simpa using p2 m (by simpa using hm) W1) ⟨g,?_,?_⟩
  .intro z hz';exact we ru (zp hw f1) r (E5 h2 f2) z (by simpa using hz')
  .exact⟨.int (j:Nat),H,I.tok _,⟨_,rfl⟩,k _ _ _ _ .int hm .refl q⟩
 .exact q.elim
def Qm(M:Mp):D->Prop
 | .ref a=>(oJ M a).isSome=true
 | _=>False
def VX(r:D->List D->Mp->DK->Prop)(to:T3)(t:wY):T3:=λδ M Q=>to δ M λx M1=>Qm M1 x/\t δ M1 λds M2=>r x ds M2 Q
def So{K:ql}{H:Hp}{M:Mp}{x:D}{v:V}(hm:HM K H M)(h:rD K H x v)(l:Qm M x):VW K "list" v H:=by
 cases x with
 | ref a=>cases h.mF;obtain⟨ds,e⟩:=jy.mp (show(oJ M a).isSome=true from l);obtain⟨xs,h1,_⟩:=qo hm e;exact .inl ⟨rfl,xs,h1⟩
 | _=>exact l.elim
def Qq{id:String}{name:Str}{r:D->List D->Mp->DK->Prop}(slot:Slot "list" name id)(hty:typeOf (.builtin id)=pure (.type "method_descriptor"))(hm:M3 X id r)(ho:E3 X o ta)(ha:A3 X (e::es) t) (W0:attributeBase o name X.env (eval o X.env)=eval o X.env:=by rfl)
  (X4:((backTo pos (starEach (e::es) X.env)).all (λx=>!x.1)&&(backToKw pos (keywordEach [] X.env)).all (λx=>x.1.isSome)
   &&decide ((e::es).length+([]:List Keyword).length+(if ([]:List Keyword).isEmpty then 0 else 1)<30))=true:=by rfl)
  (Xb:(WQ.endLine==pos.line)=true:=by rfl) (hs:AH X e es:=by rfl) (W6:Cw X pos es:=by rfl):
  E3 X (.Call (.Attribute o name WQ) (e::es) [] pos) (VX r ta t):=PE.mono (Ts PySem.F.plainAttrs_list slot hty hm ho ha W0 X4 Xb hs W6) λσ H Q' zz=>x7 zz λδ M Q hs hm ht k=>
 ⟨δ,M,_,hs,hm,ht,λv H1 x M1 hx WP e1 q1=>⟨So WP hx q1.1,δ,M1,_,hs.mono e1,WP,q1.2,λvs H2 ds M2 X3 W7 e2 q2=>⟨x,ds,M2,Q,hx.mono e2,X3,W7,q2,uZ (e1.trans e2) k⟩⟩⟩
def xw(ho:E3 X o ta)(ha:A3 X (e::es) t) (W0:attributeBase o "index" X.env (eval o X.env)=eval o X.env:=by rfl)
  (X4:((backTo pos (starEach (e::es) X.env)).all (λx=>!x.1)&&(backToKw pos (keywordEach [] X.env)).all (λx=>x.1.isSome)
   &&decide ((e::es).length+([]:List Keyword).length+(if ([]:List Keyword).isEmpty then 0 else 1)<30))=true:=by rfl)
  (Xb:(WQ.endLine==pos.line)=true:=by rfl) (hs:AH X e es:=by rfl) (W6:Cw X pos es:=by rfl):
  E3 X (.Call (.Attribute o "index" WQ) (e::es) [] pos) (VX Rx ta t):=Qq PySem.F.slot_list_index PySem.F.type_list_index Ms ho ha W0 X4 Xb hs W6
structure L'(K:ql)(C:Addr)(m:Str)(f:Addr):Prop where
 hg:W.specialIn K (.ref C) "__getattribute__"=some (some (.builtin "type.__getattribute__"))
 rd:W.readsIn K C (.type "type")=true
 fc:W.findCls K (.ref C) (.type "type") m=some (.val (.ref f))
def OO{sp:Sp}{t:TA}{pl:Sem Bool}(cm:L' X.K C m f)(F:xb X.prog X.w X.K X.mg X.base NI k f fd ps sp)(hr:rM k X.A)(hg:Gl X x)(hm:X.mg x=some (.ref C))(hk:W.keepIn X.K (.ref f)=true)(hb:uq X.K fd ps [])(ha:PA X (e::es) t) (W5:yk x:=by decide) (Xc:AH X e es:=by rfl) (W4:Cw X pos es:=by rfl)
  (ht:eval (.Call (.Attribute (.Name x p) m WQ) (e::es) [] pos) X.env=(do
   let ov<-eval (.Name x p) X.env
   standAt WQ.atName
   let(f,first)<-holding [ov] (getMethod ov m pl)
   callWith pos f first (backTo pos (starEach (e::es) X.env)) (backToKw pos (keywordEach [] X.env))):=by rfl):
  PE X (.Call (.Attribute (.Name x p) m WQ) (e::es) [] pos) (λσ H Q=>t σ H λvs H1=>sp vs H1 Q E0):=by
 intro WN s σ H Q I h;refine jT (pl:=pl) (wK I hg hm ?_ W5) ht;refine W.method_cls I.mY cm.hg (W.cls_value I.mY cm.rd cm.fc rfl ?_);refine iN (first:=[]) (h₀:=X.base) I.ok.mod.oz hk (su (ha pos WN _ σ H _ (I.tok _) h) λus s2 zz=>x5 zz λvs H2 I2 r q2=>⟨I2.mY,?_⟩) Xc W4;exact EZ F hr hb .nil (Gk (X:=X)) I2 r (by rw[eO];exact q2)
def PN{pl:Sem Bool}(cm:L' X.K C m f)(F:S6 X.prog X.w X.K X.mg X.base k f fd ps sp)(hr:rM k X.A)(hg:Gl X x)(hm:X.mg x=some (.ref C))(hk:W.keepIn X.K (.ref f)=true)(hb:uq X.K fd ps [])(ha:A3 X (e::es) t) (W5:yk x:=by decide) (Xc:AH X e es:=by rfl) (W4:Cw X pos es:=by rfl)
  (ht:eval (.Call (.Attribute (.Name x p) m WQ) (e::es) [] pos) X.env=(do
   let ov<-eval (.Name x p) X.env
   standAt WQ.atName
   let(f,first)<-holding [ov] (getMethod ov m pl)
   callWith pos f first (backTo pos (starEach (e::es) X.env)) (backToKw pos (keywordEach [] X.env))):=by rfl):
  E3 X (.Call (.Attribute (.Name x p) m WQ) (e::es) [] pos) (DA sp t):=PE.mono (OO cm F hr hg hm hk hb ha W5 Xc W4 ht) λσ H Q' zz=>x7 zz λδ M Q hs hm ht k=>
 ⟨δ,M,_,hs,hm,ht,λvs H1 ds M1 hd WP e1 q1=>⟨ds,M1,Q,hd,WP,q1,uZ e1 k⟩⟩
def qm:bootBuiltins "len"=some (.builtin "len"):=by decide+kernel
def LB:bootBuiltins "min"=some (.builtin "min"):=by decide+kernel
def yj:bootBuiltins "isinstance"=some (.builtin "isinstance"):=by decide+kernel
def D4:bootBuiltins "all"=some (.builtin "all"):=by decide+kernel
def sj:bootBuiltins "tuple"=some (.type "tuple"):=by decide+kernel
def rN:bootBuiltins "list"=some (.type "list"):=by decide+kernel
def Fz:bootBuiltins "dict"=some (.type "dict"):=by decide+kernel
def Eu:bootBuiltins "enumerate"=some (.type "enumerate"):=by decide+kernel
def Rh:bootBuiltins "zip"=some (.type "zip"):=by decide+kernel
end
theorem _root_.L2.Inv.drawn{ch:List Addr}{T:Addr}{xs:List V}{its:List Vl}{h':Heap}{tk:Nat}(I:Inv X WN σ H s)(XN:∀b∈ch,AC X WN H b)(k:∀b o,b∉ch->s.heap.get? b=some o->h'.get? b=some o)(hT:s.heap.objs.size<=T)(hx:xs.length<=sizeLine) (rv:qw xs its) (ht:D7 h' T its.toArray):Inv X WN σ (upd H T (.tup xs)) {s with heap:=h',toks:=tk}:=by
 have Y1:H T=none:=I.mO.fresh hT;have nT:∀b o,s.heap.get? b=some o->b≠T:=λb o e=>dH (dR (dA e) hT);refine I.step (g':=s.gens) (d':=s.drawn) (ch:=ch) (λb hb=>⟨(XN b hb).2.2.2.1,(XN b hb).2.1,(XN b hb).2.2.2.2.1,(XN b hb).2.2.2.2.2⟩) (λb o _ _ hc e _=>k b o hc e) (λb o _ _ hc e _=>⟨o.slots,k b o hc e⟩) (λb o _ e n=>by rw[pZ (nT b o e)];exact n)
  (λb o hc e=>⟨o,k b o hc e⟩) (λb ys e=>by rw[pZ (qJ e Y1)];exact e) (λb o u e=>by rw[pZ (qJ e Y1)];exact e) (λb ps e=>⟨#[],by rw[pZ (qJ e Y1),e];simp⟩) (λm hm=>?_) (λb u e=>?_) I.bare
 .obtain⟨o,es,ep,ho,r⟩:=hm;exact⟨o,es,ep,k _ o (λz=>(XN _ z).2.1 rfl) ho,r⟩
 .by_cases hb:b=T
  .subst hb;rw[qe]at e;cases e;exact⟨hx,its,rv,ht⟩
  .rw[pZ hb]at e;refine(I.mO b u e).nj (λc v hc q=>k c v (λz=>?_) q) (λc q=>by rw[pZ (qJ q Y1)];exact q) (λc ys q=>by rw[pZ (qJ q Y1)];exact q);have n:=(XN c z).1;rcases hc with y|y
   .rw[y,e]at n;cases n
   .rw[y]at n;cases n
def Vm(K:ql)(a:Addr):It:=
 ⟨λi H=>∃xs x,yR K H a xs/\xs[i]?=some x,λi H x H'=>∃p y,x=.ref p/\H p=none/\H'=upd H p (.tup [.int (i:Nat),y])/\∀xs,yR K H a xs->xs[i]?=some y,λi H=>∃xs,yR K H a xs/\xs.length<=i⟩
def J6{P:Pg}{w:Wo}{K:ql}{Xo:List Expr}{n:Nat}{tp:Pos}(a e it:Addr)(hei:e≠it):GM P w K (.Tuple Xo n tp) (Vm K a) [e,it] e (λi h=>(∃old,IsEnum h e it (i:Nat) old)/\h.IsListIter it a i) where
 mem:=by simp
 obj:=λi h st b hb=>by
  obtain⟨⟨old,he⟩,o,e1,c,d⟩:=st;rcases dh.mp hb with rfl|hb
  .exact⟨_,he,λv z=>by cases z⟩
  .rw[dv.mp hb];exact⟨o,e1,λv z=>by rw[d]at z;cases z⟩
 keep:=λi h h' st k=>by obtain⟨⟨old,he⟩,hi⟩:=st;exact⟨⟨old,k e (by simp) _ he⟩,hi.at λo q=>k it (by simp) o q⟩
 item:=by
  intro X hP hw hK hc i WN s σ H E I hf st hg;subst hP hw hK;obtain⟨xs,x,hq,hx⟩:=hg;obtain⟨its,rv,p,hz⟩:=I.list hq;obtain⟨u,hu,ru⟩:=rv.get hx;obtain⟨⟨old,he⟩,hi⟩:=st;refine wpAny_pyNext_enum_item he hi p.isList (x:=u) (by simpa using hu) hei λh1 ho Xz hT hsz hk=>?_;refine⟨_,rfl,wpAny_letOwnedTupleGo_enum ho λh2 he2 XY=>?_⟩;have helt:e<s.heap.objs.size:=dA he;have hilt:it<s.heap.objs.size:=by obtain⟨o,q,_⟩:=hi;exact dA q
  have kk:∀b o,b∉[e,it]->s.heap.get? b=some o->h2.get? b=some o:=λb o hb q=>(XY.2 b λz=>hb (by simp[z])).trans (hk b o (λz=>hb (by simp[z])) (λz=>hb (by simp[z])) q);have hT2:h2.get? s.heap.objs.size=some {cls:=.type "tuple",data:=.seq #[.int (i:Nat) s.toks,u]}:=(XY.2 _ (gJ helt)).trans hT;have Y1:H s.heap.objs.size=none:=I.mO.fresh (dw _);have I2:=I.drawn (ch:=[e,it]) (T:=s.heap.objs.size) (xs:=[.int (i:Nat),x]) (its:=[.int (i:Nat) s.toks,u]) (h':=h2) (tk:=s.toks+1) hf kk (dw _) (by show 2<=sizeLine;decide) (.cons ⟨_,rfl⟩ (.cons ru .nil)) ⟨_,hT2,rfl,⟨_,rfl⟩,rfl⟩;refine⟨.ref s.heap.objs.size,_,I2,rfl,⟨_,x,rfl,Y1,rfl,λys hy=>by rw[I.nM hy hq];exact hx⟩,⟨⟨_,by simpa using he2⟩,Xz.extBut XY.extBut (dO hei)⟩,λb hb=>?_⟩;have XF:b<s.heap.objs.size:=by
   rcases dh.mp hb with z|z
   .rw[z];exact helt
   .rw[dv.mp z];exact hilt
  rw[pZ (dH XF)];exact(hf b hb).1
 done:=by intro X hP hw hK hc i WN s σ H E I hf st hg;subst hP hw hK;obtain⟨xs,hq,hx⟩:=hg;obtain⟨its,rv,p,hz⟩:=I.list hq;obtain⟨⟨old,he⟩,hi⟩:=st;have hl:=rv.length;obtain⟨f0,f1,f2,f3,f4,f5⟩:=hf it (by simp);exact wpAny_pyNext_enum_end (I.ok.hd hc) he hi p.isList (by simp;omega) λh' eb=>⟨rfl,I.turned (t':=s.toks) (λb o hb q=>eb b o hb q) f0 f1 f3 f4 f5⟩
 self:=λ_ _ _ _ _ st h=>by obtain⟨⟨old,he⟩,_⟩:=st;exact lq he h
variable {tp:Pos}{Xo:List Expr}{n:Nat}
def PR{a:Expr}{ta:TA}(hg:Gl X "enumerate")(hm:X.mg "enumerate"=none)(ha:PA X [a] ta)(hs:starEach [a] X.env=[(false,eval a X.env)]:=by rfl):
  PI X (.Tuple Xo n tp) (.Call (.Name "enumerate" p) [a] [] pos) (λσ H R=>ta σ H λvs H1=>∃l,vs=[.ref l]/\(∃xs,yR X.K H1 l xs)/\R (Vm X.K l) H1):=by
 intro WN s σ H R I h;refine Call_ (vO I hg hm Eu (fL (su (ha pos WN s σ H _ I h) λus s1 zz=>x5 zz λvs H1 I1 r1 q1=>?_) hs rfl));obtain⟨l,e,⟨xs,hq⟩,q⟩:=q1;subst e;obtain⟨u,rfl,ru⟩:=ye r1;cases ru;obtain⟨its,rv,pl,hz⟩:=I1.list hq;refine call_enumerate_list pl.isList λh' he hi hsz hk=>?_;refine lq he ?_;have I2:Inv X WN σ H1 {s1 with heap:=h'}:=I1.kept (t':=s1.toks) hk;refine⟨s1.heap.objs.size+1,[s1.heap.objs.size+1,s1.heap.objs.size],_,_,H1,rfl,I2,J6 l _ _ (Nat.succ_ne_self _),⟨⟨_,he⟩,hi⟩,λb hb=>?_,q⟩;have XF:s1.heap.objs.size<=b:=by
  rcases dh.mp hb with z|z
  .rw[z];exact gT _
  .rw[dv.mp z];exact dw _
 exact I1.nP XF (I1.mO.fresh XF)
def ul:Nat->List D->List D
 | _,[]=>[]
 | i,d::r=>.tup [.int (i:Nat),d]::ul (i+1) r
theorem zj:∀{ds:List D} {i j:Nat},(ul j ds)[i]?=(ds[i]?).map λd=>D.tup [.int ((j+i:Nat):Int),d]
 | [],i,j=>by simp[ul]
 | d::r,0,j=>by simp[ul]
 | d::r,i+1,j=>by show(ul (j+1) r)[i]?=_;rw[zj];simp only[List.getElem?_cons_succ];rw[show j+1+i=j+(i+1)by omega]
theorem vg:∀{ds:List D} {j:Nat},(ul j ds).length=ds.length
 | [],j=>rfl
 | d::r,j=>by simp[ul,vg]
def MU{K:ql}{H1:Hp}{a:Addr}{ds:List D}:G1 K H1 (Vm K a) (ul 0 ds) (λM=>oJ M a=some ds) where
 go:=λi H M hi hm ok _=>by rw[vg]at hi;obtain⟨xs,h1,h2,_⟩:=qo hm ok;obtain⟨x,e,_⟩:=h2.get (cY hi);exact⟨xs,x,h1,e⟩
 oN:=λi d H M x H' hd hm ok _ y=>by
  obtain⟨xs,h1,h2,_⟩:=qo hm ok;obtain⟨p,z,rfl,hp,rfl,y⟩:=y;rw[zj]at hd;cases e:ds[i]? with
  | none=>rw[e]at hd;cases hd
  | some d'=>rw[e]at hd;cases hd;obtain⟨x',e',hx⟩:=h2.get e;have w1:=y xs h1;rw[e']at w1;have w2:x'=z:=dn w1;subst w2;have ex:qK K H (upd H p (.tup [.int (i:Nat),x'])):=.new hp;refine⟨.tup (.of qe) (.cons (by rw[mq];exact .int) (.cons (hx.mono ex) .nil)),hm.add hp,ex⟩
 stop:=λH M hm ok _=>by obtain⟨xs,h1,h2,_⟩:=qo hm ok;exact⟨xs,h1,by rw[vg,h2.length];exact dw _⟩
def Rc(t:wY):NG:=λδ M R=>t δ M λds M1=>match ds with
 | [.ref a]=>(oJ M1 a).elim False λes=>R (ul 0 es) (λM=>oJ M a=some es) M1
 | _=>False
def wI{a:Expr}{ta:wY}(hg:Gl X "enumerate")(hm:X.mg "enumerate"=none)(ha:A3 X [a] ta)(hs:starEach [a] X.env=[(false,eval a X.env)]:=by rfl):I3 X (.Tuple Xo n tp) (.Call (.Name "enumerate" p) [a] [] pos) (Rc ta):=
 PI.mono (PR hg hm ha hs) λσ H R' zz=>x7 zz λδ M R hs hm ht k=>⟨δ,M,_,hs,hm,ht,λvs H1 ds M1 hd WP e1 q1=>by
  split at q1
  .obtain⟨v,rfl,hv⟩:=sd hd;cases hv.mF;obtain⟨es,e0,q⟩:=qT q1;obtain⟨xs,h1,h2,_⟩:=qo WP e0;exact⟨_,rfl,⟨xs,h1⟩,k _ H1 _ _ M1 MU WP e1 e0 q⟩
  .exact q1.elim⟩
variable {prog:Pg}{A:Ar}{E:Vl→Sd→Prop}
def Hm{it t:Addr}{i:Nat}{its:Array Vl}{x:Vl}{Q:Vl->Sd->Prop}(hi:s.heap.IsTupleIter it t i)(ht:s.heap.IsTuple t its)(hx:its[i]?=some x) (hQ:∀g,g.IsTupleIter it t (i+1)->Heap.SameBut it s.heap g->Q x {s with heap:=g}):wpAny (model prog w) A (Builtin.SmallTypes.nextOf (.ref it)) Q E s:=by
 obtain⟨ob,e1,e2,e3⟩:=id hi;obtain⟨ot,e4,_,nt,e5⟩:=ht;unfold Builtin.SmallTypes.nextOf;refine cW (fN (name:=Str.ofString "__next__") hi.typeIs gF (fT gF hi.typeIs jf ?_ (ja _)));show wpAny (model prog w) _ (field (.ref it) 0>>=_) _ _ s;refine cW (fh e1 e3 (x:=.ref t) rfl ?_);show wpAny (model prog w) _ (if (Value.ref t==Value.none)=true then _ else _) _ _ s;rw[de (show ¬(Value.ref t==Value.none)=true from dB)];show wpAny (model prog w) _ (field (.ref it) 1>>=_) _ _ s;refine cW (fh e1 e3 (x:=.int i 0) rfl ?_);show wpAny (model prog w) _ (seqItems? (.ref t)>>=_) _ _ s;refine cW (gy e4 e5 ?_);simp only[jk,hx];refine cW (hJ e1 e3 (by simp) (dq ⟨x,rfl,dq (hQ _ ⟨_,fH _ e1 (Obj.isFreed_of_fields (kP e3 _)),(Obj.cls_mapFields ..).trans e2,?_⟩ (kB ..))⟩));rw[kP e3];simp[rawInt]
def BW{it t:Addr}{i:Nat}{its:Array Vl}{Q:Vl->Sd->Prop}(hh:A.handled=none)(hi:s.heap.IsTupleIter it t i)(ht:s.heap.IsTuple t its)(hx:its[i]?=none) (hE:∀g e,Heap.ExtBut it s.heap g->(∃o,g.get? e=some o/\o.cls=.type "StopIteration")->E (.ref e) {s with heap:=g}):wpAny (model prog w) A (Builtin.SmallTypes.nextOf (.ref it)) Q E s:=by
 obtain⟨ob,e1,e2,e3⟩:=id hi;obtain⟨ot,e4,_,nt,e5⟩:=ht;unfold Builtin.SmallTypes.nextOf;refine cW (fN (name:=Str.ofString "__next__") hi.typeIs gF (fT gF hi.typeIs jf ?_ (ja _)));show wpAny (model prog w) _ (field (.ref it) 0>>=_) _ _ s;refine cW (fh e1 e3 (x:=.ref t) rfl ?_);show wpAny (model prog w) _ (if (Value.ref t==Value.none)=true then _ else _) _ _ s;rw[de (show ¬(Value.ref t==Value.none)=true from dB)];show wpAny (model prog w) _ (field (.ref it) 1>>=_) _ _ s;refine cW (fh e1 e3 (x:=.int i 0) rfl ?_);show wpAny (model prog w) _ (seqItems? (.ref t)>>=_) _ _ s;refine cW (gy e4 e5 ?_);simp only[jk,hx];refine cW (kg (cW (hJ e1 e3 (by simp) ?_)));show wpAny (model prog w) _ (newExc (.type "StopIteration") []>>=_) _ _ _;refine cW ?_;simp only[newExc,newTuple];refine cW (fU ?_ (by size_fits));refine cW (m:=firstArgMember _ _) (wpAny_of_eq (a:=Value.none) (by first|rfl|(simp only[firstArgMember];rfl)) ?_);refine fU ?_ (by size_fits);simp only[raiseNew];refine cW (wpAny_handled ?_)
 first|rw[show A.in1.handled=none from hh]|rw[hh]
 refine cW (dq (wpAny_throw (hE _ _ (((kB ..).extBut.push _).push _) ⟨_,dG _ rfl,rfl⟩)))
def xX{prog:Pg}{w:Wo}{A:Ar}(hh:A.handled=none)(it t:Addr)(Xd:t≠it)(its:Array Vl):
  Draws prog w A it [it,t] its.size (λi v=>its[i]?=some v) (λi h=>h.IsTupleIter it t i/\h.IsTuple t its) where
 live:=λi h st=>let⟨o,ho,_⟩:=st.1;⟨o,ho⟩
 frame:=λi h g st hk=>by obtain⟨⟨o,e1,e2⟩,⟨o',e3,e4⟩⟩:=st;exact⟨⟨o,hk it (by simp) o e1,e2⟩,⟨o',hk t (by simp) o' e3,e4⟩⟩
 item:=λi s Q E hi st hQ=>Hm st.1 st.2 (x:=its[i]) (by simp[hi]) λg hg hs=>hQ _ g s.toks (by simp[hi]) ⟨hg,st.2.extBut hs.extBut Xd⟩ hs
 done:=λs Q E st hE=>BW hh st.1 st.2 (by simp) hE
structure zX(z TI TO i1 i2:Addr)(f1 f2:List Addr):Prop where
 a1:TI≠z
 a2:TO≠z
 a3:i1≠z
 a4:i2≠z
 a5:TI≠TO
 a6:TI≠i1
 a7:TI≠i2
 a8:TO≠i1
 a9:TO≠i2
 oX:i1≠i2
 b1:z∉f1
 b2:TO∉f1
 b3:i2∉f1
 c1:z∉f2
 c2:TO∉f2
 c3:i1∉f2
variable {z TI TO i1 i2:Addr}{f1 f2:List Addr}{n1 n2 k1 k2:Nat}{P1 P2:Nat→Vl→Prop}{S1 S2:Nat→Heap→Prop}
section
variable {a b:Vl}
def rV{fp:List Addr}{it:Addr}{n:Nat}{Pt:Nat->Vl->Prop}{St:Nat->Heap->Prop}(Dr:Draws prog w A it fp n Pt St){i:Nat}{h g:Heap}{c:Addr}(st:St i h)(hs:Heap.SameBut c h g)(hc:c∉fp):St i g:=
 Dr.frame _ _ _ st λd hd o e=>(hs.2 d λq=>hc (q ▸ hd)).trans e
def Kb{Q:Vl->Sd->Prop}(D1:Draws prog w A i1 f1 n1 P1 S1)(D2:Draws prog w A i2 f2 n2 P2 S2)(W9:zX z TI TO i1 i2 f1 f2)(hz:IsZip s.heap z TI TO .none)(hI:IsPair s.heap TI (.ref i1) (.ref i2))(hO:IsPair s.heap TO a b) (Xi:S1 k1 s.heap) (W8:S2 k2 s.heap) (l1:k1<n1) (l2:k2<n2) (hQ:∀x y g tk,P1 k1 x->P2 k2 y->IsZip g z TI TO (rawInt s.heap.objs.size)->IsPair g TO x y->S1 (k1+1) g->S2 (k2+1) g->IsPair g s.heap.objs.size x y->g.objs.size=s.heap.objs.size+1->
   (∀c o,c≠z->c≠TO->c≠i1->c≠i2->s.heap.get? c=some o->g.get? c=some o)->Q (.ref s.heap.objs.size) {s with heap:=g,toks:=tk}):
  wpAny (model prog w) A (Builtin.«zip.__next__» ⟨[.ref z],[]⟩) (λWR s'=>∃v,WR=.done (.ret v)/\Q v s') E s:=by
 show wpAny (model prog w) A (field (.ref z) 2>>=_) _ _ _;refine cW (fh hz rfl (x:=.bool false) rfl ?_);show wpAny (model prog w) A (field (.ref z) 3>>=_) _ _ _;refine cW (fh hz rfl (x:=.ref TI) rfl (cW (gy hI rfl ?_)));show wpAny (model prog w) A (Builtin.SmallTypes.ownedTupleIsFree (.ref z)>>=_) _ _ _;refine cW ?_;unfold Builtin.SmallTypes.ownedTupleIsFree;refine cW (fh hz rfl (x:=.none) rfl (dq ?_));simp only[iZ];refine cW (kg (cW (fh hz rfl (x:=.ref TO) rfl (cW (gB hz (by simp) λg1 z1 Yx=>?_)))));replace z1:IsZip g1 z TI TO .ellipsis:=z1;refine cW ?_;simp only[lN,lW,jP,jZ];refine cW (cW (jj ?_));show wpAny (model prog w) A (Builtin.SmallTypes.nextOf (.ref i1)>>=_) _ _ _;have Yy:S1 k1 g1:=rV D1 Xi Yx W9.b1;refine cW (D1.item k1 _ _ _ l1 Yy λx g2 tk2 px st1b XR=>dq ?_);replace XR:Heap.SameBut i1 g1 g2:=XR;have o2:IsPair g2 TO a b:=XR.extBut _ _ W9.a8 (Yx.extBut _ _ W9.a2 hO);refine cW (gy o2 rfl (cW (iQ o2 λg3 o3 XZ=>?_)));replace o3:IsPair g3 TO x b:=o3;replace XZ:Heap.SameBut TO g2 g3:=XZ;refine cW (lz (dq (cW (cW (jj ?_)))));show wpAny (model prog w) A (Builtin.SmallTypes.nextOf (.ref i2)>>=_) _ _ _;have Y2:S2 k2 g3:=rV D2 (rV D2 (rV D2 W8 Yx W9.c1) XR W9.c3) XZ W9.c2;refine cW (D2.item k2 _ _ _ l2 Y2 λy g4 tk4 py st2b YJ=>dq ?_);replace YJ:Heap.SameBut i2 g3 g4:=YJ;have o4:IsPair g4 TO x b:=YJ.extBut _ _ W9.a9 o3;refine cW (gy o4 rfl (cW (iQ o4 λg5 o5 YK=>?_)));replace o5:IsPair g5 TO x y:=o5;replace YK:Heap.SameBut TO g4 g5:=YK;refine cW (lz (dq (dq (cW (gy o5 rfl (cW (wpAny_newTuple ?_)))))));have esz:g5.objs.size=s.heap.objs.size:=by rw[YK.1,YJ.1,XZ.1,XR.1,Yx.1]
 have z5:IsZip g5 z TI TO .ellipsis:=YK.extBut _ _ W9.a2.symm (YJ.extBut _ _ W9.a4.symm (XZ.extBut _ _ W9.a2.symm (XR.extBut _ _ W9.a3.symm z1)));have kp:∀c o,c≠z->c≠TO->c≠i1->c≠i2->s.heap.get? c=some o->g5.get? c=some o:=λc o q1 q2 q3 q4 q=>YK.extBut _ _ q2 (YJ.extBut _ _ q4 (XZ.extBut _ _ q2 (XR.extBut _ _ q3 (Yx.extBut _ _ q1 q))));have st1c:S1 (k1+1) g5:=rV D1 (rV D1 (rV D1 st1b XZ W9.b2) YJ W9.b3) YK W9.b2;have st2c:S2 (k2+1) g5:=rV D2 st2b YK W9.c2;have zlt:z<g5.objs.size:=dA z5;show wpAny (model prog w) A (Builtin.SmallTypes.ownedTupleHandOut (.ref z) (.ref g5.objs.size)>>=_) _ _ _;refine cW ?_;unfold Builtin.SmallTypes.ownedTupleHandOut;have z6:IsZip (g5.push {cls:=.type "tuple",data:=.seq #[x,y]}) z TI TO .ellipsis:=df _ z5;refine cW (gB z6 (by simp) λg7 z7 sb7=>?_);replace z7:IsZip g7 z TI TO (rawInt g5.objs.size):=z7;refine gB z7 (by simp) λg8 z8 sb8=>?_;replace z8:IsZip g8 z TI TO (rawInt g5.objs.size):=z8;have up:∀c o,c≠z->g5.get? c=some o->g8.get? c=some o:=λc o q1 q=>sb8.extBut _ _ q1 (sb7.extBut _ _ q1 (df _ q));have tu:IsPair g8 g5.objs.size x y:=sb8.extBut _ _ (gJ zlt) (sb7.extBut _ _ (gJ zlt) (dG _ rfl));have es8:g8.objs.size=g5.objs.size+1:=by rw[sb8.1,sb7.1,fm]
 rw[esz]at z8 tu es8;refine dq ⟨_,rfl,?_⟩;show Q (.ref g5.objs.size) _;rw[esz];exact hQ x y g8 _ px py z8 (up _ _ W9.a2 o5) (D1.frame _ _ _ st1c λc hc o q=>up c o (λr=>W9.b1 (r ▸ hc)) q) (D2.frame _ _ _ st2c λc hc o q=>up c o (λr=>W9.c1 (r ▸ hc)) q) tu es8 λc o q1 q2 q3 q4 q=>up c o q1 (kp c o q1 q2 q3 q4 q)
def K8{Q:Fin->Sd->Prop}(D1:Draws prog w A i1 f1 n1 P1 S1)(D2:Draws prog w A i2 f2 n2 P2 S2)(W9:zX z TI TO i1 i2 f1 f2)(hz:IsZip s.heap z TI TO .none)(hI:IsPair s.heap TI (.ref i1) (.ref i2))(hO:IsPair s.heap TO a b) (Xi:S1 k1 s.heap) (W8:S2 k1 s.heap) (ZO:k1=n1\/(k1<n1/\k1=n2)) (hE:∀g e,(∀c o,c≠z->c≠TO->c≠i1->c≠i2->s.heap.get? c=some o->g.get? c=some o)->(∃o,g.get? e=some o/\o.cls=.type "StopIteration")->∀tk,E (.ref e) {s with heap:=g,toks:=tk}):
  wpAny (model prog w) A (Builtin.«zip.__next__» ⟨[.ref z],[]⟩) Q E s:=by
 show wpAny (model prog w) A (field (.ref z) 2>>=_) _ _ _;refine cW (fh hz rfl (x:=.bool false) rfl ?_);show wpAny (model prog w) A (field (.ref z) 3>>=_) _ _ _;refine cW (fh hz rfl (x:=.ref TI) rfl (cW (gy hI rfl ?_)));show wpAny (model prog w) A (Builtin.SmallTypes.ownedTupleIsFree (.ref z)>>=_) _ _ _;refine cW ?_;unfold Builtin.SmallTypes.ownedTupleIsFree;refine cW (fh hz rfl (x:=.none) rfl (dq ?_));simp only[iZ];refine cW (kg (cW (fh hz rfl (x:=.ref TO) rfl (cW (gB hz (by simp) λg1 z1 Yx=>?_)))));replace z1:IsZip g1 z TI TO .ellipsis:=z1;refine cW ?_;simp only[lN,lW,jP,jZ];refine cW (cW (jj ?_));show wpAny (model prog w) A (Builtin.SmallTypes.nextOf (.ref i1)>>=_) _ _ _;have Yy:S1 k1 g1:=rV D1 Xi Yx W9.b1;rcases ZO with he|⟨W1,he⟩
 .rw[he]at Yy;refine cW (D1.done _ _ _ Yy λg2 e XR hx=>?_);obtain⟨oe,g,ZP⟩:=hx;have z2:IsZip g2 z TI TO .ellipsis:=XR _ _ W9.a3.symm z1;have hez:e≠z:=λq=>by subst q;rw[z2]at g;cases g;simp at ZP
  exact gB z2 (by simp) λg3 _ XZ=>hE g3 e (λc o q1 _ q3 _ q=>XZ.extBut _ _ q1 (XR _ _ q3 (Yx.extBut _ _ q1 q))) ⟨oe,XZ.extBut _ _ hez g,ZP⟩ _
 .refine cW (D1.item k1 _ _ _ W1 Yy λx g2 tk2 px st1b XR=>dq ?_);replace XR:Heap.SameBut i1 g1 g2:=XR;have o2:IsPair g2 TO a b:=XR.extBut _ _ W9.a8 (Yx.extBut _ _ W9.a2 hO);refine cW (gy o2 rfl (cW (iQ o2 λg3 o3 XZ=>?_)));replace XZ:Heap.SameBut TO g2 g3:=XZ;refine cW (lz (dq (cW (cW (jj ?_)))));show wpAny (model prog w) A (Builtin.SmallTypes.nextOf (.ref i2)>>=_) _ _ _;have Y2:S2 k1 g3:=rV D2 (rV D2 (rV D2 W8 Yx W9.c1) XR W9.c3) XZ W9.c2;rw[he]at Y2;refine cW (D2.done _ _ _ Y2 λg4 e YJ hx=>?_);obtain⟨oe,g,ZP⟩:=hx;have z4:IsZip g4 z TI TO .ellipsis:=YJ _ _ W9.a4.symm (XZ.extBut _ _ W9.a2.symm (XR.extBut _ _ W9.a3.symm z1));have hez:e≠z:=λq=>by subst q;rw[z4]at g;cases g;simp at ZP
  exact gB z4 (by simp) λg5 _ YK=>hE g5 e (λc o q1 q2 q3 q4 q=>YK.extBut _ _ q1 (YJ _ _ q4 (XZ.extBut _ _ q2 (XR.extBut _ _ q3 (Yx.extBut _ _ q1 q))))) ⟨oe,YK.extBut _ _ hez g,ZP⟩ _
end
abbrev U0(h:Heap)(t:Addr):Heap:=h.push {cls:=.type "tuple_iterator",data:=.fields #[.ref t,.int 0 0]}
abbrev UR(h:Heap)(t u:Addr):Heap:=(U0 h t).push {cls:=.type "tuple_iterator",data:=.fields #[.ref u,.int 0 0]}
abbrev UZ(h:Heap)(t u:Addr):Heap:=(UR h t u).push {cls:=.type "tuple",data:=.seq #[.ref h.objs.size,.ref (U0 h t).objs.size]}
abbrev UX(h:Heap)(t u:Addr):Heap:=(UZ h t u).push {cls:=.type "tuple",data:=.seq #[.none,.none]}
abbrev SZ(h:Heap)(t u:Addr):Heap:=(UX h t u).push {cls:=.type "zip",data:=.fields #[.none,.bool false,.bool false,.ref (UR h t u).objs.size,.ref (UZ h t u).objs.size]}
def CY(t u:Addr)(xs ys:Array Vl):
  Meets (Builtin.«zip.__new__» ⟨[.type "zip",.ref t,.ref u],[]⟩) (λ_ R s=>s.heap.IsTuple t xs/\s.heap.IsTuple u ys/\R (.ok (.ret (.ref (UX s.heap t u).objs.size))) {s with heap:=SZ s.heap t u}):=
 .of_wp λprog w A R s h=>by
  obtain⟨hp,g,d,tk,os⟩:=s;obtain⟨e1,e2,h⟩:=h;have Yt:=sub_zip;have q1:Heap.IsTuple (Shared.heap ⟨hp,g,d,tk,os⟩) t xs:=e1;have q2:Heap.IsTuple (Shared.heap ⟨hp.push {cls:=.type "tuple_iterator",data:=.fields #[.ref t,.int 0 0]},g,d,tk,os⟩) u ys:=Heap.IsTuple.push e2 _
  wp_walk using iu q1,iu q2
  exact⟨_,rfl,h⟩
def Fj{t u:Addr}{xs ys:Array Vl}{Q:Vl->Sd->Prop}(ht:s.heap.IsTuple t xs)(hu:s.heap.IsTuple u ys) (h:∀g,IsZip g (s.heap.objs.size+4) (s.heap.objs.size+2) (s.heap.objs.size+3) .none->IsPair g (s.heap.objs.size+2) (.ref s.heap.objs.size) (.ref (s.heap.objs.size+1))->IsPair g (s.heap.objs.size+3) .none .none->
   g.IsTupleIter s.heap.objs.size t 0->g.IsTupleIter (s.heap.objs.size+1) u 0->(∀c o,s.heap.get? c=some o->g.get? c=some o)->Q (.ref (s.heap.objs.size+4)) {s with heap:=g}):
  wpAny (model prog w) A (call (.type "zip") [.ref t,.ref u]) Q E s:=by
 refine callType_new F.called_zip (by decide) (F.typeCall_zip_2 _ _) (F.newCall_zip_2 _ _) (λobj=>F.args_object_init_3 obj _ _) F.entry_zip_new (CY t u xs ys) ⟨ht,hu,?_⟩;have m1:(U0 s.heap t).objs.size=s.heap.objs.size+1:=fm ..;have m2:(UR s.heap t u).objs.size=s.heap.objs.size+2:=by rw[fm,m1]
 have m3:(UZ s.heap t u).objs.size=s.heap.objs.size+3:=by rw[fm,m2]
 have m4:(UX s.heap t u).objs.size=s.heap.objs.size+4:=by rw[fm,m3]
 have up:∀{h:Heap} {c:Addr} {o p:Obj},h.get? c=some o->(h.push p).get? c=some o:=λq=>df _ q;have r5:(SZ s.heap t u).get? (UX s.heap t u).objs.size=some _:=dG _ rfl;have r4:(SZ s.heap t u).get? (UZ s.heap t u).objs.size=some _:=up (dG _ rfl);have r3:(SZ s.heap t u).get? (UR s.heap t u).objs.size=some _:=up (up (dG _ rfl));have r2:(SZ s.heap t u).get? (U0 s.heap t).objs.size=some _:=up (up (up (dG _ rfl)));have r1:(SZ s.heap t u).get? s.heap.objs.size=some _:=up (up (up (up (dG _ rfl))));show _/\_;rw[m2,m3,m4]at r5;rw[m1,m2]at r3;rw[m3]at r4;rw[m1]at r2;rw[m4];exact⟨⟨_,r5,rfl⟩,h _ r5 r3 r4 ⟨_,r1,rfl,rfl⟩ ⟨_,r2,rfl,rfl⟩ λc o q=>up (up (up (up (up q))))⟩
def FP{z TI TO i1 i2:Addr}{f1 f2:List Addr}{n1 n2 k:Nat}{P1 P2:Nat->Vl->Prop}{S1 S2:Nat->Heap->Prop}{a b:Vl}{Q:Option Vl->Sd->Prop}(D1:Draws prog w A.in1 i1 f1 n1 P1 S1)(D2:Draws prog w A.in1 i2 f2 n2 P2 S2)(W9:zX z TI TO i1 i2 f1 f2) (hz:IsZip s.heap z TI TO .none) (hI:IsPair s.heap TI (.ref i1) (.ref i2)) (hO:IsPair s.heap TO a b) (Xi:S1 k s.heap) (W8:S2 k s.heap) (l1:k<n1) (l2:k<n2) (hQ:∀x y g tk,P1 k x->P2 k y->IsZip g z TI TO (rawInt s.heap.objs.size)->IsPair g TO x y->S1 (k+1) g->S2 (k+1) g->IsPair g s.heap.objs.size x y->g.objs.size=s.heap.objs.size+1->
   (∀c o,c≠z->c≠TO->c≠i1->c≠i2->s.heap.get? c=some o->g.get? c=some o)->Q (some (.ref s.heap.objs.size)) {s with heap:=g,toks:=tk}):wpAny (model prog w) A (pyNext (.ref z)) Q E s:=by
 have hT:s.TypeIs (.ref z) "zip":=⟨_,hz,rfl⟩;unfold pyNext;refine cW (wpAny_attempt (fN (name:=Str.ofString "__next__") hT iR (fT iR hT lO ?_ (ls _))));exact Kb D1 D2 W9 hz hI hO Xi W8 l1 l2 λx y g tk q1 q2 q3 q4 q5 q6 q7 q8 q9=>dq (hQ x y g tk q1 q2 q3 q4 q5 q6 q7 q8 q9)
def AL{z TI TO i1 i2:Addr}{f1 f2:List Addr}{n1 n2 k:Nat}{P1 P2:Nat->Vl->Prop}{S1 S2:Nat->Heap->Prop}{a b:Vl}{Q:Option Vl->Sd->Prop}(D1:Draws prog w A.in1 i1 f1 n1 P1 S1)(D2:Draws prog w A.in1 i2 f2 n2 P2 S2)(W9:zX z TI TO i1 i2 f1 f2) (hz:IsZip s.heap z TI TO .none) (hI:IsPair s.heap TI (.ref i1) (.ref i2)) (hO:IsPair s.heap TO a b) (Xi:S1 k s.heap) (W8:S2 k s.heap) (ZO:k=n1\/(k<n1/\k=n2)) (hQ:∀g tk,(∀c o,c≠z->c≠TO->c≠i1->c≠i2->s.heap.get? c=some o->g.get? c=some o)->Q none {s with heap:=g,toks:=tk}):wpAny (model prog w) A (pyNext (.ref z)) Q E s:=by
 have hT:s.TypeIs (.ref z) "zip":=⟨_,hz,rfl⟩;unfold pyNext;refine cW (wpAny_attempt (fN (name:=Str.ofString "__next__") hT iR (fT iR hT lO (K8 D1 D2 W9 hz hI hO Xi W8 ZO λg e kp hx tk=>?_) (ls _))));obtain⟨o,e1,e2⟩:=hx;exact cW (wpAny_isInstance (T:="StopIteration") (b:=true) ⟨o,e1,e2⟩ isSubtype_stop (dq (hQ g tk kp)))
def Fc{a b:Addr}{xs:List V}(I:Inv X WN σ H s)(f:AC X WN H b)(q:uR X.K H a xs):a≠b:=by
 rintro rfl
 rcases q with q|⟨o,its,n,hk,_⟩
 .have z:=f.1;rcases q with q|⟨u,q⟩<;>(rw[q]at z;cases z)
 .have e:=I.mod.oz a o hk;rcases f.2.2.2.1 with z|z
  .exact I.ok.nL a o e z
  .exact absurd (dR (dA e) (dX I.ok.nW z)) (e9 _)
def Vv(K:ql)(a b:Addr):It:=
 ⟨λi H=>∃xs ys x y,uR K H a xs/\uR K H b ys/\xs[i]?=some x/\ys[i]?=some y,λi H v H'=>∃p x y,v=.ref p/\H p=none/\H'=upd H p (.tup [x,y])/\(∀xs,uR K H a xs->xs[i]?=some x)/\(∀ys,uR K H b ys->ys[i]?=some y),λi H=>∃xs ys,uR K H a xs/\uR K H b ys/\i=min xs.length ys.length⟩
def My{P:Pg}{w:Wo}{K:ql}{Xo:List Expr}{n:Nat}{tp:Pos}(a b z TI TO i1 i2:Addr)(a1:TI≠z)(a2:TO≠z)(a3:i1≠z)(a4:i2≠z)(a5:TI≠TO)(a6:TI≠i1)(a7:TI≠i2)(a8:TO≠i1)(a9:TO≠i2)(oX:i1≠i2):
  GM P w K (.Tuple Xo n tp) (Vv K a b) [z,TI,TO,i1,i2] z (λi h=>IsZip h z TI TO .none/\IsPair h TI (.ref i1) (.ref i2)/\(∃u v,IsPair h TO u v)/\h.IsTupleIter i1 a i/\h.IsTupleIter i2 b i) where
 mem:=by simp
 obj:=λi h st c hc=>by
  obtain⟨h1,h2,⟨u,v,h3⟩,⟨o4,h4,_,d4⟩,⟨o5,h5,_,d5⟩⟩:=st;simp only[dh,dE,eP]at hc;rcases hc with rfl|rfl|rfl|rfl|rfl
  .exact⟨_,h1,λv z=>by cases z⟩
  .exact⟨_,h2,λv z=>by cases z⟩
  .exact⟨_,h3,λv z=>by cases z⟩
  .exact⟨_,h4,λv z=>by rw[d4]at z;cases z⟩
  .exact⟨_,h5,λv z=>by rw[d5]at z;cases z⟩
 keep:=λi h h' st k=>by obtain⟨h1,h2,⟨u,v,h3⟩,⟨o4,h4,c4⟩,⟨o5,h5,c5⟩⟩:=st;exact⟨k z (by simp) _ h1,k TI (by simp) _ h2,⟨u,v,k TO (by simp) _ h3⟩,⟨o4,k i1 (by simp) _ h4,c4⟩,⟨o5,k i2 (by simp) _ h5,c5⟩⟩
 item:=by
  intro X hP hw hK hc i WN s σ H E I hf st hg;subst hP hw hK;obtain⟨xs,ys,x,y,hx,hy,ex,ey⟩:=hg;obtain⟨its,rx,px,_⟩:=I.tuple hx;obtain⟨YI,ry,py,_⟩:=I.tuple hy;obtain⟨u,eu,ru⟩:=rx.get ex;obtain⟨v,ev,rv⟩:=ry.get ey;obtain⟨h1,h2,⟨p,q,h3⟩,h4,h5⟩:=st;have hh:X.A.in1.handled=none:=I.ok.hd hc;have fa:∀c∈[z,TI,TO,i1,i2],a≠c:=λc hc=>Fc I (hf c hc) hx;have fb:∀c∈[z,TI,TO,i1,i2],b≠c:=λc hc=>Fc I (hf c hc) hy;have W9:zX z TI TO i1 i2 [i1,a] [i2,b]:=⟨a1,a2,a3,a4,a5,a6,a7,a8,a9,oX,by
   simp only[dh,dE,eP,fM];exact⟨dO a3,dO (fa z (by simp))⟩,by
   simp only[dh,dE,eP,fM];exact⟨a8,dO (fa TO (by simp))⟩,by
   simp only[dh,dE,eP,fM];exact⟨dO oX,dO (fa i2 (by simp))⟩,by
   simp only[dh,dE,eP,fM];exact⟨dO a4,dO (fb z (by simp))⟩,by
   simp only[dh,dE,eP,fM];exact⟨a9,dO (fb TO (by simp))⟩,by
   simp only[dh,dE,eP,fM];exact⟨oX,dO (fb i1 (by simp))⟩⟩
  have l1:i<its.toArray.size:=by
   have:=(cX.mp eu).1
   simpa using this
  have l2:i<YI.toArray.size:=by
   have:=(cX.mp ev).1
   simpa using this
  refine FP (xX hh i1 a (fa i1 (by simp)) its.toArray) (xX hh i2 b (fb i2 (by simp)) YI.toArray) W9 h1 h2 h3 ⟨h4,px⟩ ⟨h5,py⟩ l1 l2 λx' y' g tk e1 e2 z1 o1 s1 s2 t1 sz kp=>?_;have e1':x'=u:=by
   have:its[i]?=some x':=by simpa using e1
   rw[eu]at this;exact(dn this).symm
  have YW:y'=v:=by
   have:YI[i]?=some y':=by simpa using e2
   rw[ev]at this;exact(dn this).symm
  subst e1' YW;refine⟨_,rfl,wpAny_letOwnedTupleGo_zip z1 λg2 z2 sb=>?_⟩;have zlt:z<s.heap.objs.size:=dA h1;have kk:∀c o,c∉[z,TI,TO,i1,i2]->s.heap.get? c=some o->g2.get? c=some o:=λc o hc e=>by simp only[dh,dE,eP,fM]at hc;exact(sb.2 c hc.1).trans (kp c o hc.1 hc.2.2.1 hc.2.2.2.1 hc.2.2.2.2 e)
  have t2:g2.get? s.heap.objs.size=some {cls:=.type "tuple",data:=.seq #[x',y']}:=(sb.2 _ (gJ zlt)).trans t1;have Y1:H s.heap.objs.size=none:=I.mO.fresh (dw _);have I2:=I.drawn (ch:=[z,TI,TO,i1,i2]) (T:=s.heap.objs.size) (xs:=[x,y]) (its:=[x',y']) (h':=g2) (tk:=tk) hf kk (dw _) (by show 2<=sizeLine;decide) (.cons ru (.cons rv .nil)) ⟨_,t2,rfl,⟨_,rfl⟩,rfl⟩;refine⟨.ref s.heap.objs.size,_,I2,rfl,⟨_,x,y,rfl,Y1,rfl,λxs' hx'=>by rw[I.m8 hx' hx];exact ex,λys' hy'=>by rw[I.m8 hy' hy];exact ey⟩,?_,λc hc=>?_⟩
  .obtain⟨o4,g4,c4⟩:=s1.1;obtain⟨o5,g5,c5⟩:=s2.1;exact⟨z2,(sb.2 _ a1).trans (kp _ _ a1 a5 a6 a7 h2),⟨_,_,(sb.2 _ a2).trans o1⟩,⟨o4,(sb.2 _ a3).trans g4,c4⟩,⟨o5,(sb.2 _ a4).trans g5,c5⟩⟩
  .have n0:=(hf c hc).1;obtain⟨o,eo⟩:∃o,s.heap.get? c=some o:=by
    obtain⟨o4,g4,_⟩:=h4;obtain⟨o5,g5,_⟩:=h5;simp only[dh,dE,eP]at hc;rcases hc with rfl|rfl|rfl|rfl|rfl
    .exact⟨_,h1⟩
    .exact⟨_,h2⟩
    .exact⟨_,h3⟩
    .exact⟨_,g4⟩
    .exact⟨_,g5⟩
   rw[pZ (dH (dA eo))];exact n0
 done:=by
  intro X hP hw hK hc i WN s σ H E I hf st hg;subst hP hw hK;obtain⟨xs,ys,hx,hy,hi⟩:=hg;obtain⟨its,rx,px,_⟩:=I.tuple hx;obtain⟨YI,ry,py,_⟩:=I.tuple hy;obtain⟨h1,h2,⟨p,q,h3⟩,h4,h5⟩:=st;have hh:X.A.in1.handled=none:=I.ok.hd hc;have fa:∀c∈[z,TI,TO,i1,i2],a≠c:=λc hc=>Fc I (hf c hc) hx;have fb:∀c∈[z,TI,TO,i1,i2],b≠c:=λc hc=>Fc I (hf c hc) hy;have W9:zX z TI TO i1 i2 [i1,a] [i2,b]:=⟨a1,a2,a3,a4,a5,a6,a7,a8,a9,oX,by
   simp only[dh,dE,eP,fM];exact⟨dO a3,dO (fa z (by simp))⟩,by
   simp only[dh,dE,eP,fM];exact⟨a8,dO (fa TO (by simp))⟩,by
   simp only[dh,dE,eP,fM];exact⟨dO oX,dO (fa i2 (by simp))⟩,by
   simp only[dh,dE,eP,fM];exact⟨dO a4,dO (fb z (by simp))⟩,by
   simp only[dh,dE,eP,fM];exact⟨a9,dO (fb TO (by simp))⟩,by
   simp only[dh,dE,eP,fM];exact⟨oX,dO (fb i1 (by simp))⟩⟩
  have e1:=rx.length;have e2:=ry.length;refine AL (xX hh i1 a (fa i1 (by simp)) its.toArray) (xX hh i2 b (fb i2 (by simp)) YI.toArray) W9 h1 h2 h3 ⟨h4,px⟩ ⟨h5,py⟩ (by simp only[dz];omega) λg tk kp=>⟨rfl,?_⟩;have kk:∀c o,c∉[z,TI,TO,i1,i2]->s.heap.get? c=some o->g.get? c=some o:=λc o hc e=>by simp only[dh,dE,eP,fM]at hc;exact kp c o hc.1 hc.2.2.1 hc.2.2.2.1 hc.2.2.2.2 e
  refine I.step (g':=s.gens) (d':=s.drawn) (t':=tk) (ch:=[z,TI,TO,i1,i2]) (λc hc=>⟨(hf c hc).2.2.2.1,(hf c hc).2.1,(hf c hc).2.2.2.2.1,(hf c hc).2.2.2.2.2⟩) ?_ ?_ (λc o _ e n=>n) ?_ (λ_ _ e=>e) (λ_ _ _ e=>e) (λc ps e=>⟨#[],by rw[e];simp⟩) ?_ ?_ I.bare
  .exact λc o _ _ hc e _=>kk c o hc e
  .exact λc o _ _ hc e _=>⟨o.slots,kk c o hc e⟩
  .exact λc o hc e=>⟨o,kk c o hc e⟩
  .intro m hm;obtain⟨o,es,ep,ho,r⟩:=hm;exact⟨o,es,ep,kk _ o (λy=>(hf _ y).2.1 rfl) ho,r⟩
  .intro c u e;refine(I.mO c u e).nj (λd v hd q=>kk d v (λy=>?_) q) (λ_ q=>q) λ_ _ q=>q;have n:=(hf d y).1;rcases hd with x|x
   .rw[x,e]at n;cases n
   .rw[x]at n;cases n
 self:=λ_ _ _ _ _ st h=>lP st.1 h
def Ri{a b:Expr}{ta:TA}(hg:Gl X "zip")(hm:X.mg "zip"=none)(ha:PA X [a,b] ta)(hs:starEach [a,b] X.env=[(false,eval a X.env),(false,eval b X.env)]:=by rfl)(XY:starEach [b] X.env=[(false,eval b X.env)]:=by rfl):
  PI X (.Tuple Xo n tp) (.Call (.Name "zip" p) [a,b] [] pos) (λσ H R=>ta σ H λvs H1=>∃l m,vs=[.ref l,.ref m]/\(∃xs,uR X.K H1 l xs)/\(∃xs,uR X.K H1 m xs)/\R (Vv X.K l m) H1):=by
 intro WN s σ H R I h;refine Call_ (vO I hg hm Rh (fL (su (ha pos WN s σ H _ I h) λus s1 zz=>x5 zz λvs H1 I1 r1 q1=>?_) (by rw[hs,XY]) (by rw[XY];rfl)));obtain⟨l,m,e,⟨xs,hx⟩,⟨ys,hy⟩,q⟩:=q1;subst e;obtain⟨u,v,rfl,ru,rv⟩:=MF r1;cases ru;cases rv;obtain⟨its,_,px,_⟩:=I1.tuple hx;obtain⟨YI,_,py,_⟩:=I1.tuple hy;refine Fj px py λg h1 h2 h3 h4 h5 hk=>lP h1 ?_;have I2:Inv X WN σ H1 {s1 with heap:=g}:=I1.kept (t':=s1.toks) hk;refine⟨s1.heap.objs.size+4,[s1.heap.objs.size+4,s1.heap.objs.size+2,s1.heap.objs.size+3,s1.heap.objs.size,s1.heap.objs.size+1],_,_,H1,rfl,I2,My l m _ _ _ _ _ ?_ ?_ ?_ ?_ ?_ ?_ ?_ ?_ ?_ ?_,⟨h1,h2,⟨_,_,h3⟩,h4,h5⟩,λb hb=>?_,q⟩
 .exact λz=>by have z:s1.heap.objs.size+2=s1.heap.objs.size+4:=z;omega
 .exact λz=>by have z:s1.heap.objs.size+3=s1.heap.objs.size+4:=z;omega
 .exact λz=>by have z:s1.heap.objs.size=s1.heap.objs.size+4:=z;omega
 .exact λz=>by have z:s1.heap.objs.size+1=s1.heap.objs.size+4:=z;omega
 .exact λz=>by have z:s1.heap.objs.size+2=s1.heap.objs.size+3:=z;omega
 .exact λz=>by have z:s1.heap.objs.size+2=s1.heap.objs.size:=z;omega
 .exact λz=>by have z:s1.heap.objs.size+2=s1.heap.objs.size+1:=z;omega
 .exact λz=>by have z:s1.heap.objs.size+3=s1.heap.objs.size:=z;omega
 .exact λz=>by have z:s1.heap.objs.size+3=s1.heap.objs.size+1:=z;omega
 .exact λz=>by have z:s1.heap.objs.size=s1.heap.objs.size+1:=z;omega
 .have XF:s1.heap.objs.size<=b:=by
   simp only[dh,dE,eP]at hb;rcases hb with rfl|rfl|rfl|rfl|rfl
   .exact iI _ _
   .exact iI _ _
   .exact iI _ _
   .exact dw _
   .exact iI _ _
  exact I1.nP XF (I1.mO.fresh XF)
def AK:List D->List D->List D
 | x::a,y::b=>.tup [x,y]::AK a b
 | _,_=>[]
theorem JA:∀{ds es:List D} {i:Nat},(AK ds es)[i]?=(ds[i]?).bind λd=>(es[i]?).map λe=>D.tup [d,e]
 | [],es,i=>by simp[AK]
 | d::ds,[],i=>by simp[AK]
 | d::ds,e::es,0=>by simp[AK]
 | d::ds,e::es,i+1=>by show(AK ds es)[i]?=_;rw[JA];simp
theorem D6:∀{ds es:List D},(AK ds es).length=min ds.length es.length
 | [],es=>by simp[AK]
 | d::ds,[]=>by simp[AK]
 | d::ds,e::es=>by show(AK ds es).length+1=_;rw[D6];simp only[eB];omega
def OF{K:ql}{H1:Hp}{a b:Addr}{ds es:List D}{xs ys:List V}(h1:uR K H1 a xs)(h2:qa K H1 ds xs)(g1:uR K H1 b ys)(g2:qa K H1 es ys):G1 K H1 (Vv K a b) (AK ds es) (λ_=>True) where
 go:=λi H M hi hm ok e1=>by rw[D6]at hi;obtain⟨x,ex,_⟩:=h2.get (cY (show i<ds.length by omega));obtain⟨y,ey,_⟩:=g2.get (cY (show i<es.length by omega));exact⟨xs,ys,x,y,e1.t _ _ h1,e1.t _ _ g1,ex,ey⟩
 oN:=λi d H M v H' hd hm ok e1 y=>by
  obtain⟨p,x,z,rfl,hp,rfl,y1,y2⟩:=y;rw[JA]at hd;cases e:ds[i]? with
  | none=>rw[e]at hd;cases hd
  | some d'=>
   cases e':es[i]? with
   | none=>rw[e,e']at hd;cases hd
   | some d''=>rw[e,e']at hd;cases hd;obtain⟨x',q1,hx⟩:=h2.get e;obtain⟨z',q2,hz⟩:=g2.get e';have w1:=y1 xs (e1.t _ _ h1);have w2:=y2 ys (e1.t _ _ g1);rw[q1]at w1;rw[q2]at w2;have v1:x'=x:=dn w1;have v2:z'=z:=dn w2;subst v1 v2;have ex:qK K H (upd H p (.tup [x',z'])):=.new hp;exact⟨.tup (.of qe) (.cons (hx.mono (e1.trans ex)) (.cons (hz.mono (e1.trans ex)) .nil)),hm.add hp,ex⟩
 stop:=λH M hm ok e1=>⟨xs,ys,e1.t _ _ h1,e1.t _ _ g1,by rw[D6,h2.length,g2.length]⟩
def TB(t:wY):NG:=λδ M R=>t δ M λds M1=>match ds with
 | [.tup a,.tup b]=>R (AK a b) (λ_=>True) M1
 | _=>False
def SQ{a b:Expr}{ta:wY}(hg:Gl X "zip")(hm:X.mg "zip"=none)(ha:A3 X [a,b] ta)(hs:starEach [a,b] X.env=[(false,eval a X.env),(false,eval b X.env)]:=by rfl)(XY:starEach [b] X.env=[(false,eval b X.env)]:=by rfl):
  I3 X (.Tuple Xo n tp) (.Call (.Name "zip" p) [a,b] [] pos) (TB ta):=
 PI.mono (Ri hg hm ha hs XY) λσ H R' zz=>x7 zz λδ M R hs hm ht k=>⟨δ,M,_,hs,hm,ht,λvs H1 ds M1 hd WP e1 q1=>by
  split at q1
  .obtain⟨v,u,rfl,hv,hw⟩:=AZ hd;obtain⟨l,xs,rfl,h1,h2⟩:=hv.mM;obtain⟨m,ys,rfl,g1,g2⟩:=hw.mM;exact⟨l,m,rfl,⟨xs,h1⟩,⟨ys,g1⟩,k _ H1 _ _ M1 (OF h1 h2 g1 g2) WP e1 trivial q1⟩
  .exact q1.elim⟩
def qx(M M':Mp):Prop:=∀a c,M a=some c->M' a=some c
def qx.refl{M:Mp}:qx M M:=λ_ _ h=>h
def qx.trans{M M1 M2:Mp}(a:qx M M1)(b:qx M1 M2):qx M M2:=λx c h=>b x c (a x c h)
def qx.new{M:Mp}{p:Addr}{c:uT}(h:M p=none):qx M (pz M p c):=λx d q=>by rw[tU (S4 q h)];exact q
def qx.lst{M M':Mp}{a:Addr}{ds:List D}(s:qx M M')(h:oJ M a=some ds):oJ M' a=some ds:=by
 unfold oJ at h ⊢;cases e:M a with
 | none=>rw[e]at h;cases h
 | some c=>rw[s a c e];rw[e]at h;exact h
def HM.sub{K:ql}{H:Hp}{M M':Mp}(h:HM K H M')(s:qx M M'):HM K H M:=λa c q=>h a c (s a c q)
def Uy{x qual:Str}{st:Stmt}{f:Addr}{fd:FuncData}{N ps:List Str}{k:Nat}{sp:qX}(F:N0 K x qual st f fd)(S:sW N ps (pX st))(len:∀ds M Q,sp ds M Q->ds.length=ps.length) (Xa:∀(WW:Vl) (A:Ar) (outer:List Env) (s:Sd) (H:Hp) (E:XK),rM k (A.deeper (envOfC qual (pX st) s.heap.objs.size f WW))->
   ∃t,G9 (va NI P w K mg base N qual (pX st) f WW A outer s H E).ou (rE st) t/\∀ds M Q,sp ds M Q->t {nx:=λ_ M'=>∃WS,qx WS M'/\Q .mH WS,rt:=λd M'=>∃WS,qx WS M'/\Q d WS} (wF N ds) M):S6 P w K mg base (k+1) f fd ps sp:=by
 refine F.ok S (λvs H Q E h=>?_) (λWW A outer s H vs Q' E hr h=>?_)
 .obtain⟨ds,M,Q,hd,_,hs,_⟩:=h;rw[<-hd.length];exact len ds M Q hs
 .obtain⟨ds,M,Q,hd,hm,hs,k⟩:=h;obtain⟨t,ht,hb⟩:=Xa WW A outer s H E hr;exact⟨_,ht,wF N ds,M,_,DU hd,hm,hb ds M Q hs,λσ' H' δ' M' _ x2 x3 _ ⟨WS,y1,y2⟩=>k .mH H' .mH WS .mH (x2.sub y1) x3 y2,λv H' d M' x1 x2 x3 ⟨WS,y1,y2⟩=>k v H' d WS x1 (x2.sub y1) x3 y2,λ_ _ _ _ _ _ _ _ z=>z,λ_ _ _ _ _ _ _ _ z=>z⟩
theorem Ci{g:DP}{te:T3}{ok:Mp->Prop}{Q:DK}{f:D->D}{M:Mp}(J:vh->Prop)(mO:ok M):∀(ds acc:List D) (δ:vh),J δ->acc.length+ds.length<=sizeLine->
  (∀d∈ds,∀δ,J δ->∀k:vh->DK,(∀δ',J δ'->k δ' (f d) M)->g d δ M λδ2 M2=>te δ2 M2 (k δ2))->(∀p,M p=none->Q (.ref p) (pz M p (.lst (acc++ds.map f))))->uQ g BM te ok Q ds acc δ M
 | [],acc,δ,_,hl,_,hq=>⟨by simpa using hl,by simpa using hq⟩
 | d::r,acc,δ,hj,hl,ht,hq=>by
  rw[eB]at hl;refine⟨by omega,?_⟩;refine ht d dJ δ hj (λδ2 y M4=>ok M4/\uQ g BM te ok Q r (acc++[y]) δ2 M4) λδ' hj'=>⟨mO,Ci (f:=f) J mO r (acc++[f d]) δ' hj' ?_ (λe he=>ht e (dC _ he)) ?_⟩
  .rw[cZ,dP];omega
  .simpa using hq
def rh{i:Nat}{te:T3}{ok:Mp->Prop}{Q:DK}{f:D->D}{M:Mp}(mO:ok M):∀(ds acc:List D) (δ:vh),acc.length+ds.length<=sizeLine->(∀d∈ds,∀k:DK,k (f d) M->te (δ.set i (some d)) M k)->
  (∀p,M p=none->Q (.ref p) (pz M p (.lst (acc++ds.map f))))->uQ (uG i) BM te ok Q ds acc δ M:=λds acc δ hl ht hq=>
 Ci (f:=f) (λδ'=>∀d,δ'.set i (some d)=δ.set i (some d)) mO ds acc δ (λ_=>rfl) hl (λd hd δ' hj k hk=>by
  show te (δ'.set i (some d)) M (k (δ'.set i (some d)));rw[hj d];exact ht d hd _ (hk _ λe=>by rw[jF])) hq
theorem xR{α:Type}(f:α->Bool):∀l:List α,Gf (l.map λx=>D.bl (f x))=some (l.map f)
 | []=>rfl
 | x::r=>by show(Gf (r.map λx=>D.bl (f x))).map (f x::·)=_;rw[xR f r];rfl
def pA{M:Mp}{p:Addr}{ds:List D}:oJ (pz M p (.lst ds)) p=some ds:=by unfold oJ;rw[pL]
def i'{α:Type}{o:Option α}{P:α->Prop}{x:α}(e:o=some x)(h:P x):o.elim False P:=by rw[e];exact h
def oW{l:List D}(h:decide (l.length<=100)=true):l.length<=sizeLine:=by have z:=dM;have:=fQ h;omega
theorem A8{g:DP}{tb:xc}{ok:Mp->Prop}{E:GN}(J:vh->Mp->Prop)(mO:∀δ M,J δ M->ok M):∀(ds:List D) (δ:vh) (M:Mp),J δ M->
  (∀d∈ds,∀δ M,J δ M->∀nx:vh->Mp->Prop,(∀δ' M',J δ' M'->nx δ' M')->g d δ M λδ2 M2=>tb {E with nx:=nx,ct:=nx,bk:=E.nx} δ2 M2)->(∀δ M,J δ M->E.nx δ M)->Ff g tb ok E ds δ M
 | [],δ,M,j,_,hn=>hn δ M j
 | d::r,δ,M,j,ht,hn=>ht d dJ δ M j (λδ' M'=>ok M'/\Ff g tb ok E r δ' M') λδ' M' j'=>⟨mO δ' M' j',A8 J mO r δ' M' j' (λe he=>ht e (dC _ he)) hn⟩
theorem wq{g:DP}{tb:xc}{ok:Mp->Prop}{E:GN}(all:List D)(J:List D->vh->Mp->Prop)(mO:∀p δ M,J p δ M->ok M):∀(ds pre:List D) (δ:vh) (M:Mp),pre++ds=all->J pre δ M->
  (∀pre d post,pre++d::post=all->∀δ M,J pre δ M->∀nx:vh->Mp->Prop,(∀δ' M',J (pre++[d]) δ' M'->nx δ' M')->g d δ M λδ2 M2=>tb {E with nx:=nx,ct:=nx,bk:=E.nx} δ2 M2)->(∀δ M,J all δ M->E.nx δ M)->Ff g tb ok E ds δ M
 | [],pre,δ,M,e,j,_,hn=>hn δ M (by rw[<-e,eO];exact j)
 | d::r,pre,δ,M,e,j,ht,hn=>ht pre d r e δ M j (λδ' M'=>ok M'/\Ff g tb ok E r δ' M') λδ' M' j'=>⟨mO _ δ' M' j',wq all J mO r (pre++[d]) δ' M' (by rw[<-e,fj];rfl) j' ht hn⟩
def FX{K:ql}{t:Vl}:W.kitOne K t t=some true:=by unfold W.kitOne;rw[dg (by simp)]
def Lg{c:Bool}{A B:Prop}(h:c=false)(hb:B):if c=true then A else B:=by subst h;exact Cm hb
def Ac{c:Bool}{A B:Prop}(h:c=true)(ha:A):if c=true then A else B:=by subst h;exact NY ha
def UP{t u:xc}{E:GN}{δ:vh}{M:Mp}(R:vh->Mp->Prop)(h2:∀nx:vh->Mp->Prop,(∀δ' M',R δ' M'->nx δ' M')->t {E with nx:=nx} δ M)(h1:∀δ' M',R δ' M'->u E δ' M'):tQ t u E δ M:=h2 (u E) h1
def T7{K:ql}{H:Hp}{a:Addr}{ns:List Int}(hO:LS H)(hS:yR K H a (ns.map V.int)):rD K H (.rl (ns.map D.int)) (.ref a):=by
 have r:Oz K H a (ns.map V.int):=by
  rcases hS with h|h
  .rcases h with h|⟨o,h⟩
   .rcases hO a with z|⟨o,xs,z⟩<;>(rw[h]at z;cases z)
   .exact .inl ⟨o,h⟩
  .exact .inr h
 unfold rD;exact⟨a,_,rfl,r,.ints⟩
def Rj{K:ql}{sp:qX}{H:Hp}{a:Addr}{ns:List Int}(hO:LS H)(hS:yR K H a (ns.map V.int))(h:sp [.rl (ns.map D.int)] (λ_=>none) λd _=>d=.bl true):NK K sp [.ref a] H (λv _=>v=.bl true) λ_ _ _=>False:=
 ⟨_,λ_=>none,_,.cons (T7 hO hS) .nil,λ_ _ z=>(by cases z),h,λv H' d M' x1 _ _ x4=>by subst x4;exact x1.mJ⟩
def LO{l:W.OpenLaw}{q:Pg}{Xy:List Str}{XP:(Str->Option Vl)->Heap->Prop}{YP:Wo->Heap->Prop}{d:DefRec}{K:Params->ql}{k:Nat}{x:Str}{sp:qX}(hn:l.most=some 63)(Ze:d.params.defaults=[])(hr:rM k callerA) (hY:∀(w:Wo) (h:Heap),YP w h->(K w.params).In h) (Yg:∀ns:List Int,ns.length<=63->sp [.rl (ns.map D.int)] (λ_=>none) λd _=>d=.bl true) (F:∀(w:Wo) (mg:Str->Option Vl) (fa:Addr) (h:Heap),(K w.params).In h->h.Ns mainGlobals mg->mg d.name=some (.ref fa)->
   ∃fd:FuncData,(∀(s:Sd) (u:Vl),BindsTo s fd ⟨[u],[]⟩ [(x,u)])/\∀base:Heap,(K w.params).In base->base.Ns mainGlobals mg->S6 l.prog w (K w.params) mg base k fa fd [x] sp):
  W.WalkO q Xy XP YP l.row.toRowW d [] (λf vs=>PySem.call f vs):=
 L2.P6 (n:=63) (k:=k) (x:=x) (CX:=λ_=>NI) (sp:=λw=>NK (K w.params) sp) hn (by decide) Ze hr hY F (λ_ _ a ns hl hO hS=>Rj hO hS (Yg ns hl)) λ_ _ _ _ _ z=>z
def KD(K:ql)(mg:Str->Option Vl)(x:Str)(d:D):Prop:=Ca λv u=>mg x=some u/\qH v u/\∀H,rD K H d v
def RM{K:ql}{mg:Str->Option Vl}{x y:Str}{t:Tok}(h:mg x=some (.str y t)):KD K mg x (.str y):=⟨.str y,_,h,⟨t,rfl⟩,λ_=>.str⟩
def vH{K:ql}{mg:Str->Option Vl}{x:Str}{y:Int}{t:Tok}(h:mg x=some (.int y t)):KD K mg x (.int y):=⟨.int y,_,h,⟨t,rfl⟩,λ_=>.int⟩
def ud{K:ql}{a:Addr}{ss:List Str}{us:List Vl}{n:Nat}{sl:Array (Option Vl)}(h:K.lookup a=some ⟨.type "tuple",none,.seq us.toArray n,sl⟩)(r:qw (ss.map V.str) us)(hz:us.length<=1000):uR K (λ_=>none) a (ss.map V.str):=
 .inr ⟨_,us.toArray,n,h,rfl,rfl,rfl,by rw[dz,dM];omega,by simpa using r⟩
theorem zI{K:ql}{H:Hp}:∀{ss:List Str},qa K H (ss.map D.str) (ss.map V.str)
 | []=>.nil
 | _::_=>.cons .str zI
def NQ{K:ql}{mg:Str->Option Vl}{x:Str}{a:Addr}{ss:List Str}(h:mg x=some (.ref a))(q:uR K (λ_=>none) a (ss.map V.str)):KD K mg x (.tup (ss.map D.str)):=
 ⟨.ref a,_,h,rfl,λ_=>.tup (Ja q) zI⟩
variable {d:D}{i:Expr}{td tk:T3}{F:List (Str × List Str)}
def sE(hg:Gl X x)(h:KD X.K X.mg x d)(hd:yk x:=by decide):E3 X (.Name x pos) (c3 d):=by obtain⟨v,u,hm,r,hh⟩:=h;exact PE.mono (Be hg hm r hd) λσ H Q' zz=>x7 zz λδ M Q hs hm ht k=>k _ H _ M (hh H) hm .refl ht
def VZ(F:List (Str×List Str))(ta:T3):T3:=λδ M Q=>ta δ M λx M1=>match x with|.str k=>Q (.bl (KTD.datumAt k F).isSome) M1|_=>False
def To(F:List (Str×List Str))(ta:T3):T3:=λδ M Q=>ta δ M λx M1=>match x with|.str k=>(KTD.datumAt k F).elim False λss=>Q (.tup (ss.map D.str)) M1|_=>False
def Ld(T:LV X.K X.mg x F)(hg:Gl X x)(he:E3 X e ta)(hd:yk x:=by decide)(hmk:behindInMarks .In (.Name x p)=false:=by rfl):E3 X (.Compare e [.In] [.Name x p] pos) (VZ F ta):=by
 obtain⟨a,hm,T⟩:=Gq T;refine PE.mono (Jo (r:=λy z H Q=>∃k,y=.str k/\z=.ref a/\Q (.bl (KTD.datumAt k F).isSome) H) (λWN s σ H y z v u Q I ry rz ⟨k,e1,e2,q⟩=>?_) he (Be (v:=.ref a) hg hm rfl hd) hmk) λσ H Q' zz=>x7 zz λδ M Q hs hm ht k=>⟨δ,M,_,hs,hm,ht,λv H1 d M1 hd WP e1 q1=>?_⟩
 .subst e1 e2;obtain⟨t,rfl⟩:=ry;obtain rfl:u=Value.ref a:=rz;exact QV (T s.heap I.mY) ⟨.bl (KTD.datumAt k F).isSome,H,I.tok _,rfl,q⟩
 .cases d with
  | str k'=>exact⟨k',hd.str_inv,rfl,k _ _ _ _ .bl WP e1 q1⟩
  | _=>exact q1.elim
def Kq(T:LV X.K X.mg x F)(hg:Gl X x)(he:E3 X e ta)(hd:yk x:=by decide)(hs:A7 e:=by exact λ_ _=>rfl):E3 X (.Subscript (.Name x p) e pos) (To F ta):=by
 obtain⟨a,hm,T⟩:=Gq T;refine PE.mono (Ml (r:=λz y H Q=>∃k ss,y=.str k/\z=.ref a/\KTD.datumAt k F=some ss/\∀t,uR X.K H t (ss.map V.str)->Q (.ref t) H) (λvalue WX WN s σ H z y o i Q I rz ry ⟨k,ss,e1,e2,e3,q⟩ hs=>?_) (Be (v:=.ref a) hg hm rfl hd) he hs) λσ H Q' zz=>x7 zz λδ M Q hs hm ht k=>⟨δ,M,_,hs,hm,ht,λv H1 d M1 hd WP e1 q1=>?_⟩
 .subst e1 e2;obtain⟨t,rfl⟩:=ry;obtain rfl:o=Value.ref a:=rz;have hT:=yQ (s:=s) (T s.heap I.mY);have h2:wpAny (model X.prog X.w) X.A (getItem (.ref a) (.str k t)) (EP X WN σ Q) X.xe s:=MK (T s.heap I.mY) e3 λv ⟨t',e4,q4⟩=>⟨.ref t',H,I.tok _,e4,q t' (Ja q4)⟩;unfold subscriptTail;refine cW ?_;rw[j5 hT.not_modules];refine cW (jS hT jr.lookup ?_);have WR:wpAny (model X.prog X.w) X.A (subscripted WX false (.ref a) (.str k t)) (λr s₃=>wpAny (model X.prog X.w) X.A (letTemporaryGo value (.ref a) r>>=λ_=>pure r) (EP X WN σ Q) X.xe s₃) X.xe s:=by rw[hs];exact wpAny_operating (eh h2 (λr s₃ h₃=>cW (kl (dq h₃))) λ_ _ x=>x)
  first
   | exact dq (cW WR)
   | exact cW (dq (cW WR))
   | exact cW WR
 .cases d with
  | str k'=>obtain⟨ss,e4,q2⟩:=qT q1;exact⟨k',ss,hd.str_inv,rfl,e4,λt qt=>k _ _ _ _ (.tup qt zI) WP e1 q2⟩
  | _=>exact q1.elim
def zt(M:Mp)(a:Addr):Option (List (qS×D)):=match M a with
 | some (.dk kvs)=>some kvs
 | _=>none
def vk(kvs:List (qS×D))(k:qS):Option D:=(kvs.find? λp=>decide (p.1=k)).map (·.2)
def y8{K:ql}{H:Hp}{M:Mp}{a:Addr}{kvs:List (qS×D)}(hm:HM K H M)(h:zt M a=some kvs):∃vs,H a=some (.dK vs)/\vs.map (·.1)=kvs.map (·.1)/\qa K H (kvs.map (·.2)) (vs.map (·.2)):=by
 unfold zt at h;cases e:M a with
 | none=>rw[e]at h;cases h
 | some c=>
  rw[e]at h;have ok:=hm a c e;cases c with
  | dk es=>cases h;exact ok
  | ins _ _=>cases h
  | lst _=>cases h
  | exc _=>cases h
theorem Er{K:ql}{H:Hp}{k:qS}:∀{kvs:List (qS×D)} {vs:List (qS×V)},vs.map (·.1)=kvs.map (·.1)->qa K H (kvs.map (·.2)) (vs.map (·.2))->(∀d,vk kvs k=some d->∃v,wO vs k=some v/\rD K H d v)/\(vk kvs k=none->wO vs k=none)
 | [],[],_,_=>⟨λd z=>(by cases z),λ_=>rfl⟩
 | [],_::_,e,_=>by cases e
 | _::_,[],e,_=>by cases e
 | (j,d)::kvs,(j',v)::vs,e,h=>by
  have e1:j'=j:=by simpa using(gq e).1
  subst e1;obtain⟨x,r,e2,h1,h2⟩:=h.inv;obtain⟨e3,e4⟩:=gq e2;subst e3 e4;have ih:=Er (k:=k) (kvs:=kvs) (vs:=vs) (gq e).2 h2;by_cases hk:j'=k
  .have g:vk ((j',d)::kvs) k=some d:=by simp[vk,hk]
   have g':wO ((j',v)::vs) k=some v:=by simp[wO,hk]
   rw[g,g'];exact⟨λd' z=>by cases z;exact⟨v,rfl,h1⟩,λz=>by cases z⟩
  .have g:vk ((j',d)::kvs) k=vk kvs k:=by simp[vk,hk]
   have g':wO ((j',v)::vs) k=wO vs k:=by simp[wO,hk]
   rw[g,g'];exact ih
def Nk(x y:D)(M:Mp)(Q:DK):Prop:=match x,y with
 | .ref a,.str k=>(zt M a).elim False λkvs=>(vk kvs (.inr k)).elim False λd=>Q d M
 | _,_=>False
def TV(td tk:T3):T3:=λδ M Q=>td δ M λx M1=>tk δ M1 λy M2=>Nk x y M2 Q
def yS(hu:X.A.units+9<cLine)(ho:E3 X o td)(hi:E3 X i tk)(hs:A7 i:=by exact λ_ _=>rfl):E3 X (.Subscript o i pos) (TV td tk):=by
 refine PE.mono (Ml (r:=R3 X.K Nk) (λvalue WX WN s σ H vx vy v u Q' I rx ry h hs=>?_) ho hi hs) Ik;obtain⟨x,y,M,Q,hx,hy,hm,q,k⟩:=h;unfold Nk at q;split at q
 .rename_i a0 k0;obtain⟨kvs,e1,q⟩:=qT q;obtain⟨d,e2,q⟩:=qT q;cases hx.mF;cases hy.str_inv;obtain⟨vs,h1,h2,h3⟩:=y8 hm e1;obtain⟨w,e3,hw⟩:=(Er h2 h3).1 d e2;refine OR (by omega) value WX WN s σ H _ _ v u Q' I rx ry ⟨_,w,rfl,?_,k _ _ _ _ hw hm .refl q⟩ hs;have g:=E7.k (k:=Sum.inr k0) h1;rw[e3]at g;exact g
 .exact q.elim
def R7(Yj:Bool)(x y:D)(M:Mp)(Q:DK):Prop:=match x,y with
 | .str k,.ref a=>(zt M a).elim False λkvs=>Q (.bl (if Yj then !(vk kvs (.inr k)).isSome else(vk kvs (.inr k)).isSome)) M
 | _,_=>False
def Lh{K:ql}{H:Hp}{k:qS}{kvs:List (qS×D)}{vs:List (qS×V)}(h2:vs.map (·.1)=kvs.map (·.1))(h3:qa K H (kvs.map (·.2)) (vs.map (·.2))):(wO vs k).isSome=(vk kvs k).isSome:=by
 obtain⟨a,b⟩:=Er (k:=k) h2 h3;cases e:vk kvs k with
 | none=>rw[b e];rfl
 | some d=>obtain⟨v,e3,_⟩:=a d e;rw[e3];rfl
def VV(Yj:Bool)(tk td:T3):T3:=λδ M Q=>tk δ M λx M1=>td δ M1 λy M2=>R7 Yj x y M2 Q
def UE(hu:X.A.units+9<cLine):xg X (compareOp .In) (R3 X.K (R7 false)):=λWN s σ H vx vy v u Q' I rx ry h=>by
 obtain⟨x,y,M,Q,hx,hy,hm,q,k⟩:=h;unfold R7 at q;split at q
 .obtain⟨kvs,e1,q⟩:=qT q;cases hy.mF;cases hx.str_inv;obtain⟨vs,h1,h2,h3⟩:=y8 hm e1;refine Q0 (by omega) WN s σ H _ _ v u Q' I rx ry ⟨_,_,rfl,E7.k (k:=Sum.inr _) h1,?_⟩;rw[Lh h2 h3];exact k _ _ _ _ .bl hm .refl q
 .exact q.elim
def KU(hu:X.A.units+9<cLine)(hi:E3 X i tk)(ho:E3 X o td)(hm:behindInMarks .In o=false:=by first|exact HY _|with_unfolding_all rfl):B3 X (.Compare i [.In] [o] pos) (b3 (VV false tk td)):=PT.mono (IX (UE hu) hi ho hm) λσ H Q' zz=>x7 zz λδ M Q hs hm ht k=>
 Ik σ H _ ⟨δ,M,_,hs,hm,ht,λv H1 d M1 hd WP e1 q1=>by
  cases d with
  | bl c=>exact⟨c,hd.mJ,k c H1 M1 WP e1 q1⟩
  | _=>exact q1.elim⟩
def wD:List D->Option (List (qS×D))
 | []=>some []
 | .tup [.str k,d]::r=>(wD r).map ((.inr k,d)::·)
 | _::_=>none
theorem DT{K:ql}{H:Hp}:∀{es:List D} {kvs:List (qS×D)} {xs:List V},wD es=some kvs->qa K H es xs->∃(ts:List Addr) (vs:List (qS×V)),xs=ts.map V.ref/\ts.length=vs.length/\vs.map (·.1)=kvs.map (·.1)/\qa K H (kvs.map (·.2)) (vs.map (·.2))/\
  ∀(j:Nat) (t:Addr) (p:qS×V),ts[j]?=some t->vs[j]?=some p->uR K H t [kV p.1,p.2]
 | [],_,_,e,h=>by cases e;exact⟨[],[],h.nil_inv,rfl,rfl,.nil,λj t p z=>by simp at z⟩
 | d::es,kvs,xs,e,h=>by
  obtain⟨x,r,rfl,h1,h2⟩:=h.inv;unfold wD at e;split at e
  .rename_i z;cases z
  .rename_i k d' r' z;cases z;cases q:wD es with
   | none=>rw[q]at e;cases e
   | some kvs'=>
    rw[q]at e;cases e;obtain⟨ts,vs,e1,e2,e3,e4,e5⟩:=DT q h2;obtain⟨a,ys,rfl,g1,g2⟩:=h1.mM;obtain⟨y,r1,rfl,g3,g4⟩:=g2.inv;obtain⟨w,r2,rfl,g5,g6⟩:=g4.inv;cases g6.nil_inv;cases g3.str_inv;refine⟨a::ts,(.inr k,w)::vs,by rw[e1];rfl,by simpa using e2,by rw[dY,dY,e3],.cons g5 e4,λj t p z1 z2=>?_⟩;cases j with
    | zero=>
     have z1':a=t:=by simpa using z1
     have z2':(Sum.inr k,w)=p:=by simpa using z2
     subst z1' z2';exact g1
    | succ j=>exact e5 j t p (by simpa using z1) (by simpa using z2)
  .cases e
def Qn(ds:List D)(M:Mp)(Q:DK):Prop:=match ds with
 | [.ref a]=>(oJ M a).elim False λes=>(wD es).elim False λkvs=>(kvs.map (·.1)).Nodup/\∀p,M p=none->Q (.ref p) (pz M p (.dk kvs))
 | _=>False
def EU(hc:X.calm=true):C3 X (.type "dict") Qn:=by
 intro WN s σ H vs us Q' I rv h;obtain⟨ds,M,Q,hd,hm,q,k⟩:=h;unfold Qn at q;split at q
 .obtain⟨es,e1,q⟩:=qT q;obtain⟨kvs,e2,hnd,q⟩:=qT q;obtain⟨v,rfl,hv⟩:=sd hd;cases hv.mF;obtain⟨xs,h1,h2,_⟩:=qo hm e1;obtain⟨ts,ws,rfl,f2,f3,f4,f5⟩:=DT e2 h2;refine Ij hc WN s σ H _ us Q' I rv ⟨_,ts,ws,rfl,h1,f2,f5,by rw[f3];exact hnd,λd hd=>?_⟩;have e:qK X.K H (upd H d (.dK ws)):=.new hd;exact k _ _ _ _ .ref (hm.new (c:=.dk kvs) hd ⟨_,qe,f3,f4.mono e⟩) e (q d (hm.fresh hd))
 .exact q.elim
def RE:bootBuiltins "set"=some (.type "set"):=by decide+kernel
def Bk:List D->Option (List Str)
 | []=>some []
 | .str x::r=>(Bk r).map (x::·)
 | _::_=>none
theorem B':∀ss:List Str,Bk (ss.map D.str)=some ss
 | []=>rfl
 | x::r=>by show(Bk (r.map D.str)).map (x::·)=_;rw[B' r];rfl
theorem Gb{K:ql}{H:Hp}:∀{ds:List D} {ss:List Str} {xs:List V},Bk ds=some ss->qa K H ds xs->xs=ss.map V.str
 | [],_,_,e,h=>by cases e;exact h.nil_inv
 | d::ds,_,_,e,h=>by
  obtain⟨x,r,rfl,h1,h2⟩:=h.inv;cases d with
  | str z=>
   unfold Bk at e;cases q:Bk ds with
   | none=>rw[q]at e;cases e
   | some ss=>rw[q]at e;cases e;rw[h1.str_inv,Gb q h2];rfl
  | _=>cases e
def Uz(ta:T3):T3:=λδ M Q=>ta δ M λx M1=>(K4 M1 x).elim False λes=>(Bk es).elim False λss=>ss.length<4000/\Q (.int (sN ss).length) M1
def Ku{p2 Yw:Pos}(hc:X.calm=true)(he:E3 X e ta)(hg1:Gl X "len")(WP:X.mg "len"=none)(hg2:Gl X "set")(W7:X.mg "set"=none)(b1:bootBuiltins "len"=some (.builtin "len"))(b2:bootBuiltins "set"=some (.type "set")) (hs:starEach [e] X.env=[(false,eval e X.env)]:=by rfl):E3 X (.Call (.Name "len" p) [.Call (.Name "set" p2) [e] [] Yw] [] pos) (Uz ta):=
 PE.mono (KG hc he hg1 WP hg2 W7 b1 b2 hs) λσ H Q' zz=>x7 zz λδ M Q hs hm ht k=>⟨δ,M,_,hs,hm,ht,λv H1 d M1 hd WP e1 q1=>by
  obtain⟨es,e2,q1⟩:=qT q1;obtain⟨ss,e3,hz,q1⟩:=qT q1;obtain⟨a,xs,rfl,h1,h2⟩:=EE WP hd e2;rw[Gb e3 h2]at h1;have z:scanBound=4096:=rfl;exact⟨a,ss,rfl,h1,by omega,k _ _ _ _ .int WP e1 q1⟩⟩
def Rm(x:D)(ds:List D)(M:Mp)(Q:DK):Prop:=match x,ds with
 | .ref a,[y]=>(oJ M a).elim False λes=>es.length<sizeLine/\Q .mH (pz M a (.lst (es++[y])))
 | _,_=>False
def pW{M:Mp}{a:Addr}{es:List D}(h:oJ M a=some es):M a=some (.lst es):=by
 unfold oJ at h;split at h
 .rename_i e;rw[e];cases h;rfl
 .cases h
def Et{K:ql}{H:Hp}{M:Mp}{a:Addr}{es:List D}(hm:HM K H M)(h:oJ M a=some es):∃xs,H a=some (.lst xs)/\qa K H es xs:=hm a _ (pW h)
def Ko:M3 X "list.append" Rm:=by
 intro WN s σ H vx vs v us Q' I rx rv h;obtain⟨x,ds,M,Q,hx,hd,hm,q,k⟩:=h;unfold Rm at q;split at q
 .obtain⟨es,e1,hz,q⟩:=qT q;obtain⟨w,rfl,hw⟩:=sd hd;cases hx.mF;obtain⟨xs,h1,h2⟩:=Et hm e1;refine KM WN s σ H _ _ v us Q' I rx rv ⟨_,xs,w,rfl,rfl,h1,by rw[<-h2.length];exact hz,?_⟩;obtain⟨W7,ex⟩:=hm.put (c:=.lst (es++[_])) (pW e1) λex=>⟨_,qe,(h2.mono ex).snoc (hw.mono ex)⟩;exact k _ _ _ _ .mH W7 ex q
 .exact q.elim
def rH(ho:E3 X o ta)(ha:A3 X (e::es) t)(W0:attributeBase o "append" X.env (eval o X.env)=eval o X.env:=by rfl)
  (X4:((backTo pos (starEach (e::es) X.env)).all (λx=>!x.1)&&(backToKw pos (keywordEach [] X.env)).all (λx=>x.1.isSome)&&decide ((e::es).length+([]:List Keyword).length+(if ([]:List Keyword).isEmpty then 0 else 1)<30))=true:=by rfl)
  (Xb:(WQ.endLine==pos.line)=true:=by rfl) (hs:AH X e es:=by rfl) (W6:Cw X pos es:=by rfl):
  E3 X (.Call (.Attribute o "append" WQ) (e::es) [] pos) (VX Rm ta t):=Qq PySem.F.slot_list_append PySem.F.type_list_append Ko ho ha W0 X4 Xb hs W6
def qx.none{M M2:Mp}{q:Addr}(s:qx M M2)(h:M2 q=none):M q=none:=by
 cases e:M q with
 | none=>rfl
 | some c=>rw[s q c e]at h;cases h
def qx.upd{M M2:Mp}{q:Addr}{c:uT}(s:qx M M2):qx (pz M q c) (pz M2 q c):=λx d h=>by
 by_cases e:x=q
 .subst e;rw[pL]at h ⊢;exact h
 .rw[tU e]at h ⊢;exact s x d h
def qx.dk{M M':Mp}{a:Addr}{ds:List (qS×D)}(s:qx M M')(h:zt M a=some ds):zt M' a=some ds:=by
 unfold zt at h ⊢;cases e:M a with
 | none=>rw[e]at h;cases h
 | some c=>rw[s a c e];rw[e]at h;exact h
def sr(p:Addr)(M M':Mp):Prop:=∀b c,b≠p->M b=some c->M' b=some c
def qx.keep{M M':Mp}{p:Addr}(s:qx M M'):sr p M M':=λb c _ h=>s b c h
def sr.trans{M M1 M2:Mp}{p:Addr}(a:sr p M M1)(b:sr p M1 M2):sr p M M2:=λx c n h=>b x c n (a x c n h)
def sr.put{M:Mp}{p:Addr}{c:uT}:sr p M (pz M p c):=λb d n h=>by rw[tU n];exact h
def sr.lst{M M':Mp}{p a:Addr}{ds:List D}(k:sr p M M')(n:a≠p)(h:oJ M a=some ds):oJ M' a=some ds:=by have:=k a _ n (pW h);unfold oJ;rw[this]
def sr.dk{M M':Mp}{p a:Addr}{ds:List (qS×D)}(k:sr p M M')(n:a≠p)(h:zt M a=some ds):zt M' a=some ds:=by
 unfold zt at h ⊢;cases e:M a with
 | none=>rw[e]at h;cases h
 | some c=>rw[k a c n e];rw[e]at h;exact h
def pO{M:Mp}{a p C:Addr}{ds:List D}{fs:List (Str×D)}(h:oJ M a=some ds)(hp:M p=some (.ins C fs)):a≠p:=λz=>by subst z;rw[pW h]at hp;cases hp
def BA{M:Mp}{a p C:Addr}{ds:List (qS×D)}{fs:List (Str×D)}(h:zt M a=some ds)(hp:M p=some (.ins C fs)):a≠p:=λz=>by subst z;unfold zt at h;rw[hp]at h;cases h
def rT{M:Mp}{p:Addr}{ds:List D}(h:M p=some (.lst ds)):oJ M p=some ds:=by unfold oJ;rw[h]
def Cf{M:Mp}{p:Addr}{ds:List (qS×D)}(h:M p=some (.dk ds)):zt M p=some ds:=by unfold zt;rw[h]
def sX{N:Mp}{p q C:Addr}{fs fs':List (Str×D)}{c:uT}(hp:N p=some (.ins C fs))(hq:N q=none):
  q≠p/\pz N q c p=some (.ins C fs)/\sr p N (pz (pz N q c) p (.ins C fs'))/\pz (pz N q c) p (.ins C fs') q=some c/\pz (pz N q c) p (.ins C fs') p=some (.ins C fs'):=by
 have n:p≠q:=S4 hp hq;refine⟨dO n,by rw[tU n];exact hp,(qx.new hq).keep.trans .put,by rw[tU (dO n),pL],pL⟩
theorem Bb{g:DP}{te:T3}{ok:Mp->Prop}{Q:DK}(all:List D)(J:List D->List D->vh->Mp->Prop)(mO:∀p acc δ M,J p acc δ M->ok M):∀(ds pre acc:List D) (δ:vh) (M:Mp),pre++ds=all->acc.length+ds.length<=sizeLine->J pre acc δ M->
  (∀pre d post,pre++d::post=all->∀acc δ M,J pre acc δ M->∀k:vh->DK,(∀δ2 y M4,J (pre++[d]) (acc++[y]) δ2 M4->k δ2 y M4)->g d δ M λδ2 M2=>te δ2 M2 (k δ2))->
  (∀acc δ M,J all acc δ M->∀p,M p=none->Q (.ref p) (pz M p (.lst acc)))->uQ g BM te ok Q ds acc δ M
 | [],pre,acc,δ,M,e,hl,j,_,hq=>⟨by simpa using hl,hq acc δ M (by rw[<-e,eO];exact j)⟩
 | d::r,pre,acc,δ,M,e,hl,j,ht,hq=>by rw[eB]at hl;refine⟨by omega,?_⟩;refine ht pre d r e acc δ M j (λδ2 y M4=>ok M4/\uQ g BM te ok Q r (acc++[y]) δ2 M4) λδ2 y M4 j'=>⟨mO _ _ _ _ j',Bb all J mO r (pre++[d]) (acc++[y]) δ2 M4 (by rw[<-e,fj];rfl) ?_ j' ht hq⟩;rw[cZ,dP];omega
def so:Nat->D->Bool
 | _,.mH=>true
 | _,.bl _=>true
 | _,.int _=>true
 | _,.str _=>true
 | n+1,.tup ds=>ds.all (so n)
 | _,_=>false
theorem yC{f:D->D->Option Bool}:∀ds:List D,(∀d∈ds,f d d=some true)->sI f ds ds=some true
 | [],_=>rfl
 | d::r,h=>by show(f d d).bind (λp=>(sI f r r).map λq=>p&&q)=some true;rw[h d dJ,yC r λe he=>h e (dC _ he)];rfl
theorem zw{M:Mp}:∀(n:Nat) (d:D),so n d=true->yc M (n+1) d d=some true
 | _,.mH,_=>rfl
 | _,.bl _,_=>by simp[yc]
 | _,.int _,_=>by simp[yc]
 | _,.str _,_=>by simp[yc]
 | n+1,.tup ds,h=>by have h:ds.all (so n)=true:=h;show(sI (yc M (n+1)) ds ds).map (λp=>p&&ds.length==ds.length)=some true;rw[yC ds λd hd=>zw n d (eF.mp h d hd)];simp
 | 0,.tup _,h=>by cases h
 | 0,.ref _,h=>by cases h
 | _+1,.ref _,h=>by cases h
 | 0,.ty _,h=>by cases h
 | _+1,.ty _,h=>by cases h
 | 0,.rl _,h=>by cases h
 | _+1,.rl _,h=>by cases h
def DF{M:Mp}{n:Nat}{a b:Addr}{ds:List D}(ha:oJ M a=some ds)(hb:oJ M b=some ds)(h:∀d∈ds,yc M n d d=some true):yc M (n+1) (.ref a) (.ref b)=some true:=by show(oJ M a).bind (λi=>(oJ M b).bind λj=>if i.length=j.length then sI (yc M n) i j else some false)=some true;rw[ha,hb];show(if ds.length=ds.length then sI (yc M n) ds ds else some false)=some true;rw[dg rfl];exact yC ds h
def R1(tc:Ae)(tb:xc):xc:=λE δ M=>∃W:Nat->vh->Mp->Prop,(∃m,W m δ M)/\∀m δ M,W m δ M->
 tc δ M λb M1=>if b=true then tb {E with nx:=λδ' M'=>∃m',m'<m/\W m' δ' M',ct:=λδ' M'=>∃m',m'<m/\W m' δ' M',bk:=E.nx} δ M1 else E.nx δ M1
def Nm{c:Expr}{body:List Stmt}{tc:Ae}{tb:xc}(hp:PassesOwn (model X.prog X.w) X.A X.env X.xe)(hc:B3 X c tc)(hb:G9 X body tb):S3 X (.While c body [] pos) (R1 tc tb):=
 PS.mono (Mw hp hc hb) λD' σ H ⟨δ,M,E,hs,hm,⟨W,⟨m0,w0⟩,turn⟩,k1,k2,k3,k4⟩=>by
 refine⟨λm σ' H'=>∃δ' M',zC X.K H' σ' δ'/\HM X.K H' M'/\qK X.K H H'/\σ'.length=σ.length/\W m δ' M',⟨m0,δ,M,hs,hm,.refl,rfl,w0⟩,?_⟩
 rintro m σ1 H1 ⟨δ1,M1,ZL,WP,e1,l1,w1⟩
 refine⟨δ1,M1,_,ZL,WP,turn m δ1 M1 w1,λb H2 M2 W7 e2 q2=>?_⟩;cases b with
 | false=>rw[de dB]at q2 ⊢;exact k1 σ1 H2 δ1 M2 (ZL.mono e2) W7 (e1.trans e2) l1 q2
 | true=>
  rw[dg rfl]at q2 ⊢;refine⟨λσ' H'=>∃δ' M',zC X.K H' σ' δ'/\HM X.K H' M'/\qK X.K H H'/\σ'.length=σ.length/\∃m',m'<m/\W m' δ' M',?_,δ1,M2,_,ZL.mono e2,W7,q2,?_,?_,?_,?_⟩
  .rintro σ' H' ⟨δ',M',a1,a2,a3,a4,m',lt,w⟩
   exact⟨m',lt,δ',M',a1,a2,a3,a4,w⟩
  .exact λσ' H' δ' M' y1 y2 y3 y4 y5=>⟨δ',M',y1,y2,e1.trans (e2.trans y3),by rw[y4,l1],y5⟩
  .exact λv H' d M' y1 y2 y3 y4=>k2 v H' d M' y1 y2 (e1.trans (e2.trans y3)) y4
  .exact λσ' H' δ' M' y1 y2 y3 y4 y5=>k1 σ' H' δ' M' y1 y2 (e1.trans (e2.trans y3)) (by rw[y4,l1]) y5
  .exact λσ' H' δ' M' y1 y2 y3 y4 y5=>⟨δ',M',y1,y2,e1.trans (e2.trans y3),by rw[y4,l1],y5⟩
def SB(op:Operator)(x y:D):Option D:=match op,x,y with
 | .Add,.int i,.int j=>some (.int (i+j))
 | .Sub,.int i,.int j=>some (.int (i - j))
 | _,_,_=>none
def SD(op:Operator):V->V->Hp->VK->Prop:=λvx vy H Q=>match op,vx,vy with
 | .Add,.int i,.int j=>Q (.int (i+j)) H
 | .Sub,.int i,.int j=>Q (.int (i - j)) H
 | _,_,_=>False
def QQ{op:Operator}:Qj X op (SD op):=by
 intro WN s σ H x y u v Q I rx ry h;unfold SD at h;split at h
 .exact Q9 WN s σ H _ _ u v Q I rx ry ⟨_,_,rfl,rfl,h⟩
 .exact QU WN s σ H _ _ u v Q I rx ry ⟨_,_,rfl,rfl,h⟩
 .exact h.elim
def O9{K:ql}{H:Hp}{op:Operator}{x y z:D}{vx vy:V}{Q:VK}(hx:rD K H x vx)(hy:rD K H y vy)(e:SB op x y=some z)(k:∀vz,rD K H z vz->Q vz H):SD op vx vy H Q:=by
 unfold SB at e;split at e
 .cases e;cases hx.int_inv;cases hy.int_inv;exact k _ .int
 .cases e;cases hx.int_inv;cases hy.int_inv;exact k _ .int
 .cases e
def S9(K:ql)(f:Str)(op:Operator)(ta tv:T3):xc:=λE δ M=>ta δ M λx M1=>match x with
 | .ref a=>zU (M1 a) λC fs=>tX K C f/\(fs.lookup f).elim False λd=>tv δ M1 λy M2=>(SB op d y).elim False λz=>zU (M2 a) λC' fs'=>C'=C/\fs'.length<1000/\E.nx δ (pz M2 a (.ins C (vQ f z fs')))
 | _=>False
def Dv{o value:Expr}{ta tv:T3}{f:Str}{op:Operator}{YT:Pos}(ha:E3 X o ta)(hv:E3 X value tv):S3 X (.AugAssign (.Attribute o f YT) op value pos) (S9 X.K f op ta tv):=
 PS.mono (JU ha hv QQ) λD' σ H zz=>KP zz λδ M E hs hm ht k1 k2 k3 k4=>
 ⟨δ,M,_,hs,hm,ht,λv H1 d M1 hd WP e1 q1=>by
  cases d with
  | ref a=>
   cases hd.mF;obtain⟨C,fs,e,q1⟩:=xn q1;obtain⟨na,q1⟩:=q1;obtain⟨d,ed,q1⟩:=qT q1;obtain⟨dx,vs,h1,cl,nn,fo⟩:=WP a _ e;obtain⟨w,ew,hw⟩:=(wR fo).1 d ed;refine⟨a,C,dx,vs,w,rfl,h1,cl,na,ew,δ,M1,_,hs.mono e1,WP,q1,λu H2 y M2 hy W7 e2 q2=>?_⟩;obtain⟨z,ez,q2⟩:=qT q2;obtain⟨C',fs',e',q2⟩:=xn q2;obtain⟨rfl,hl,q2⟩:=q2;refine O9 (hw.mono e2) hy ez λvz hz=>?_;obtain⟨Zv,vs',Xt,cl',nn',fo'⟩:=W7 a _ e';have WT:vs'.length=fs'.length:=by have:=eY List.length fo'.1;simpa using this
   refine⟨Zv,vs',Xt,by omega,?_⟩;obtain⟨XJ,e3⟩:=W7.put (p:=a) (o:=.ins C' Zv (vm f vz vs')) (c:=.ins C' (vQ f z fs')) e' λx=>⟨Zv,_,qe,cl',λg hg=>by
    rcases Cn hg with q|q
    .rw[q];exact na
    .exact nn' g q,Ft (hz.mono x) (fo'.mono x)⟩
   exact k1 σ _ δ _ (hs.mono (e1.trans (e2.trans e3))) XJ (e1.trans (e2.trans e3)) rfl q2
  | _=>exact q1.elim⟩
theorem tH{i:Nat}{tt:Ae}{te:T3}{ok:Mp->Prop}{Q:DK}{f:D->D}{t:D->Bool}{M:Mp}(mO:ok M):∀(ds acc:List D) (δ:vh),acc.length+ds.length<=sizeLine->
  (∀d∈ds,∀k:Bool->Mp->Prop,k (t d) M->tt (δ.set i (some d)) M k)->(∀d∈ds,t d=true->∀k:DK,k (f d) M->te (δ.set i (some d)) M k)->
  (∀p,M p=none->Q (.ref p) (pz M p (.lst (acc++(ds.filter t).map f))))->uQ (uG i) tt te ok Q ds acc δ M
 | [],acc,δ,hl,_,_,hq=>⟨by simpa using hl,by simpa using hq⟩
 | d::r,acc,δ,hl,ht,he,hq=>by
  rw[eB]at hl;refine⟨by omega,?_⟩;show tt (δ.set i (some d)) M _;refine ht d dJ _ ?_;have z:∀e:D,(δ.set i (some d)).set i (some e)=δ.set i (some e):=λe=>by rw[jF]
  cases q:t d with
  | true=>
   rw[dg rfl];refine he d dJ q _ ⟨mO,tH (f:=f) (t:=t) mO r (acc++[f d]) _ ?_ (λe m k h=>?_) (λe m h0 k h=>?_) ?_⟩
   .rw[cZ,dP];omega
   .rw[z];exact ht e (dC _ m) k h
   .rw[z];exact he e (dC _ m) h0 k h
   .intro p hp;have:=hq p hp;rw[iB q]at this
    simpa using this
  | false=>
   rw[de dB];refine⟨mO,tH (f:=f) (t:=t) mO r acc _ (by omega) (λe m k h=>?_) (λe m h0 k h=>?_) ?_⟩
   .rw[z];exact ht e (dC _ m) k h
   .rw[z];exact he e (dC _ m) h0 k h
   .intro p hp;have:=hq p hp;rw[iC (by rw[q];exact dB)]at this;exact this
section
variable {a:Expr}
def Vg(ta:T3):T3:=λδ M Q=>ta δ M λx M1=>match x with|.int i=>Q (.int (-i)) M1|_=>False
def D8(ha:E3 X a ta):E3 X (.UnaryOp .USub a pos) (Vg ta):=PE.mono (Ti QS ha) λσ H Q' zz=>x7 zz λδ M Q hs hm ht k=>
 ⟨δ,M,_,hs,hm,ht,λv H1 d M1 hd WP e1 q1=>by
  cases d with
  | int i=>cases hd.int_inv;exact⟨i,rfl,k _ H1 _ M1 .int WP e1 q1⟩
  | _=>exact q1.elim⟩
end
end L3
namespace L2
open PySem PySem.Spec PyProof.Rows PySem.W
def Ct{α:Type}(lt:Nat->Nat->Bool):KasT α->α
 | .ret a=>a
 | .ask i j k=>Ct lt (k (lt i j))
def vd(n:Nat):KasT (Array Nat)->Bool
 | .ret p=>p.size==n&&p.toList.all λi=>decide (i<n)
 | .ask i j k=>decide (i<n)&&decide (j<n)&&vd n (k true)&&vd n (k false)
def GZ{n i j:Nat}{k:Bool->KasT (Array Nat)}(h:vd n (.ask i j k)=true):i<n/\j<n/\∀b,vd n (k b)=true:=by simp only[vd,dW,eA]at h;exact⟨h.1.1.1,h.1.1.2,λb=>by cases b;exact h.2;exact h.1.2⟩
theorem Gp{cmp:Nat->Nat->(Bool->Sd->Prop)->Sd->Prop}{lt:Nat->Nat->Bool}{n:Nat}{s:Sd}{Q:Array Nat->Sd->Prop}(hc:∀i j (C:Bool->Sd->Prop),i<n->j<n->C (lt i j) s->cmp i j C s):
  ∀t:KasT (Array Nat),vd n t=true->Q (Ct lt t) s->t.kasWp cmp Q s
 | .ret _,_,q=>q
 | .ask i j k,hb,q=>by obtain⟨h1,h2,h3⟩:=GZ hb;exact hc i j _ h1 h2 (Gp hc (k (lt i j)) (h3 _) q)
theorem Jf{lt:Nat->Nat->Bool}{n:Nat}:∀t:KasT (Array Nat),vd n t=true->(Ct lt t).size=n/\∀i∈(Ct lt t).toList,i<n
 | .ret p,hb=>by simp only[vd,dW,fg,eF,eA]at hb;exact hb
 | .ask i j k,hb=>Jf (k (lt i j)) ((GZ hb).2.2 _)
def tJ(lt:Nat->Nat->Bool)(n:Nat):List Nat:=if n<2 then List.range n else(Ct lt (kas_sort n)).toList
def VA:vd 2 (kas_sort 2)=true:=by decide+kernel
def U':vd 3 (kas_sort 3)=true:=by decide+kernel
def TL{n:Nat}(h2:2<=n)(h3:n<=3):vd n (kas_sort n)=true:=by
 have:n=2\/n=3:=by omega
 rcases this with rfl|rfl
 .exact VA
 .exact U'
def xP{lt:Nat->Nat->Bool}{n:Nat}(h3:n<=3):(tJ lt n).length=n/\∀i∈tJ lt n,i<n:=by
 unfold tJ;by_cases h:n<2
 .rw[dg h,eE];exact⟨rfl,λi hi=>gg.mp hi⟩
 .rw[de h];obtain⟨h1,h2⟩:=Jf (lt:=lt) (kas_sort n) (TL (by omega) h3);exact⟨by rw[ii];exact h1,h2⟩
variable {prog:Pg}{w:Wo}{A:Ar}{E:Vl→Sd→Prop}{s:Sd}
def CW{a:Addr}{vs:List Vl}{n:Nat}{κ:SortKind}{lt:Nat->Nat->Bool}{P:PySem.Fin->Sd->Prop}(ho:s.heap.get? a=some (seqObj "list" vs.toArray n))(h3:vs.length<=3) (hk:∀h' (Q:SortKind->Sd->Prop),0<vs.length->(∀b o,b≠a->s.heap.get? b=some o->h'.get? b=some o)->Q κ {s with heap:=h'}->wpAny (model prog w) A (keyKind' vs.toArray) Q (λ_ _=>False) {s with heap:=h'})
  (W1:∀h' i j (C:Bool->Sd->Prop),(∀b o,b≠a->s.heap.get? b=some o->h'.get? b=some o)->i<vs.length->j<vs.length->C (lt i j) {s with heap:=h'}->wpAny (model prog w) A (keyLt' κ (vs.getD i .none) (vs.getD j .none)) C (λ_ _=>False) {s with heap:=h'})
  (h:P (.done (.ret .none)) {s with heap:=sortedHeap s.heap a vs (List.toArray ((tJ lt vs.length).map λi=>vs.getD i Value.none))}):
  wpAny (model prog w) A (Builtin.«list.sort» ⟨[.ref a],[]⟩) P E s:=by
 rw[list_sort_plain];have hz:=dM;have ha:a<s.heap.objs.size:=dA ho;refine cW (listItems_at ho rfl ?_);refine cW (ky ho rfl ?_ (by rw[dz];omega) (eG _));obtain⟨e1,ZD⟩:∃e1,(s.heap.update a (Obj.mapSeq λ_=>#[])).get? a=some (seqObj "list" #[] e1):=⟨_,get?_update_seq ho (λ_=>#[])⟩;refine cW (lA ZD rfl ?_);refine cW (wpAny_newTuple ?_ (by show vs.length<=_;omega));refine cW (wpAny_newList ?_ (eG _));refine eU ?_;have ho6:(((s.heap.update a (Obj.mapSeq λ_=>#[])).push (seqObj "tuple" vs.toArray 0)).push (seqObj "list" #[] 0)).get? a=some (seqObj "list" #[] e1):=by rw[iF _ _ _ (by rw[lX,iJ];exact dH (fV ha)),iF _ _ _ (by rw[iJ];exact dH ha)];exact ZD
 have keep:∀b o,b≠a->s.heap.get? b=some o->(((s.heap.update a (Obj.mapSeq λ_=>#[])).push (seqObj "tuple" vs.toArray 0)).push (seqObj "list" #[] 0)).get? b=some o:=λb o hb q=>by have W1:b<s.heap.objs.size:=dA q;rw[iF _ _ _ (by rw[lX,iJ];exact dH (fV W1)),iF _ _ _ (by rw[iJ];exact dH W1),iX _ _ _ _ hb];exact q
 show wpAny (model prog w) A _ P E {s with heap:=((s.heap.update a (Obj.mapSeq λ_=>#[])).push (seqObj "tuple" vs.toArray 0)).push (seqObj "list" #[] 0)};dsimp only;have hsz:vs.toArray.size=vs.length:=by simp
 by_cases h2:vs.toArray.size<2
 .rw[dg h2,dg h2];refine cW (dq ?_);rw[StateT.run_pure];refine cW (dq ?_);dsimp only;refine cW (lA ho6 rfl ?_);have eo:(arrOf (SortSt.mk' general' (vs.toArray.zip vs.toArray) #[] 7 none)).map (·.2)=List.toArray ((tJ lt vs.length).map λi=>vs.getD i Value.none):=by
   unfold tJ;rw[dg (by omega)];show((vs.toArray.zip vs.toArray).map (·.2))=_
   match vs,hsz,h2 with
   | [],_,_=>simp
   | [_],_,_=>simp[iS]
   | _::_::_,_,h2=>simp at h2;omega
  rw[eo];refine cW (ky ho6 rfl ?_ (eG _) (by rw[dz,cV,(xP h3).1];omega));simp only[lu,kQ,ke];exact dq h
 .rw[de h2,de h2];have g2:2<=vs.length:=by omega
  refine cW (eh (hk _ (λκ' s'=>κ'=κ/\s'={s with heap:=((s.heap.update a (Obj.mapSeq λ_=>#[])).push (seqObj "tuple" vs.toArray 0)).push (seqObj "list" #[] 0)}) (by omega) keep ⟨rfl,rfl⟩) ?_ λ_ _ x=>x.elim)
  rintro κ' s' ⟨rfl,rfl⟩
  refine cW (eh (kat_run (ks:=vs) (vs:=vs) (Q:=λXB s'=>∃p:Array Nat,arrOf XB=p.map (kas_item (vs.toArray.zip vs.toArray))/\failedOf XB=none/\p.toList=tJ lt vs.length/\s'={s with heap:=((s.heap.update a (Obj.mapSeq λ_=>#[])).push (seqObj "tuple" vs.toArray 0)).push (seqObj "list" #[] 0)})
   (G:=λp s'=>p.toList=tJ lt vs.length/\s'={s with heap:=((s.heap.update a (Obj.mapSeq λ_=>#[])).push (seqObj "tuple" vs.toArray 0)).push (seqObj "list" #[] 0)})
   rfl g2 (by omega) (λp' XB s' a1 a2 a3 a4=>⟨p',a2,a3,a4⟩) (Gp (n:=vs.length) (lt:=lt) (λi j C hi hj hC=>W1 _ i j C keep hi hj hC) _ (TL g2 h3) ⟨by unfold tJ;rw[de (by omega)],rfl⟩)) ?_ λ_ _ e=>e)
  rintro ⟨⟨⟩,XB⟩ s' ⟨p,har,hf,hp,rfl⟩
  dsimp only;have hout:=kat_snds rfl har;rw[hp]at hout;refine cW (lA ho6 rfl ?_);rw[hout];refine cW (ky ho6 rfl ?_ (eG _) (by rw[dz,cV,(xP h3).1];omega));rw[hf];simp only[lu,kQ,ke];exact dq h
def UU(a b:Str×Int):Bool:=if a.1==b.1 then(if a.2==b.2 then false else decide (a.2<b.2))else decide (a.1.cps.toList<b.1.cps.toList)
def Ox{x y:Addr}{ox oy:Obj}{n k:Nat}{a b:Str×Int}{t1 t2 t3 t4:Tok}{C:Bool->Sd->Prop}(hx:s.heap.get? x=some ox)(dx:ox.data=.seq #[.str a.1 t1,.int a.2 t2] n)(hy:s.heap.get? y=some oy)(dy:oy.data=.seq #[.str b.1 t3,.int b.2 t4] k)(h:C (UU a b) s):
  wpAny (model prog w) A (keyLt' (tuples' true) (.ref x) (.ref y)) C E s:=by
 refine kat_lt hx dx hy dy ?_;show KatLex prog w A true _ C [(Value.str a.1 t1,Value.str b.1 t3),(Value.int a.2 t2,Value.int b.2 t4)] 0 s;unfold UU at h;refine kat_cons (eqBool_str ?_);cases e:a.1==b.1 with
 | true=>
  rw[e,dg rfl]at h;refine kat_yes (kat_cons (lC ?_));cases e2:a.2==b.2 with
  | true=>rw[e2,dg rfl]at h;exact kat_yes (kat_nil h)
  | false=>rw[e2,de dB]at h;exact kat_no (kat_one _ _ (PyProof.Rows.lt_int h))
 | false=>rw[e,de dB]at h;exact kat_no (oneLt_str h)
def CO{x:Str}{v:Vl}(h:CA (.inr x) v=true):∃t,v=.str x t:=by
 rcases rJ h with⟨i,t,e,_⟩|⟨y,t,e,e2⟩
 .cases e
 .cases e;exact⟨t,e2⟩
def ES(ps:List (Str×Int))(i j:Nat):Bool:=UU (ps.getD i ("",0)) (ps.getD j ("",0))
def s8(ps:List (Str×Int)):List (Str×Int):=(tJ (ES ps) ps.length).map λi=>ps.getD i ("",0)
def DQ{ps:List (Str×Int)}(h:ps.length<=3):(s8 ps).length=ps.length:=by unfold s8;rw[cV];exact(xP h).1
def Pr(h:Heap)(a:Addr)(p:Str×Int):Prop:=Ca λt1 t2=>h.get? a=some {cls:=.type "tuple",data:=.seq #[.str p.1 t1,.int p.2 t2]}
def Pr.inj{h:Heap}{a:Addr}{p q:Str×Int}(x:Pr h a p)(y:Pr h a q):p=q:=by obtain⟨t1,t2,e1⟩:=x;obtain⟨u1,u2,e2⟩:=y;rw[e1]at e2;have:=dn e2;simp only[Obj.mk.injEq,Data.seq.injEq,Array.mk.injEq,List.cons.injEq,Value.str.injEq,Value.int.injEq]at this;exact mj (by simp_all) (by simp_all)
theorem Jh{h:Heap}:∀(as:List Addr) (ps:List (Str×Int)),as.length=ps.length->(∀(j:Nat) (a:Addr) (p:Str×Int),as[j]?=some a->ps[j]?=some p->Pr h a p)->∃fs,KatTups h (as.map Value.ref) fs/\fs.length=as.length/\∀v∈fs,∃x t,v=Value.str x t
 | [],[],_,_=>⟨[],.nil,rfl,λv hv=>nomatch hv⟩
 | [],_::_,e,_=>by cases e
 | _::_,[],e,_=>by cases e
 | a::as,p::ps,e,hp=>by
  obtain⟨fs,h1,h2,h3⟩:=Jh as ps (by simpa using e) λj a' p' e1 e2=>hp (j+1) a' p' (by simpa using e1) (by simpa using e2);obtain⟨t1,t2,ea⟩:=hp 0 a p rfl rfl;refine⟨.str p.1 t1::fs,.cons ea rfl rfl rfl h1,by simp[h2],λv hv=>?_⟩;rcases dh.mp hv with z|z
  .exact⟨_,_,z⟩
  .exact h3 v z
def Gh{r d:Addr}{kvs:List (qS×Vl)}{ep:Nat}{ps:List (Str×Int)}{Q:Vl->Sd->Prop}(hh:A.handled=none)(hv:s.heap.IsItemsView r d)(hm:s.heap.DictAt (rf prog w) d kvs ep)(h3:ps.length<=3) (hp:kvs.length=ps.length) (Y3:∀(j:Nat) (k:qS) (x:Vl),kvs[j]?=some (k,x)->∃p t,ps[j]?=some p/\k=Sum.inr p.1/\x=.int p.2 t) (h:∀(h':Heap) (tk:Nat) (S:Addr) (ws:List Addr) (e:Nat),(∀b o,s.heap.get? b=some o->h'.get? b=some o)->r<S->h'.get? S=some (seqObj "list" (ws.map Value.ref).toArray e)->ws.length=ps.length->
    (∀(j:Nat) (a:Addr) (p:Str×Int),ws[j]?=some a->(s8 ps)[j]?=some p->r<a/\a≠S/\Pr h' a p)->Q (.ref S) {s with heap:=h',toks:=tk}):
  wpAny (model prog w) A (call (.builtin "sorted") [.ref r]) Q E s:=by
 have hz:=dM;have hr:r<s.heap.objs.size:=by obtain⟨o,ho,_⟩:=hv;exact dA ho
 refine Calls.call_function_entry kind_sorted plain_sorted entry_sorted (args_sorted1 _) ?_;unfold Builtin.«sorted»;refine cW (m:=checkCount "sorted" 1 1 _) (dq ?_);refine cW (kdx_collect (A:=A.in1) hh hv hm (by omega) λh1 tk as hk hl hG=>?_);refine cW (wpAny_newList ?_ (by rw[cV];omega));have hl':as.length=ps.length:=by omega
 have pr:∀(j:Nat) (a:Addr) (p:Str×Int),as[j]?=some a->ps[j]?=some p->Pr h1 a p:=λj a p e1 e2=>by obtain⟨key,k,x,f1,f2,f3⟩:=hG.pairs j a e1;obtain⟨p',t,g1,g2,g3⟩:=Y3 j k x f1;rw[e2]at g1;cases g1;subst g2 g3;obtain⟨t',rfl⟩:=CO f2;exact⟨t',t,f3⟩
 have hoL:(h1.push (seqObj "list" (as.map Value.ref).toArray 0)).get? h1.objs.size=some (seqObj "list" (as.map Value.ref).toArray 0):=dG _ rfl;have pr2:∀h',(∀b o,b≠h1.objs.size->(h1.push (seqObj "list" (as.map Value.ref).toArray 0)).get? b=some o->h'.get? b=some o)->∀(j:Nat) (a:Addr) (p:Str×Int),as[j]?=some a->ps[j]?=some p->Pr h' a p:=λh' kp j a p e1 e2=>by obtain⟨t1,t2,e3⟩:=pr j a p e1 e2;exact⟨t1,t2,kp _ _ (dH (dA e3)) (df _ e3)⟩
 have gd:∀i,i<as.length->∃a p,as[i]?=some a/\ps[i]?=some p/\(as.map Value.ref).getD i Value.none=.ref a/\ps.getD i ("",0)=p:=λi hi=>by
  have XG:i<ps.length:=by omega
  refine⟨as[i],ps[i],cY hi,cY XG,?_,?_⟩
  .simp[hi]
  .simp[XG]
 have hll:(as.map Value.ref).length=ps.length:=by rw[cV];exact hl'
 show wpAny _ _ _ _ _ {s with heap:=h1.push (seqObj "list" (as.map Value.ref).toArray 0),toks:=tk};refine cW (eU (fT slot_list_sort ⟨_,hoL,rfl⟩ entry_list_sort (CW (κ:=tuples' true) (lt:=ES ps) (s:={s with heap:=h1.push (seqObj "list" (as.map Value.ref).toArray 0),toks:=tk}) hoL (by rw[hll];exact h3) (λh' Q' Xd kp hq=>?_) (λh' i j C kp hi hj hC=>?_) ⟨_,rfl,?_⟩) (args_list_sort _)))
 .obtain⟨fs,k1,k2,k3⟩:=Jh as ps hl' (pr2 h' kp);refine kat_kind (T:=Value.type "str") k1 (by rw[k2];rw[cV]at Xd;exact Xd) (λv hv=>?_) (by decide) hq;obtain⟨x,t,rfl⟩:=k3 v hv;exact Looks.now
 .rw[cV]at hi hj;obtain⟨a,p,a1,a2,a3,a4⟩:=gd i hi;obtain⟨b,q,b1,b2,b3,b4⟩:=gd j hj;rw[a3,b3];obtain⟨t1,t2,e1⟩:=pr2 h' kp i a p a1 a2;obtain⟨t3,t4,e2⟩:=pr2 h' kp j b q b1 b2;refine Ox (s:={s with heap:=h',toks:=tk}) e1 rfl e2 rfl ?_;show C (UU p q) _;rw[<-a4,<-b4];exact hC
 .obtain⟨e,he⟩:=sortedHeap_at (h:=h1.push (seqObj "list" (as.map Value.ref).toArray 0)) (a:=h1.objs.size) (vs:=as.map Value.ref) (out:=List.toArray ((tJ (ES ps) (as.map Value.ref).length).map λi=>(as.map Value.ref).getD i Value.none)) hoL;have old:∀b o,h1.get? b=some o->(sortedHeap (h1.push (seqObj "list" (as.map Value.ref).toArray 0)) h1.objs.size (as.map Value.ref) (List.toArray ((tJ (ES ps) (as.map Value.ref).length).map λi=>(as.map Value.ref).getD i Value.none))).get? b=some o:=λb o q=>by have hb:=dA q;rw[sortedHeap_old (dH hb) (by rw[lX];exact fV hb)];exact df _ q
  have ix:=xP (lt:=ES ps) h3;have eo:((tJ (ES ps) (as.map Value.ref).length).map λi=>(as.map Value.ref).getD i Value.none)=((tJ (ES ps) ps.length).map λi=>as.getD i 0).map Value.ref:=by
   rw[hll,d6];refine gw λi hi=>?_;have:=ix.2 i hi;have Yl:i<as.length:=by omega
   simp[Yl]
  refine dq ⟨_,rfl,h _ tk h1.objs.size ((tJ (ES ps) ps.length).map λi=>as.getD i 0) e (λb o q=>old b o (hk b o q)) ?_ ?_ ?_ λj a p e1 e2=>?_⟩
  .obtain⟨o,ho,_⟩:=hv;exact dA (hk _ _ ho)
  .rw[he,eo]
  .rw[cV];exact ix.1
  .unfold s8 at e2;rw[dD]at e1 e2;cases ei:(tJ (ES ps) ps.length)[j]? with
   | none=>rw[ei]at e1;cases e1
   | some i=>
    rw[ei]at e1 e2;have hi:=ix.2 i (fk ei);obtain⟨a',p',a1,a2,a3,a4⟩:=gd i (by omega);have ea:a=a':=by have:as.getD i 0=a:=dn e1;rw[<-this];simp[gc,a1]
    have ep:p=p':=by have:ps.getD i ("",0)=p:=dn e2;rw[<-this,a4]
    subst ea ep;have P1:=pr i a p a1 a2;obtain⟨t1,t2,e3⟩:=P1;exact⟨im hr (hG.above a (fk a1)),dH (dA e3),t1,t2,old _ _ e3⟩
def Inv.many{X:Cx}{WN:List (Addr×Obj)}{σ:St}{H H':Hp}{s:Sd}{h':Heap}{t':Nat}(I:Inv X WN σ H s)(k:∀b o,s.heap.get? b=some o->h'.get? b=some o)(hs:∀b,b<s.heap.objs.size->H' b=H b) (new:∀b o,s.heap.objs.size<=b->H' b=some o->rP X.prog X.w H' h' b o):Inv X WN σ H' {s with heap:=h',toks:=t'}:=by
 have sm:∀b o,H b=some o->H' b=some o:=λb o e=>by rw[hs b (I.mO.lt e)];exact e
 refine I.step (g':=s.gens) (d':=s.drawn) (ch:=[]) (λb hb=>nomatch hb) (λb o _ _ _ e _=>k b o e) (λb o _ _ _ e _=>⟨o.slots,k b o e⟩) (λb o _ e n=>by rw[hs b (dA e)];exact n)
  (λb o _ e=>⟨o,k b o e⟩) (λb xs e=>sm b _ e) (λb o u e=>sm b _ e) (λb ps e=>⟨#[],by rw[sm b _ e];simp⟩) (λm hm=>?_) (λb u e=>?_) I.bare
 .obtain⟨o,es,ep,ho,r⟩:=hm;exact⟨o,es,ep,k _ o ho,r⟩
 .by_cases hb:b<s.heap.objs.size
  .rw[hs b hb]at e;exact(I.mO b u e).nj (λc v _ q=>k c v q) (λc q=>sm c _ q) λc xs q=>sm c _ q
  .exact new b u (jB hb) e
def RL(te:TE):TE:=λσ H Q=>te σ H λv H1=>∃a kvs ps,v=.ref a/\H1 a=some (.dK kvs)/\kvs=(ps:List (Str×Int)).map (λp=>((Sum.inr p.1:qS),V.int p.2))/\ps.length<=3/\
 ∀(S:Addr) (H2:Hp) (ws:List Addr),H1 S=none->(∀b o,H1 b=some o->H2 b=some o)->H2 S=some (.lst (ws.map V.ref))->ws.length=ps.length->(∀(j:Nat) (a:Addr) (p:Str×Int),ws[j]?=some a->(s8 ps)[j]?=some p->H2 a=some (.tup [.str p.1,.int p.2]))->
  (∀b o,H1 b=none->H2 b=some o->b=S\/∃p:Str×Int,o=.tup [.str p.1,.int p.2])->Q (.ref S) H2
def Kk:bootBuiltins "sorted"=some (.builtin "sorted"):=by decide+kernel
theorem Jj:∀{ps:List (Str×Int)} {vs:List (qS×Vl)},KV (ps.map (λp=>((Sum.inr p.1:qS),V.int p.2))) vs->vs.length=ps.length/\∀(j:Nat) (k:qS) (x:Vl),vs[j]?=some (k,x)->∃p t,ps[j]?=some p/\k=Sum.inr p.1/\x=.int p.2 t
 | [],_,.nil=>⟨rfl,λj k x e=>by simp at e⟩
 | p::ps,_,.cons r rs=>by
  obtain⟨h1,h2⟩:=Jj rs;refine⟨by simp[h1],λj k x e=>?_⟩;cases j with
  | zero=>have e:=dn e;obtain⟨r1,t,r2⟩:=r;subst e;exact⟨p,t,rfl,r1.symm,r2⟩
  | succ j=>exact h2 j k x e
def Fw{X:Cx}{o:Expr}{te:TE}{p pos WQ WU:Pos}(hc:X.calm=true)(he:PE X o te)(hg:Gl X "sorted")(hm:X.mg "sorted"=none) (W0:attributeBase o "items" X.env (eval o X.env)=eval o X.env:=by rfl) (Xb:(WQ.endLine==WU.line)=true:=by rfl):
  PE X (.Call (.Name "sorted" p) [.Call (.Attribute o "items" WQ) [] [] WU] [] pos) (RL te):=by
 intro WN s σ H Q I h;refine fR (vO I hg hm Kk ?_);refine gO ?_ rfl rfl;show wpAny _ _ (spliced ((false,eval (.Call (.Attribute o "items" WQ) [] [] WU) X.env)::backTo pos (starEach [] X.env))) _ _ s;refine il ?_;refine wpAny_Call_method0_late W0 Xb (su (he WN s σ H _ I h) λv s1 zz=>?_);obtain⟨x,H1,I1,r1,a,kvs,ps,ex,ea,ek,h3,q⟩:=zz;subst ex;obtain rfl:v=Value.ref a:=r1;obtain⟨h1,h2⟩:=LN (T:="dict") (x:=.ref a) I1 rfl (.inr (.inr (.inl ⟨rfl,.inl ⟨_,ea⟩⟩)));refine⟨"dict","dict.items",PySem.F.plainAttrs_dict,jN,PySem.F.type_dict_items,h1,h2,jX rfl (PySem.evalArgs_none ?_)⟩;obtain⟨hz,hS,vs,rk,hD⟩:=I1.mO a _ ea;refine call_meetsIn jN h1 PySem.F.entry_dict_items (PySem.F.args_dict_items_1 _) (meets_dict_items (rf X.prog X.w) a hS) ⟨⟨vs,hD⟩,?_⟩;refine iE ?_;obtain⟨ep,Zj⟩:=hD.dictAt;subst ek;obtain⟨g1,g2⟩:=Jj rk;refine Gh (ps:=ps) (s:={s1 with heap:=s1.heap.push {cls:=.type "dict_items",data:=.fields #[.ref a]}}) (I1.ok.hd hc) ⟨_,dG _ rfl,rfl,rfl⟩ (Zj.push _) h3 g1 g2 λh' tk S ws e k hrS Yu hl hw=>?_;have k':∀b o,s1.heap.get? b=some o->h'.get? b=some o:=λb o z=>k b o (df _ z);have hsl:(s8 ps).length=ws.length:=by rw[DQ h3,hl]
 let H2:Hp:=λb=>if b=S then some (.lst (ws.map V.ref))else match (ws.zip (s8 ps)).lookup b with
  | some p=>some (.tup [.str p.1,.int p.2])
  | none=>H1 b
 have at1:∀b p,(ws.zip (s8 ps)).lookup b=some p->s1.heap.objs.size<b/\b≠S/\Pr h' b p:=λb p z=>by
  have:(b,p)∈ws.zip (s8 ps):=by
   have go:∀l:List (Addr×(Str×Int)),l.lookup b=some p->(b,p)∈l:=λl=>by
    induction l with
    | nil=>intro z;cases z
    | cons c r ih=>
     intro z;rw[eI]at z;cases q:b==c.1 with
     | true=>
      rw[q]at z;have hb:b=c.1:=by simpa using q
      have:c=(b,p):=mj hb.symm (dn z);rw[this];exact dJ
     | false=>rw[q]at z;exact dC _ (ih z)
   exact go _ z
  obtain⟨j,hj⟩:=List.mem_iff_getElem?.mp this;obtain⟨e1,e2⟩:=ik.mp hj;exact hw j b p e1 e2
 have lowS:s1.heap.objs.size<S:=hrS;have low:∀b,b<s1.heap.objs.size->H2 b=H1 b:=λb hb=>by
  show(if b=S then _ else _)=_;rw[de (dH (im hb lowS))];cases z:(ws.zip (s8 ps)).lookup b with
  | none=>rfl
  | some p=>exact absurd (at1 b p z).1 (Nat.not_lt_of_lt hb)
 have eS:H2 S=some (.lst (ws.map V.ref)):=dg rfl;have fr:∀b,s1.heap.objs.size<=b->H1 b=none:=λb hb=>I1.mO.fresh hb;have tupAt:∀(j:Nat) (b:Addr) (p:Str×Int),ws[j]?=some b->(s8 ps)[j]?=some p->H2 b=some (.tup [.str p.1,.int p.2]):=λj b p e1 e2=>by
  obtain⟨_,n2,n3⟩:=hw j b p e1 e2;show(if b=S then _ else _)=_;rw[de n2];have mem:(b,p)∈ws.zip (s8 ps):=fk (ik.mpr ⟨e1,e2⟩);cases z:(ws.zip (s8 ps)).lookup b with
  | none=>
   have go:∀l:List (Addr×(Str×Int)),(b,p)∈l->l.lookup b≠none:=λl=>by
    induction l with
    | nil=>intro z;cases z
    | cons c r ih=>
     intro z;rw[eI];cases q:b==c.1 with
     | true=>simp
     | false=>
      rcases dh.mp z with y|y
      .rw[<-y]at q;simp at q
      .exact ih y
   exact absurd z (go _ mem)
  | some p'=>rw[(at1 b p' z).2.2.inj n3]
 have Zk:∀b u,s1.heap.objs.size<=b->H2 b=some u->rP X.prog X.w H2 h' b u/\(b=S\/∃p:Str×Int,u=.tup [.str p.1,.int p.2]):=λb u hb z=>by
  by_cases eb:b=S
  .subst eb;rw[eS]at z;cases z;refine⟨⟨by rw[cV,hl,dM];omega,ws.map Value.ref,e,?_,Yu⟩,.inl rfl⟩;have go:∀l:List Addr,qw (l.map V.ref) (l.map Value.ref):=λl=>by
    induction l with
    | nil=>exact .nil
    | cons c r ih=>exact .cons rfl ih
   exact go ws
  .have z':(match (ws.zip (s8 ps)).lookup b with|some p=>some (HO.tup [.str p.1,.int p.2])|none=>H1 b)=some u:=by have:H2 b=_:=de eb;rw[this]at z;exact z
   cases y:(ws.zip (s8 ps)).lookup b with
   | none=>rw[y,fr b hb]at z';cases z'
   | some p=>rw[y]at z';cases z';obtain⟨_,_,t1,t2,e3⟩:=at1 b p y;exact⟨⟨by show 2<=sizeLine;rw[dM];decide,[.str p.1 t1,.int p.2 t2],.cons ⟨_,rfl⟩ (.cons ⟨_,rfl⟩ .nil),⟨_,e3,rfl,⟨_,rfl⟩,rfl⟩⟩,.inr ⟨p,rfl⟩⟩
 refine⟨.ref S,H2,I1.many (t':=tk) k' low λb u hb z=>(Zk b u hb z).1,rfl,q S H2 ws (fr S (jw lowS)) (λb u z=>by rw[low b (I1.mO.lt z)];exact z) eS hl tupAt λb u z1 z2=>?_⟩;by_cases hb:b<s1.heap.objs.size
 .rw[low b hb,z1]at z2;cases z2
 .exact(Zk b u (jB hb) z2).2
end L2
namespace L3
open PySem PySem.Spec PyProof.Rows L2
def Ai(p:Str×Int):D:=.tup [.str p.1,.int p.2]
def RA(ta:T3):T3:=λδ M Q=>ta δ M λx M1=>match x with
 | .ref a=>∃ps:List (Str×Int),zt M1 a=some (ps.map λp=>((Sum.inr p.1:qS),D.int p.2))/\ps.length<=3/\∀S,M1 S=none->Q (.ref S) (pz M1 S (.lst ((s8 ps).map Ai)))
 | _=>False
theorem BJ{K:ql}{H:Hp}:∀{ps:List (Str×Int)} {vs:List (qS×V)},vs.map (·.1)=(ps.map λp=>((Sum.inr p.1:qS),D.int p.2)).map (·.1)->qa K H ((ps.map λp=>((Sum.inr p.1:qS),D.int p.2)).map (·.2)) (vs.map (·.2))->vs=ps.map (λp=>((Sum.inr p.1:qS),V.int p.2))
 | [],[],_,_=>rfl
 | [],_::_,e,_=>by cases e
 | _::_,[],e,_=>by cases e
 | p::ps,(k,v)::vs,e,h=>by obtain⟨x,r,e2,h1,h2⟩:=h.inv;obtain⟨e3,e4⟩:=gq e2;obtain⟨f1,f2⟩:=gq e;subst e3 e4;have hk:k=Sum.inr p.1:=f1;have hv:v=V.int p.2:=rD.int_inv h1;rw[BJ f2 h2,hk,hv];rfl
def FB{X:Cx}{o:Expr}{ta:T3}{p pos WQ WU:Pos}(hc:X.calm=true)(he:E3 X o ta)(hg:Gl X "sorted")(hm:X.mg "sorted"=none) (W0:attributeBase o "items" X.env (eval o X.env)=eval o X.env:=by rfl) (Xb:(WQ.endLine==WU.line)=true:=by rfl):
  E3 X (.Call (.Name "sorted" p) [.Call (.Attribute o "items" WQ) [] [] WU] [] pos) (RA ta):=PE.mono (Fw hc he hg hm W0 Xb) λσ H Q' zz=>x7 zz λδ M Q hs hm ht k=>
 ⟨δ,M,_,hs,hm,ht,λv H1 d M1 hd WP e1 q1=>by
  cases d with
  | ref a=>
   cases hd.mF;obtain⟨ps,f1,f2,q⟩:=q1;obtain⟨vs,h1,h2,h3⟩:=y8 WP f1;refine⟨a,vs,ps,rfl,h1,BJ h2 h3,f2,λS H2 ws n1 kp eS hl hw hn=>?_⟩;have ex:qK X.K H1 H2:=⟨λb xs z=>by
    rcases z with(z|⟨u,z⟩)|z
    .exact .inl (.inl (kp _ _ z))
    .exact .inl (.inr ⟨u,kp _ _ z⟩)
    .exact .inr z,λb u xs z=>kp _ _ z⟩
   have hl2:(s8 ps).length=ws.length:=by rw[DQ f2,hl]
   have hasW:∀(l:List (Str×Int)) (us:List Addr),l.length=us.length->(∀(j:Nat) (a:Addr) (p:Str×Int),us[j]?=some a->l[j]?=some p->H2 a=some (.tup [.str p.1,.int p.2]))->qa X.K H2 (l.map Ai) (us.map V.ref):=λl=>by
    induction l with
    | nil=>intro us e _;cases us with
     | nil=>exact .nil
     | cons _ _=>cases e
    | cons c r ih=>intro us e hu;cases us with
     | nil=>cases e
     | cons b us=>exact .cons (.tup (.of (hu 0 b c rfl rfl)) (.cons .str (.cons .int .nil))) (ih us (by simpa using e) λj a p e1 e2=>hu (j+1) a p e1 e2)
   refine k _ _ _ _ .ref (λb c z=>?_) (e1.trans ex) (q S (WP.fresh n1));by_cases eb:b=S
   .subst eb;rw[pL]at z;cases z;exact⟨_,eS,hasW _ _ hl2 hw⟩
   .rw[tU eb]at z;have ok:=WP b c z;obtain⟨u,eu,_⟩:=ok.there;exact ok.keep ex (by rw[eu,kp _ _ eu])
  | _=>exact q1.elim⟩
variable {X:Cx}{pos:Pos}{a b o i:Expr}{ta tb ti to:T3}
def Tj(to ti:T3):DP:=λd δ M Q=>to δ M λx M1=>ti δ M1 λy M2=>match x,y with
 | .ref p,.int k=>(oJ M2 p).elim False λes=>(FY es.length k).elim False λj=>Q δ (pz M2 p (.lst (es.set j d)))
 | _,_=>False
theorem qa.set{K:ql}{H:Hp}{d:D}{v:V}(hv:rD K H d v):∀{ds:List D} {xs:List V} (j:Nat),qa K H ds xs->qa K H (ds.set j d) (xs.set j v)
 | [],_,j,h=>by rw[h.nil_inv];simp only[List.set_nil];exact .nil
 | e::ds,_,0,h=>by obtain⟨x,r,rfl,h1,h2⟩:=h.inv;exact .cons hv h2
 | e::ds,_,j+1,h=>by obtain⟨x,r,rfl,h1,h2⟩:=h.inv;exact .cons h1 (qa.set hv j h2)
def Sf(ho:E3 X o to)(hi:E3 X i ti) (ha:∀v,assign (.Subscript o i pos) X.env v=(do
   let ov<-holding [v] (eval o X.env);let iv<-holding [v,ov] (eval i X.env)
   standAt pos
   holding [v,ov,iv] (setItem ov iv v)
   release [v,ov,iv] []):=by intro _;rfl):G3 X (.Subscript o i pos) (Tj to ti):=
 PG.mono (Ro ho hi L7 ha) λv σ H Q' ⟨d,δ,M,Q,hd,hs,hm,ht,k⟩=>
 ⟨δ,M,_,hs,hm,ht,λvx H1 x M1 hx WP e1 q1=>⟨δ,M1,_,hs.mono e1,WP,q1,λvy H2 y M2 hy W7 e2 q2=>by
  cases x with
  | ref p=>
   cases y with
   | int j0=>obtain⟨es,f1,q2⟩:=qT q2;obtain⟨j,f2,q2⟩:=qT q2;cases(hx.mono e2).mF;cases hy.int_inv;obtain⟨xs,h1,h2⟩:=Et W7 f1;refine⟨p,xs,j0,j,rfl,rfl,h1,by rw[<-h2.length];exact f2,?_⟩;have hd2:=hd.mono (e1.trans e2);obtain⟨XJ,e3⟩:=W7.put (o:=.lst (xs.set j v)) (c:=.lst (es.set j d)) (pW f1) λex=>⟨_,qe,(h2.mono ex).set (hd2.mono ex) j⟩;exact k σ _ δ _ (hs.mono (e1.trans (e2.trans e3))) XJ (e1.trans (e2.trans e3)) rfl q2
   | _=>exact q2.elim
  | _=>exact q2.elim⟩⟩
end L3
namespace L2
open PySem PySem.Spec PyProof.Rows
variable {prog:Pg}{w:Wo}{A:Ar}{E:Vl→Sd→Prop}{s:Sd}{X:Cx}
end L2
namespace L3
open PySem PySem.Spec PyProof.Rows L2
variable {X:Cx}{pos WQ p:Pos}{a b o e i value:Expr}{es:List Expr}{ta tb ti to tv td tk:T3}{t:wY}
def Rw(x y:D)(M:Mp)(Q:DK):Prop:=match x,y with
 | .ref a,.int k=>(oJ M a).elim False λes=>(0<=k/\k<=1000/\es.length<=1000)/\∀p,M p=none->Q (.ref p) (pz M p (.lst (List.replicate k.toNat es).flatten))
 | _,_=>False
theorem IH{K:ql}{H:Hp}{ds:List D}{xs:List V}(h:qa K H ds xs):∀n:Nat,qa K H (List.replicate n ds).flatten (List.replicate n xs).flatten
 | 0=>.nil
 | n+1=>by rw[eJ,eJ,fP,fP];exact h.append (IH h n)
def Si:xg X (binaryOp .Mult) (R3 X.K Rw):=λWN s σ H vx vy v u Q' I rx ry h=>by
 obtain⟨x,y,M,Q,hx,hy,hm,q,k⟩:=h;unfold Rw at q;split at q
 .obtain⟨es,e1,⟨q1,q2,q3⟩,q⟩:=qT q;cases hx.mF;cases hy.int_inv;obtain⟨xs,h1,h2⟩:=Et hm e1;have hz:=dM;have hl:=h2.length;refine R5 WN s σ H _ _ v u Q' I rx ry ⟨_,_,xs,rfl,rfl,h1,by omega,by omega,?_,λpp hp=>?_⟩
  .exact dX (j6 (show xs.length<=1000 by omega) (show Int.toNat _<=1000 by omega)) (by rw[hz];decide)
  .exact k _ _ _ _ .ref (hm.new (c:=.lst _) hp ⟨_,qe,(IH h2 _).mono (.new hp)⟩) (.new hp) (q pp (hm.fresh hp))
 .exact q.elim
def UF(ta tb:T3):T3:=λδ M Q=>ta δ M λx M1=>tb δ M1 λy M2=>Rw x y M2 Q
def B5(ha:E3 X a ta)(hb:E3 X b tb):E3 X (.BinOp a .Mult b pos) (UF ta tb):=PE.mono (QO Si ha hb) Ik
def Bx(kvs:List (qS×D))(k:qS)(v:D):List (qS×D):=if (kvs.any λkv=>decide (kv.1=k))=true then kvs.map (λkv=>if kv.1=k then(kv.1,v)else kv)else kvs++[(k,v)]
theorem GD{κ α β:Type}{k:κ}[DecidableEq κ]:∀{xs:List (κ×α)} {ys:List (κ×β)},xs.map (·.1)=ys.map (·.1)->(xs.any λkv=>decide (kv.1=k))=ys.any λkv=>decide (kv.1=k)
 | [],[],_=>rfl
 | [],_::_,e=>by cases e
 | _::_,[],e=>by cases e
 | x::xs,y::ys,e=>by obtain⟨e1,e2⟩:=gq e;rw[gb,gb,GD e2];have e1:x.1=y.1:=e1;rw[e1]
def JL{K:ql}{H:Hp}{k:qS}{d:D}{v:V}(hv:rD K H d v){kvs:List (qS×D)}{vs:List (qS×V)}(h1:vs.map (·.1)=kvs.map (·.1))(h2:qa K H (kvs.map (·.2)) (vs.map (·.2))):
  (yJ vs k v).map (·.1)=(Bx kvs k d).map (·.1)/\qa K H ((Bx kvs k d).map (·.2)) ((yJ vs k v).map (·.2)):=by
 have go:∀{kvs:List (qS×D)} {vs:List (qS×V)},vs.map (·.1)=kvs.map (·.1)->qa K H (kvs.map (·.2)) (vs.map (·.2))->
   (vs.map (λkv=>if kv.1=k then(kv.1,v)else kv)).map (·.1)=(kvs.map (λkv=>if kv.1=k then(kv.1,d)else kv)).map (·.1)/\qa K H ((kvs.map (λkv=>if kv.1=k then(kv.1,d)else kv)).map (·.2)) ((vs.map (λkv=>if kv.1=k then(kv.1,v)else kv)).map (·.2)):=λ{kvs}=>by
  induction kvs with
  | nil=>intro vs e h;cases vs with
   | nil=>exact⟨rfl,.nil⟩
   | cons _ _=>cases e
  | cons c r ih=>intro vs e h;cases vs with
   | nil=>cases e
   | cons w ws=>
    obtain⟨e1,e2⟩:=gq e;obtain⟨x,xr,e3,g1,g2⟩:=h.inv;obtain⟨e4,e5⟩:=gq e3;subst e4 e5;obtain⟨i1,i2⟩:=ih e2 g2;have e1:w.1=c.1:=e1;by_cases hk:c.1=k
    .have w1:(if w.1=k then(w.1,v)else w)=(w.1,v):=dg (e1.trans hk);have w2:(if c.1=k then(c.1,d)else c)=(c.1,d):=dg hk;simp only[dY,w1,w2];exact⟨by rw[i1,e1],.cons hv i2⟩
    .have w1:(if w.1=k then(w.1,v)else w)=w:=de λz=>hk (e1.symm.trans z);have w2:(if c.1=k then(c.1,d)else c)=c:=de hk;simp only[dY,w1,w2];exact⟨by rw[i1,e1],.cons g1 i2⟩
 unfold yJ Bx;rw[GD (k:=k) h1];by_cases hk:(kvs.any λkv=>decide (kv.1=k))=true
 .rw[dg hk,dg hk];exact go h1 h2
 .rw[de hk,de hk];exact⟨by rw[dQ,dQ,h1];rfl,by rw[dQ,dQ];exact h2.append (.cons hv .nil)⟩
def Tu(td tk tv:T3):xc:=λD δ M=>tv δ M λv M1=>td δ M1 λx M2=>tk δ M2 λy M3=>match x,y with
 | .ref a,.str k=>(zt M3 a).elim False λkvs=>kvs.length<sizeLine/\D.nx δ (pz M3 a (.dk (Bx kvs (.inr k) v)))
 | _,_=>False
def xM{M:Mp}{a:Addr}{kvs:List (qS×D)}(h:zt M a=some kvs):M a=some (.dk kvs):=by
 unfold zt at h;split at h
 .rename_i e;rw[e];cases h;rfl
 .cases h
def O2{WV:Pos}(hu:X.A.units+9<cLine)(ho:E3 X o td)(hi:E3 X i tk)(hv:E3 X value tv)(hs:swapsWith value (some (.Subscript o i WV)) pos.line X.env=pure false:=by rfl):S3 X (.Assign [.Subscript o i WV] value pos) (Tu td tk tv):=
 PS.mono (Pl (by omega) ho hi hv hs) λD' σ H zz=>KP zz λδ M D hs hm ht k1 k2 k3 k4=>
 ⟨δ,M,_,hs,hm,ht,λv H1 d M1 hd WP e1 q1=>⟨δ,M1,_,hs.mono e1,WP,q1,λvx H2 x M2 hx W7 e2 q2=>⟨δ,M2,_,hs.mono (e1.trans e2),W7,q2,λvy H3 y M3 hy XJ e3 q3=>by
  split at q3
  .rename_i a0 k0;obtain⟨kvs,f1,f2,q3⟩:=qT q3;cases(hx.mono e3).mF;cases hy.str_inv;obtain⟨vs,h1,h2,h3⟩:=y8 XJ f1;have hl:vs.length=kvs.length:=by have:=eY List.length h2;simpa using this
   refine⟨_,_,rfl,Nq.k (k:=Sum.inr k0) h1 (by omega),?_⟩;have hd3:=hd.mono (e2.trans e3);obtain⟨hm4,e4⟩:=XJ.put (o:=.dK (yJ vs (Sum.inr k0) v)) (c:=.dk (Bx kvs (.inr k0) d)) (xM f1) λex=>by obtain⟨g1,g2⟩:=JL (k:=Sum.inr k0) (hd3.mono ex) h2 (h3.mono ex);exact⟨_,qe,g1,g2⟩
   exact k1 σ _ δ _ (hs.mono (e1.trans (e2.trans (e3.trans e4)))) hm4 (e1.trans (e2.trans (e3.trans e4))) rfl q3
  .exact q3.elim⟩⟩⟩
variable {WN:List (Addr × Obj)}{σ:St}{H:Hp}{s:Sd}{tp:Pos}{Xo:List Expr}{n:Nat}
end L3
namespace L2
open PySem PySem.Spec PyProof.Rows Builtin Builtin.Str
variable {prog:Pg}{w:Wo}{A:Ar}{E:Vl→Sd→Prop}{s:Sd}{X:Cx}
end L2
namespace L3
open PySem PySem.Spec PyProof.Rows L2 Builtin Builtin.Str
variable {X:Cx}{pos WQ:Pos}{o e:Expr}{es:List Expr}{ta:T3}{t:wY}
@[irreducible] def SsI (X:Cx) (st:List Stmt) (t:xc):Prop:=G9 X st t
@[irreducible] def SI (X:Cx) (st:Stmt) (t:xc):Prop:=S3 X st t
@[irreducible] def EI (X:Cx) (e:Expr) (t:T3):Prop:=E3 X e t
@[irreducible] def AI (X:Cx) (es:List Expr) (t:wY):Prop:=A3 X es t
variable {prog:Pg}{w:Wo}{A:Ar}{E:Vl→Sd→Prop}{s:Sd}{WN:List (Addr × Obj)}{σ:St}{H:Hp}{p tp:Pos}{Xo:List Expr}{n:Nat}
theorem xN{g:DP}{tt:Ae}{te:T3}{ok:Mp->Prop}{Q:DK}(all:List D)(J:List D->List D->vh->Mp->Prop)(mO:∀p acc δ M,J p acc δ M->ok M):∀(ds pre acc:List D) (δ:vh) (M:Mp),pre++ds=all->acc.length+ds.length<=sizeLine->J pre acc δ M->
  (∀pre d post,pre++d::post=all->∀acc δ M,J pre acc δ M->∀(k:vh->DK) (k2:vh->Mp->Prop),(∀δ2 y M4,J (pre++[d]) (acc++[y]) δ2 M4->k δ2 y M4)->(∀δ2 M3,J (pre++[d]) acc δ2 M3->k2 δ2 M3)->g d δ M λδ2 M2=>tt δ2 M2 λb M3=>if b=true then te δ2 M3 (k δ2)else k2 δ2 M3)->
  (∀acc δ M,J all acc δ M->∀p,M p=none->Q (.ref p) (pz M p (.lst acc)))->uQ g tt te ok Q ds acc δ M
 | [],pre,acc,δ,M,e,hl,j,_,hq=>⟨by simpa using hl,hq acc δ M (by rw[<-e,eO];exact j)⟩
 | d::r,pre,acc,δ,M,e,hl,j,ht,hq=>by rw[eB]at hl;refine⟨by omega,?_⟩;refine ht pre d r e acc δ M j (λδ2 y M4=>ok M4/\uQ g tt te ok Q r (acc++[y]) δ2 M4) (λδ2 M3=>ok M3/\uQ g tt te ok Q r acc δ2 M3) (λδ2 y M4 j'=>⟨mO _ _ _ _ j',xN all J mO r (pre++[d]) (acc++[y]) δ2 M4 (by rw[<-e,fj];rfl) ?_ j' ht hq⟩) λδ2 M3 j'=>⟨mO _ _ _ _ j',xN all J mO r (pre++[d]) acc δ2 M3 (by rw[<-e,fj];rfl) (by omega) j' ht hq⟩;rw[cZ,dP];omega
end L3
namespace L2
open PySem PySem.Spec PyProof.Rows
def Cx.nS(X:Cx)(E:Vl->Sd->Prop):Cx:={X with xe:=E}
def Inv.nS{X:Cx}{E:Vl->Sd->Prop}{WN:List (Addr×Obj)}{σ:St}{H:Hp}{s:Sd}(I:Inv X WN σ H s):Inv (X.nS E) WN σ H s:=
 ⟨⟨I.ok.mod,I.ok.kind,I.ok.glob,I.ok.blt,I.ok.above,I.ok.inj,I.ok.has,I.ok.oi,I.ok.hd,I.ok.frames,I.ok.oC,I.ok.oR,I.ok.bs,I.ok.nW,I.ok.nL,I.ok.nR,I.ok.nu,I.ok.oa⟩,I.os,I.bare,I.base,I.loc,I.cell,I.free,I.mV,I.pin,I.mO,I.len⟩
def Inv.xeOf{X:Cx}{E:Vl->Sd->Prop}{WN:List (Addr×Obj)}{σ:St}{H:Hp}{s:Sd}(I:Inv (X.nS E) WN σ H s):Inv X WN σ H s:=
 ⟨⟨I.ok.mod,I.ok.kind,I.ok.glob,I.ok.blt,I.ok.above,I.ok.inj,I.ok.has,I.ok.oi,I.ok.hd,I.ok.frames,I.ok.oC,I.ok.oR,I.ok.bs,I.ok.nW,I.ok.nL,I.ok.nR,I.ok.nu,I.ok.oa⟩,I.os,I.bare,I.base,I.loc,I.cell,I.free,I.mV,I.pin,I.mO,I.len⟩
end L2
namespace L3
open PySem PySem.Spec PyProof.Rows L2
end L3
namespace L2
open PySem PySem.Spec PyProof.Rows
end L2
namespace L3
open PySem PySem.Spec PyProof.Rows L2
variable {X:Cx}{pos p tp kpos:Pos}{Xo:List Expr}{n:Nat}
end L3
namespace L2
open PySem PySem.Spec PyProof.Rows
variable {prog:Pg}{w:Wo}{A:Ar}{E:Vl→Sd→Prop}{s:Sd}{a:Addr}{δ:Type}{k:Str}{tk:Tok}
section
variable {R:δ→Vl→Prop}{D:List (Str × δ)}
end
end L2
namespace L3
open PySem PySem.Spec PyProof.Rows L2
variable {X:Cx}{pos p:Pos}{x:Str}{d:D}{e o i:Expr}{ta tb td tk:T3}{F:List (Str × List Str)}
end L3
namespace L2
open PySem PySem.Spec PyProof.Rows
def ML(h:Heap)(e:Addr)(cls:Vl)(dx tb:Option Addr)(F:Vl):Prop:=
 ∃oe vs,h.get? e=some oe/\oe.cls=cls/\oe.dict=dx/\oe.data=.fields vs/\1<vs.size/\vs[1]?=some (tb.elim Value.none Value.ref)/\∀T,tb=some T->T≠e/\∃oT ts,h.get? T=some oT/\oT.data=.fields ts/\3<ts.size/\ts[3]?=some F
def Qa(h:Heap)(e:Addr)(cls:Vl)(dx tb:Option Addr):Prop:=ML h e cls dx tb Value.none
theorem BH{h base:Heap}:∀{l:List Env} {b:Addr},h.FunFrames base l->b∈vS l->∃o,h.get? b=some o/\∀vs,o.data≠.fields vs
 | [],b,_,hb=>by cases hb
 | env::r,b,hF,hb=>by
  obtain⟨_,⟨L,o,hL,_,ho,hd⟩,hr⟩:=hF;have e:vS (env::r)=L::vS r:=by unfold vS;rw[fX,hL]
  rw[e]at hb;rcases dh.mp hb with z|z
  .rw[z];exact⟨o,ho,hd⟩
  .exact BH hr z
def Do{h base:Heap}{l:List Env}{b:Addr}{o:Obj}{vs:Array Vl}(hF:h.FunFrames base l)(ho:h.get? b=some o)(hd:o.data=.fields vs):b∉vS l:=λhb=>by obtain⟨o',Xr,hn⟩:=BH hF hb;rw[ho]at Xr;cases Xr;exact hn vs hd
variable {M:Model}{A:Ar}{s:Sd}{base:Heap}{env:Env}{outer:List Env}{L e:Addr}{cls:Vl}{dx:Option Addr}{Q:Unit→Sd→Prop}
section
variable {E:Vl→Sd→Prop}
def PL{X7:Vl}{Y4:Bool}{oe:Obj}{vs:Array Vl}{Xs:Env}(hcf:Xs.frame=some L)(YL:A.frames=some (env::outer))(hF:s.heap.FunFrames base (env::outer))(hL:env.frame=some L)(ho:s.heap.get? e=some oe)(hd:oe.data=.fields vs)(h1:1<vs.size) (k:∀(h':Heap) (T:Addr),s.heap.get? T=none->(∀b o,s.heap.get? b=some o->b∉vS (env::outer)->b≠e->h'.get? b=some o)->(∀b o,s.heap.get? b=some o->b∈vS (env::outer)->∃sl,h'.get? b=some {o with slots:=sl})->
   (∃oe',h'.get? e=some oe'/\oe'.cls=oe.cls/\oe'.dict=oe.dict/\oe'.data=.fields (vs.setIfInBounds 1 (.ref T)))->(∃oT ts,h'.get? T=some oT/\oT.data=.fields ts/\3<ts.size/\ts[3]?=some (rawInt ↑L))->Q () {s with heap:=h'}):
  wpAny M A (do
   let a<-PySem.frameOf Xs;let pl<-entryPlaceOf L Y4;let b<-EntryCells.newEntry X7 a Value.none (rawInt ↑L) Value.none pl
   setField (Value.ref e) 1 b) Q E s:=by
 have ne:=Do hF ho hd;unfold PySem.frameOf;refine cW (cW (wpAny_frameEnvs YL (cW ?_)));have ed:List.dropWhile (λx=>x.frame != Xs.frame) (env::outer)=env::outer:=by rw[List.dropWhile_cons,de (by rw[hL,hcf];simp)]
 rw[ed];unfold frameObject;refine cW (wpAny_readyFrames_fun hF λXt hs=>?_);obtain⟨z1,z2,z3⟩:=hs;rw[hL];refine dq (dq ?_);refine cW (wpAny_entryPlaceOf λpl hp=>?_);refine cW ?_;unfold EntryCells.newEntry newFields;have WT:([X7,Value.ref L,Value.none,rawInt ↑L,Value.none]++if pl.isEmpty=true then List.replicate 6 Value.none else pl).length=11:=by rw[cZ];rcases hp with rfl|⟨_,_,_,_,_,_,_,rfl⟩<;>rfl
 have hfl:([X7,Value.ref L,Value.none,rawInt ↑L,Value.none]++if pl.isEmpty=true then List.replicate 6 Value.none else pl)[3]?=some (rawInt ↑L):=rfl;generalize ([X7,Value.ref L,Value.none,rawInt ↑L,Value.none]++if pl.isEmpty=true then List.replicate 6 Value.none else pl)=fs at WT hfl ⊢;refine fU ?_ (by
  show fs.toArray.size<=_;rw[dz,WT];decide)
 have e1:Xt.get? e=some oe:=by rw[z2 e ne];exact ho
 have e2:(Xt.push {cls:=.type "traceback",data:=.fields fs.toArray}).get? e=some oe:=df _ e1;refine hJ e2 hd h1 ?_;have tn:s.heap.get? Xt.objs.size=none:=hW (by rw[z1];exact dw _);have te:Xt.objs.size≠e:=λz=>by rw[z,ho]at tn;cases tn
 obtain⟨oc,od,ZQ,XI⟩:=oe;obtain rfl:ZQ=.fields vs:=hd;have up:∀b,e≠b->((Xt.push {cls:=.type "traceback",data:=.fields fs.toArray}).update e (Obj.mapFields λx=>x.setIfInBounds 1 (.ref Xt.objs.size))).get? b=(Xt.push {cls:=.type "traceback",data:=.fields fs.toArray}).get? b:=λb z=>fZ _ _ z;refine k _ Xt.objs.size tn (λb o hb nf ne'=>?_) (λb o hb hf=>?_) ⟨_,fH _ e2 rfl,rfl,rfl,rfl⟩ ⟨_,fs.toArray,(up _ (dO te)).trans (dG _ rfl),rfl,by rw[dz,WT];decide,by rw[iL];exact hfl⟩
 .rw[up b (dO ne')];exact df _ (by rw[z2 b nf];exact hb)
 .obtain⟨sl,q⟩:=z3 b o hb;refine⟨sl,?_⟩;rw[up b (λz=>ne (z ▸ hf))];exact df _ q
def Sm{E₁:Vl->Sd->Prop}{tb:Option Addr}{F:Vl}{Xs:Env}(hcf:Xs.frame=some L)(YL:A.frames=some (env::outer))(hF:s.heap.FunFrames base (env::outer))(hL:env.frame=some L)(hx:ML s.heap e cls dx tb F)(hFL:(F==rawInt ↑L)=false) (k:∀(h':Heap) (T:Addr),s.heap.get? T=none->(∀b o,s.heap.get? b=some o->b∉vS (env::outer)->b≠e->tb≠some b->h'.get? b=some o)->(∀b o,s.heap.get? b=some o->b∈vS (env::outer)->∃sl,h'.get? b=some {o with slots:=sl})->
   (∀b,h'.get? b=none->s.heap.get? b=none)->ML h' e cls dx (some T) (rawInt ↑L)->Q () {s with heap:=h'}):wpAny M A (noteFrame (.ref e) Xs) Q E₁ s:=by
 obtain⟨oe,vs,ho,hc,Zl,hd,h1,hv,hT⟩:=hx;have ne:=Do hF ho hd;unfold noteFrame;rw[hcf];refine cW (fh ho hd hv ?_);have WR:∀(s1:Sd) (oe1:Obj),s1.gens=s.gens->s1.drawn=s.drawn->s1.toks=s.toks->s1.os=s.os->s1.heap.FunFrames base (env::outer)->s1.heap.get? e=some oe1->oe1.cls=cls->oe1.dict=dx->oe1.data=.fields vs->(∀b o,s.heap.get? b=some o->b∉vS (env::outer)->b≠e->tb≠some b->s1.heap.get? b=some o)->
   (∀b o,s.heap.get? b=some o->b∈vS (env::outer)->s1.heap.get? b=some o)->(∀b,s1.heap.get? b=none↔s.heap.get? b=none)->∀(X7:Vl) (Y4:Bool),wpAny M A (do
   let a<-PySem.frameOf Xs;let pl<-entryPlaceOf L Y4;let b<-EntryCells.newEntry X7 a Value.none (rawInt ↑L) Value.none pl
   setField (Value.ref e) 1 b) Q E₁ s1:=by
  intro s1 oe1 g1 g2 g3 g4 hF1 ZD hc1 hdx1 hd1 kb kf kn X7 Y4;refine PL hcf YL hF1 hL ZD hd1 h1 λh' T tn k1 k2 ⟨oe',he',ZP,hdxe,hde⟩ ⟨oT,ts,X0,Ym,h3,h3v⟩=>?_;have te:T≠e:=λz=>by rw[z,ZD]at tn;cases tn
  have:=k h' T ((kn T).mp tn) (λb o hb nf nb nt=>k1 b o (kb b o hb nf nb nt) nf nb) (λb o hb hf=>k2 b o (kf b o hb hf) hf) (λb hb=>?_) ⟨oe',vs.setIfInBounds 1 (.ref T),he',ZP.trans hc1,hdxe.trans hdx1,hde,by rw[jG];exact h1,by rw[ig h1];rfl,λT' eT=>?_⟩
  .show Q () {heap:=_,gens:=s1.gens,drawn:=s1.drawn,toks:=s1.toks,os:=s1.os};rw[g1,g2,g3,g4];exact this
  .refine(kn b).mp ?_;cases q:s1.heap.get? b with
   | none=>rfl
   | some o=>
    by_cases z:b=e
    .rw[z,he']at hb;cases hb
    .by_cases zf:b∈vS (env::outer)
     .obtain⟨sl,q2⟩:=k2 b o q zf;rw[q2]at hb;cases hb
     .rw[k1 b o q zf z]at hb;cases hb
  .cases eT;exact⟨te,oT,ts,X0,Ym,h3,h3v⟩
 cases tb with
 | none=>rw[de (show ¬((none:Option Addr).elim Value.none Value.ref != Value.none)=true by decide+kernel)];exact WR s oe rfl rfl rfl rfl hF ho hc Zl hd (λb o hb _ _ _=>hb) (λb o hb _=>hb) (λb=>.rfl) _ _
 | some T=>
  obtain⟨nTe,oT,ts,X0,Ym,h3,hn⟩:=hT T rfl;rw[dg (show((some T:Option Addr).elim Value.none Value.ref != Value.none)=true by rfl)];refine cW (fh X0 Ym hn ?_);rw[de (by rw[hFL];exact dB)];refine cW (hJ X0 Ym h3 ?_);have up:∀b,T≠b->(s.heap.update T (Obj.mapFields λx=>x.setIfInBounds 3 .none)).get? b=s.heap.get? b:=λb z=>fZ _ _ z;have nf:∀b o,s.heap.get? b=some o->(∀vs,o.data≠.fields vs)->T≠b:=λb o hb hn z=>by rw[<-z,X0]at hb;cases hb;exact hn ts Ym
  have sz:∀b,(s.heap.update T (Obj.mapFields λx=>x.setIfInBounds 3 .none)).get? b=none↔s.heap.get? b=none:=λb=>by
   by_cases z:T=b
   .rw[<-z];obtain⟨oc,od,ZQ,XI⟩:=oT;obtain rfl:ZQ=.fields ts:=Ym;rw[fH _ X0 rfl,X0];exact⟨(λq=>by cases q),(λq=>by cases q)⟩
   .rw[up b z]
  exact WR {s with heap:=s.heap.update T (Obj.mapFields λx=>x.setIfInBounds 3 .none)} oe rfl rfl rfl rfl (my (λb o hb hn=>⟨o,(up b (nf b o hb hn)).trans hb,rfl⟩) hF) ((up e nTe).trans ho) hc Zl hd
   (λb o hb _ _ nt=>(up b λz=>nt (by rw[z])).trans hb) (λb o hb hf=>by
    obtain⟨o',Xr,hn⟩:=BH hF hf;rw[hb]at Xr;cases Xr;exact(up b (nf b o hb hn)).trans hb) sz _ _
def Mn{T:Addr}{F:Vl}(x:Option Addr)(hx:ML s.heap e cls dx (some T) F)(k:∀h':Heap,(∀b,T≠b->h'.get? b=s.heap.get? b)->(∀b,h'.get? b=none↔s.heap.get? b=none)->ML h' e cls dx (some T) (x.elim .none λf=>rawInt f)->Q () {s with heap:=h'}):wpAny M A (setFlight (.ref e) x) Q E s:=by
 obtain⟨oe,vs,ho,hc,Zl,hd,h1,hv,hT⟩:=hx;obtain⟨nTe,oT,ts,X0,Ym,h3,hn⟩:=hT T rfl;unfold setFlight;refine cW (fh ho hd hv ?_);rw[dg (by rfl)];refine hJ X0 Ym h3 ?_;obtain⟨oc,od,ZQ,XI⟩:=oT;obtain rfl:ZQ=.fields ts:=Ym;have up:∀b,T≠b->(s.heap.update T (Obj.mapFields λy=>y.setIfInBounds 3 (x.elim .none λf=>rawInt f))).get? b=s.heap.get? b:=λb z=>fZ _ _ z;refine k _ up (λb=>?_) ⟨oe,vs,(up e nTe).trans ho,hc,Zl,hd,h1,hv,λT' eT=>?_⟩
 .by_cases z:T=b
  .rw[<-z,fH _ X0 rfl,X0];exact⟨(λq=>by cases q),(λq=>by cases q)⟩
  .rw[up b z]
 .cases eT;exact⟨nTe,_,ts.setIfInBounds 3 (x.elim .none λf=>rawInt f),fH _ X0 rfl,rfl,by rw[jG];exact h3,by rw[ig h3]⟩
def Jz{E₁ E₂:Vl->Sd->Prop}{tb:Option Addr}(YL:A.frames=some (env::outer))(hF:s.heap.FunFrames base (env::outer))(hL:env.frame=some L)(hx:Qa s.heap e cls dx tb) (k:∀(h':Heap) (T:Addr),s.heap.get? T=none->(∀b o,s.heap.get? b=some o->b∉vS (env::outer)->b≠e->tb≠some b->h'.get? b=some o)->(∀b o,s.heap.get? b=some o->b∈vS (env::outer)->∃sl,h'.get? b=some {o with slots:=sl})->
   Qa h' e cls dx (some T)->Q () {s with heap:=h'}):wpAny M A (noteFrame (.ref e) env) (λ_ s₂=>wpAny M A (setFlight (.ref e) none) Q E₂ s₂) E₁ s:=by
 refine Sm hL YL hF hL hx (dI.mpr λz=>by have:=fg.mp z;cases this) λh' T tn k1 k2 _ x'=>?_;refine Mn none x' λh2 up _ x2=>k h2 T tn (λb o hb nf nb nt=>?_) (λb o hb hf=>?_) x2
 .have tb:T≠b:=λz=>by rw[z,hb]at tn;cases tn
  exact(up b tb).trans (k1 b o hb nf nb nt)
 .have tb:T≠b:=λz=>by rw[z,hb]at tn;cases tn
  obtain⟨sl,q⟩:=k2 b o hb hf;exact⟨sl,(up b tb).trans q⟩
def OW{tb:Option Addr}(YL:A.frames=some (env::outer))(hF:s.heap.FunFrames base (env::outer))(hL:env.frame=some L)(hx:Qa s.heap e cls dx tb) (k:∀(h':Heap) (T:Addr),s.heap.get? T=none->(∀b o,s.heap.get? b=some o->b∉vS (env::outer)->b≠e->tb≠some b->h'.get? b=some o)->(∀b o,s.heap.get? b=some o->b∈vS (env::outer)->∃sl,h'.get? b=some {o with slots:=sl})->
   Qa h' e cls dx (some T)->Q () {s with heap:=h'}):wpAny M A (leaving env (.ref e)) Q E s:=cW (Jz YL hF hL hx k)
end
def Az(P:Pg)(w:Wo):KR:=λouter H s E ev s'=>FJ λe C dx H' tb=>ev=.ref e/\E (.ref C) dx H'/\s'.os=s.os/\AllBare s'.gens/\Un (vS outer) [] H H' s.heap s'.heap/\ya P w H' s'.heap/\
 Qa s'.heap e (.ref C) dx (some tb)/\s.heap.get? e=none/\s.heap.get? tb=none/\H' e=none/\H' tb=none
def xT{P:Pg}{w:Wo}{H:Hp}{h:Heap}{a:Addr}{o:HO}(x:rP P w H h a o):∃ob,h.get? a=some ob:=by
 cases o with
 | lst xs=>obtain⟨_,_,_,_,e⟩:=x;exact⟨_,e⟩
 | tup xs=>obtain⟨_,_,_,o,e,_⟩:=x;exact⟨_,e⟩
 | dK kvs=>obtain⟨_,_,_,_,o,_,_,e,_⟩:=x;exact⟨_,e⟩
 | dT kvs=>obtain⟨_,_,_,_,o,_,_,e,_⟩:=x;exact⟨_,e⟩
 | set S n=>obtain⟨o,_,_,_,e,_⟩:=x;exact⟨_,e⟩
 | ins C dx fs=>obtain⟨_,_,_,e,_⟩:=x;exact⟨_,e⟩
 | own y=>exact x
 | xd fs=>obtain⟨_,⟨_,_,_,e,_⟩,_⟩:=x;exact⟨_,e⟩
 | rng lo hi=>obtain⟨_,_,_,e⟩:=x;exact⟨_,e⟩
 | frz ob u=>obtain⟨e,_⟩:=x;exact⟨_,e⟩
 | tbl ps=>exact⟨_,x⟩
 | met f y=>exact⟨_,x⟩
 | ext φ=>obtain⟨_,e,_⟩:=x;exact e
def F'{P:Pg}{w:Wo}{H:Hp}{h:Heap}{T:Addr}(mO:ya P w H h)(tn:h.get? T=none):H T=none:=by
 cases z:H T with
 | none=>rfl
 | some o=>obtain⟨ob,hob⟩:=xT (mO T o z);rw[hob]at tn;cases tn
variable {P:Pg}{w:Wo}{K:ql}{mg:Str→Option Vl}{N:List Str}{qual:Str}{scope:Scope}{f:Addr}{cd:Vl}{s0:Sd}{H0:Hp}
section
variable {E:XK}
def Gd{fs ex:List Addr}{H H':Hp}{h h':Heap}(u:Un fs ex H H' h h')(hex:ex=[]){b:Addr}(hb:h'.get? b=none):h.get? b=none:=by
 cases q:h.get? b with
 | none=>rfl
 | some o=>obtain⟨o',e⟩:=u.there b o q (by rw[hex];simp);rw[e]at hb;cases hb
def Mg{WN:List (Addr×Obj)}{σ:St}{H:Hp}{s:Sd}{e C T:Addr}{tb dx:Option Addr}{h':Heap}(I:Inv (va (Az P w) P w K mg base N qual scope f cd A outer s0 H0 E) WN σ H s)(he:s0.heap.get? e=none)(old:∀T,tb=some T->s0.heap.get? T=none/\H T=none)(hn:H e=none)(q:E (.ref C) dx H)(hT:s0.heap.get? T=none/\H T=none) (k1:∀b o,s.heap.get? b=some o->b∉vS (envOfC qual scope s0.heap.objs.size f cd::outer)->b≠e->tb≠some b->h'.get? b=some o) (k2:∀b o,s.heap.get? b=some o->b∈vS (envOfC qual scope s0.heap.objs.size f cd::outer)->∃sl,h'.get? b=some {o with slots:=sl}) (x':Qa h' e (.ref C) dx (some T)):
  Az P w outer H0 s0 E (.ref e) {s with heap:=h'}:=by
 have Xw:=I.nz;have W2:∀b o,H b=some o->∀u,s.heap.get? b=some u->h'.get? b=some u:=λb o hb u hu=>k1 b u hu (λz=>by rw[Xw b z]at hb;cases hb) (λz=>by rw[z,hn]at hb;cases hb) (λz=>by rw[(old b z).2]at hb;cases hb);have oldf:∀b o,s0.heap.get? b=some o->b∉vS [envOfC qual scope s0.heap.objs.size f cd]:=λb o hb z=>by
  have:b=s0.heap.objs.size:=by have hz:b∈[s0.heap.objs.size]:=z;exact dv.mp hz
  rw[this]at hb;exact absurd (dA hb) (e9 _)
 have fr:∀b,b∈vS (envOfC qual scope s0.heap.objs.size f cd::outer)->b∈vS [envOfC qual scope s0.heap.objs.size f cd]\/b∈vS outer:=λb hb=>by
  have hb:b∈s0.heap.objs.size::vS outer:=hb;rcases dh.mp hb with z|z
  .exact .inl (by rw[z];exact dJ)
  .exact .inr z
 have Xf:Un (vS outer) [] H0 H s0.heap s.heap:=I.base;refine⟨e,C,dx,H,T,rfl,q,I.os,I.bare,⟨λb o hb h0 nf ne=>?_,λb o hb h0 hf ne=>?_,Xf.free,λb o hb ne=>?_,Xf.nG,Xf.nE,Xf.nH⟩,λb o hb=>?_,x',he,hT.1,hn,hT.2⟩
 .have hs:=Xf.keep b o hb h0 nf ne;refine k1 b o hs (λz=>?_) (λz=>by rw[z,he]at hb;cases hb) λz=>by rw[(old b z).1]at hb;cases hb
  rcases fr b z with z|z
  .exact oldf b o hb z
  .exact nf z
 .obtain⟨sl,hs⟩:=Xf.slot b o hb h0 hf ne;have:b∈vS (envOfC qual scope s0.heap.objs.size f cd::outer):=dC _ hf;obtain⟨Yn,h2⟩:=k2 b _ hs this;exact⟨Yn,h2⟩
 .obtain⟨o',hs⟩:=Xf.there b o hb ne;by_cases z:b∈vS (envOfC qual scope s0.heap.objs.size f cd::outer)
  .obtain⟨sl,h2⟩:=k2 b o' hs z;exact⟨_,h2⟩
  .exact⟨o',k1 b o' hs z (λz=>by rw[z,he]at hb;cases hb) λz=>by rw[(old b z).1]at hb;cases hb⟩
 .refine(I.mO b o hb).nj (λb' u XF hu=>?_) (λ_ q=>q) λ_ _ q=>q;rcases XF with z|z
  .subst z;exact W2 b' o hb u hu
  .exact W2 b' _ z u hu
def S8{WN:List (Addr×Obj)}{σ:St}{H:Hp}{s:Sd}{e C:Addr}{tb dx:Option Addr}(I:Inv (va (Az P w) P w K mg base N qual scope f cd A outer s0 H0 E) WN σ H s)(hx:Qa s.heap e (.ref C) dx tb)(he:s0.heap.get? e=none)(hT:∀T,tb=some T->s0.heap.get? T=none/\H T=none)(hn:H e=none)(q:E (.ref C) dx H):
  (va (Az P w) P w K mg base N qual scope f cd A outer s0 H0 E).xe (.ref e) s:=
 OW (base:=base) (outer:=outer) I.ok.frames I.stack rfl hx λh' T tn k1 k2 x'=>Mg I he hT hn q ⟨Gd (show Un (vS outer) [] H0 H s0.heap s.heap from I.base) rfl tn,F' I.mO tn⟩ k1 k2 x'
end
section
variable {E:XK}
end
end L2
namespace L3
open PySem PySem.Spec PyProof.Rows L2
abbrev D5:=List D->Mp->DK->(Addr->Mp->Prop)->Prop
def TQ(K:ql)(C:Addr)(dx:Option Addr):Prop:=∀d,dx=some d->∃f,W.findIn K (.ref C) "__init__"=some (some (.ref f))
def RW(K:ql)(R:Addr->Mp->Prop)(E:XK):Prop:=∀C dx H M,HM K H M->TQ K C dx->R C M->E (.ref C) dx H
def Vu(K:ql)(sp:D5):Sp:=λvs H Q' E=>CC λds M Q R=>qa K H ds vs/\HM K H M/\sp ds M Q R/\Up K H Q' Q/\RW K R E
abbrev NW(P:Pg)(w:Wo)(K:ql)(mg:Str->Option Vl)(base:Heap)(k:Nat)(f:Addr)(fd:FuncData)(ps:List Str)(sp:D5):Prop:=xb P w K mg base (Az P w) k f fd ps (Vu K sp)
variable {X:Cx}{x:Str}{p pos np WU:Pos}{e:Expr}{es:List Expr}{t:wY}{k:Nat}{f C:Addr}{fd:FuncData}{ps:List Str}{sp:D5}{R:Addr→Mp→Prop}{E:XK}
def RT(sp:D5)(R:Addr->Mp->Prop)(t:wY):T3:=λδ M Q=>t δ M λds M1=>sp ds M1 Q R
def BQ(F:NW X.prog X.w X.K X.mg X.base k f fd ps sp)(hr:rM k X.A)(hg:Gl X x)(hm:X.mg x=some (.ref f))(hk:W.keepIn X.K (.ref f)=true)(hb:uq X.K fd ps [])(hx:yp (Az X.prog X.w) X E)(hR:RW X.K R E)(ha:A3 X (e::es) t) (W5:yk x:=by decide) (he:AH X e es:=by rfl) (W4:Cw X pos es:=by rfl):
  E3 X (.Call (.Name x p) (e::es) [] pos) (RT sp R t):=PE.mono (Jk F hr hg hm hk hb .nil hx ha W5 he W4) λσ H Q' zz=>x7 zz λδ M Q hs hm ht k=>
 ⟨δ,M,_,hs,hm,ht,λvs H1 ds M1 hd WP e1 q1=>⟨ds,M1,Q,R,by rw[eO];exact hd,WP,q1,uZ e1 k,hR⟩⟩
variable {P:Pg}{w:Wo}{K:ql}{mg:Str→Option Vl}{base:Heap}{N:List Str}{qual:Str}{scope:Scope}{cd:Vl}{A:Ar}{outer:List Env}{s0:Sd}{H0:Hp}{ta:wY}
def Tg{x qual:Str}{st:Stmt}{f:Addr}{fd:FuncData}{N ps:List Str}{k:Nat}{sp:D5}(F:N0 K x qual st f fd)(S:sW N ps (pX st))(len:∀ds M Q R,sp ds M Q R->ds.length=ps.length) (Xa:∀(WW:Vl) (A:Ar) (outer:List Env) (s:Sd) (H:Hp) (E:XK) (R:Addr->Mp->Prop),rM k (A.deeper (envOfC qual (pX st) s.heap.objs.size f WW))->RW K R E->
   ∃t,G9 (va (Az P w) P w K mg base N qual (pX st) f WW A outer s H E) (rE st) t/\∀ds M Q,sp ds M Q R->t {nx:=λ_ M'=>∃WS,qx WS M'/\Q .mH WS,rt:=λd M'=>∃WS,qx WS M'/\Q d WS} (wF N ds) M):NW P w K mg base (k+1) f fd ps sp:=by
 obtain⟨oc,od,kV,Xq,pm,an,WW,ct,XI,rfl,lk,X1⟩:=F.ex;refine LG lk X1 S (λvs H Q E h=>?_) λA outer s H vs Q' E hr h=>?_
 .obtain⟨ds,M,Q,R,hd,_,hs,_⟩:=h;rw[<-hd.length];exact len ds M Q R hs
 .obtain⟨ds,M,Q,R,hd,hm,hs,k,hR⟩:=h;obtain⟨t,ht,hb⟩:=Xa WW A outer s H E R hr hR;exact⟨_,ht,wF N ds,M,_,DU hd,hm,hb ds M Q hs,λσ' H' δ' M' _ x2 x3 _ ⟨WS,y1,y2⟩=>k .mH H' .mH WS .mH (x2.sub y1) x3 y2,λv H' d M' x1 x2 x3 ⟨WS,y1,y2⟩=>k v H' d WS x1 (x2.sub y1) x3 y2,λ_ _ _ _ _ _ _ _ z=>z,λ_ _ _ _ _ _ _ _ z=>z⟩
end L3
namespace L2
open PySem PySem.Spec PyProof.Rows
def TKept(H H':Hp):Prop:=(∀b xs,H b=some (.tup xs)->H' b=some (.tup xs))/\∀b o u,H b=some (.frz o u)->H' b=some (.frz o u)
def Vh(X:Cx)(WN:List (Addr×Obj))(σ:St)(J:Hp->Prop)(E:XK)(ev:Vl)(s':Sd):Prop:=Ca λH s=>J H/\Inv X WN σ H s/\Az X.prog X.w X.stack H s E ev s'
def Ut(X:Cx)(WN:List (Addr×Obj))(σ:St)(J:Hp->Prop)(E:XK)(ev:Vl)(s':Sd):Prop:=S5 λa C dx H' tb H1 s1=>ev=.ref a/\E (.ref C) dx H'/\Inv X WN σ H' s'/\Qa s'.heap a (.ref C) dx (some tb)/\H' a=none/\H' tb=none/\J H1/\TKept H1 H'/\Inv X WN σ H1 s1/\s1.heap.get? a=none
def RV{X:Cx}{M:Model}{E₁ E₂:Vl->Sd->Prop}{WN:List (Addr×Obj)}{σ:St}{J:Hp->Prop}{E:XK}{ev:Vl}{s':Sd}{outer:List Env}{L:Addr}(h:Vh X WN σ J E ev s')(Xc:X.stack=X.env::outer)(hL:X.env.frame=some L):
  wpAny M X.A (noteFrame ev X.env) (λ_ s₂=>wpAny M X.A (setFlight ev none) (λ_ s₃=>Ut X WN σ J E ev s₃) E₂ s₂) E₁ s':=by
 obtain⟨H,s,jH,I,e,C,dx,H',tb,rfl,q,os,bare,un,mO,x,he,ht,ne,nt⟩:=h;obtain⟨hh,g,d,t,Zw⟩:=s';obtain rfl:Zw=s.os:=os;have I':=I.call (h':=hh) (g':=g) (d':=d) (t':=t) (ch:=[]) un mO bare (λb z=>absurd z (by simp));have hF:=I'.stack;have Xw:=I'.nz;have YL:=I.ok.frames;rw[Xc]at hF YL;refine Jz (base:=X.base) (outer:=outer) YL hF hL x λh' T tn k1 k2 x'=>?_;have W2:∀b o,H' b=some o->∀u,hh.get? b=some u->h'.get? b=some u:=λb o hb u hu=>k1 b u hu (λz=>by rw[Xw b (by rw[Xc];exact z)]at hb;cases hb) (λz=>by rw[z,ne]at hb;cases hb) (λz=>by cases z;rw[nt]at hb;cases hb);have un':Un (vS X.stack) [] H H' s.heap h':=by
  refine⟨λb o hb h0 nf nx=>?_,λb o hb h0 hf nx=>?_,un.free,λb o hb nx=>?_,un.nG,un.nE,un.nH⟩
  .exact k1 b o (un.keep b o hb h0 nf nx) (λz=>nf (by rw[Xc];exact z)) (λz=>by rw[z,he]at hb;cases hb) λz=>by cases z;rw[ht]at hb;cases hb
  .obtain⟨sl,hs⟩:=un.slot b o hb h0 hf nx;obtain⟨Yn,h2⟩:=k2 b _ hs (by rw[<-Xc];exact hf);exact⟨Yn,h2⟩
  .obtain⟨o',hs⟩:=un.there b o hb nx;by_cases z:b∈vS (X.env::outer)
   .obtain⟨sl,h2⟩:=k2 b o' hs z;exact⟨_,h2⟩
   .exact⟨o',k1 b o' hs z (λz=>by rw[z,he]at hb;cases hb) λz=>by cases z;rw[ht]at hb;cases hb⟩
 have ZC:ya X.prog X.w H' h':=λb o hb=>(mO b o hb).nj (λb' u XF hu=>by
  rcases XF with z|z
  .subst z;exact W2 b' o hb u hu
  .exact W2 b' _ z u hu) (λ_ q=>q) λ_ _ q=>q
 have I3:Inv X WN σ H' {heap:=h',gens:=g,drawn:=d,toks:=t,os:=s.os}:=Inv.call (s:=s) (ch:=[]) I un' ZC bare (λb z=>absurd z (by simp));refine⟨e,C,dx,H',T,H,s,rfl,q,I3,x',ne,?_,jH,⟨un.nG,un.nE⟩,I,he⟩;cases z:H' T with
 | none=>rfl
 | some o=>obtain⟨ob,hob⟩:=xT (mO T o z);have tn:hh.get? T=none:=tn;rw[hob]at tn;cases tn
variable {X:Cx}{WN:List (Addr × Obj)}{σ σ':St}{H H1:Hp}{s s1:Sd}{ev:Vl}{E':Vl→Sd→Prop}{a:Addr}
def Inv.adopt{o:HO}(I:Inv X WN σ H s)(I1:Inv X WN σ' H1 s1)(n1:s1.heap.get? a=none)(hn:H a=none)(ok:rP X.prog X.w (upd H a o) s.heap a o):Inv X WN σ (upd H a o) s:=by
 have ne:∀b ob,s1.heap.get? b=some ob->b≠a:=λb ob e z=>by rw[z,n1]at e;cases e
 have nh:∀b ob,H b=some ob->b≠a:=λb ob e z=>by rw[z,hn]at e;cases e
 refine⟨I.ok,I.os,I.bare,⟨I.base.keep,I.base.slot,λb o' e h0 hb=>?_,I.base.there,λb xs e=>?_,λb o' u e=>?_,λb ps e=>?_⟩,I.loc,I.cell,?_,λx c e=>?_,λp hp=>?_,λb ob e=>?_,I.len⟩
 .obtain⟨o2,e2⟩:=I1.base.there b o' e hb;rw[pZ (ne b o2 e2)];exact I.base.free b o' e h0 hb
 .have:=I.base.nG b xs e;rw[pZ (nh b _ this)];exact this
 .have:=I.base.nE b o' u e;rw[pZ (nh b _ this)];exact this
 .obtain⟨more,this⟩:=I.base.nH b ps e;exact⟨more,by rw[pZ (nh b _ this)];exact this⟩
 .obtain⟨m,⟨o2,_,_,e2,_⟩,_⟩:=I1.loc;rw[pZ (ne _ o2 e2)];exact I.free
 .obtain⟨v,o2,e2,_⟩:=I1.cell x c e;rw[pZ (ne _ o2 e2)];exact I.mV x c e
 .obtain⟨e1,e2,e3,e4,e5⟩:=I.pin p hp;exact⟨e1,by rw[pZ (ne _ _ (I1.pin p hp).1)];exact e2,e3,e4,e5⟩
 .by_cases z:b=a
  .subst z;rw[qe]at e;cases e;exact ok
  .rw[pZ z]at e;exact(I.mO b ob e).nj (λ_ _ _ q=>q) (λb' q=>by rw[pZ (nh b' _ q)];exact q) λb' xs q=>by rw[pZ (nh b' _ q)];exact q
def Cx.marked(X:Cx)(ev:Vl)(E:Vl->Sd->Prop):Cx:={X with A:=X.A.mark (some ev),calm:=false,xe:=E}
def Inv.mark(I:Inv X WN σ H s):Inv (X.marked ev E') WN σ H s:=
 ⟨⟨I.ok.mod,I.ok.kind,I.ok.glob,I.ok.blt,I.ok.above,I.ok.inj,I.ok.has,I.ok.oi,(λz=>by cases z),I.ok.frames,I.ok.oC,I.ok.oR,I.ok.bs,I.ok.nW,I.ok.nL,I.ok.nR,I.ok.nu,I.ok.oa⟩,I.os,I.bare,I.base,I.loc,I.cell,I.free,I.mV,I.pin,I.mO,I.len⟩
def Inv.unmark(ok:X.Ok)(I:Inv (X.marked ev E') WN σ H s):Inv X WN σ H s:=⟨ok,I.os,I.bare,I.base,I.loc,I.cell,I.free,I.mV,I.pin,I.mO,I.len⟩
def SP.unmark(ok:X.Ok){D:EQ}{f:Flow}(h:SP (X.marked ev E') WN D f s):SP X WN D f s:=by
 cases f with
 | next=>obtain⟨a,b,I,q⟩:=h;exact⟨a,b,I.unmark ok,q⟩
 | brk=>obtain⟨a,b,I,q⟩:=h;exact⟨a,b,I.unmark ok,q⟩
 | cont=>obtain⟨a,b,I,q⟩:=h;exact⟨a,b,I.unmark ok,q⟩
 | ret v=>obtain⟨a,b,c,I,q⟩:=h;exact⟨a,b,c,I.unmark ok,q⟩
def HK{M:Model}{h:Heap}{a:Addr}{o:Obj}(ho:h.get? a=some o):W.Looks M h (typeOf (.ref a)) o.cls:=by intro A Q E s k q;unfold typeOf;exact cW (wpAny_load (k a o ho) (dq q))
def Gu{M:Model}{A:Ar}{E:Vl->Sd->Prop}{a C T:Addr}{Q:Unit->Sd->Prop}{dx:Option Addr}(x:Qa s.heap a (.ref C) dx (some T))(h:∀h':Heap,(∀b,h'.get? b=s.heap.get? b)->Q () {s with heap:=h'}):wpAny M A (setFlight (.ref a) none) Q E s:=by
 obtain⟨oe,vs,ho,hc,_,hd,h1,hv,hT⟩:=x;obtain⟨nTe,oT,ts,X0,Ym,h3,hn⟩:=hT T rfl;unfold setFlight;refine cW (fh ho hd hv ?_);rw[dg (by rfl)];refine hJ X0 Ym h3 (h _ λb=>?_);by_cases z:T=b
 .subst z;obtain⟨oc,od,ZQ,XI⟩:=oT;obtain rfl:ZQ=.fields ts:=Ym;rw[fH _ X0 rfl,X0];show some (Obj.mk oc od (.fields (ts.setIfInBounds 3 .none)) XI)=_;have:ts.setIfInBounds 3 .none=ts:=by
   apply Array.ext
   .simp
   .intro i h1 h2;rw[Array.getElem_setIfInBounds];split
    .rename_i e;subst e;rw[Array.getElem?_eq_getElem h3]at hn;exact(dn hn).symm
    .rfl
  rw[this]
 .exact fZ _ _ z
def R4(X:Cx)(e:Expr)(t:St->Hp->VK->(Hp->Prop)->XK->Prop):Prop:=∀(WN:List (Addr×Obj)) (s:Sd) (σ:St) (H:Hp) (Q:VK) (J:Hp->Prop) (E:XK),Inv X WN σ H s->t σ H Q J E->wpAny (model X.prog X.w) X.A (eval e X.env) (EP X WN σ Q) (Vh X WN σ J E) s
def Wr(X:Cx)(st:Stmt)(t:EQ->St->Hp->(Hp->Prop)->XK->Prop):Prop:=∀(WN:List (Addr×Obj)) (s:Sd) (σ:St) (H:Hp) (D:EQ) (J:Hp->Prop) (E:XK),Inv X WN σ H s->t D σ H J E->wpAny (model X.prog X.w) X.A (exec st X.env) (SP X WN D) (Vh X WN σ J E) s
def OJ{X:Cx}{i:Nat}{x:Str}{e:Expr}{te:St->Hp->VK->(Hp->Prop)->XK->Prop}{pos WV:Pos}(hN:X.N.Nodup)(hi:X.N[i]?=some x)(hx:KQ X.env.scope x)(he:R4 X e te)(hs:swapsWith e (some (.Name x WV)) pos.line X.env=pure false:=by rfl)(hf:KO X x:=by first|exact .inl rfl|exact .inr rfl|assumption):
  Wr X (.Assign [.Name x WV] e pos) (λD σ H J E=>te σ H (λv H'=>D.nx (σ.set i (some v)) H') J E):=by
 intro WN s σ H D J E I h;refine kX (su (he WN s σ H _ J E I h) λv s1 zz=>x5 zz λy H1 I1 r1 q1=>?_) hs;exact B8 I1 hN hi hx r1 (λs2 I2=>⟨_,H1,I2,q1⟩) hf
variable {k:Nat}{f C:Addr}{fd:FuncData}{ps:List Str}{sp:Sp}{Xx:List V}{ds:List Vl}{m:Str}{p pos WQ:Pos}{e o:Expr}{es:List Expr}{t:TA}
section
variable {x:Str}
def Lb(F:xb X.prog X.w X.K X.mg X.base (Az X.prog X.w) k f fd ps sp)(hr:rM k X.A)(hg:Gl X x)(hm:X.mg x=some (.ref f))(hk:W.keepIn X.K (.ref f)=true)(hb:uq X.K fd ps ds)(hd:qw Xx ds) (ha:PA (X.nS λ_ _=>False) (e::es) t) (W5:yk x:=by decide) (he:AH X e es:=by rfl) (W4:Cw X pos es:=by rfl):
  R4 X (.Call (.Name x p) (e::es) [] pos) (λσ H Q J E=>t σ H λvs H1=>J H1/\sp (vs++Xx) H1 Q E):=by
 intro WN s σ H Q J E I h;refine fR (wK I hg hm ?_ W5);refine iN (h₀:=X.base) I.ok.mod.oz hk (eh (ha pos WN s σ H _ I.nS h) (λus s1 ⟨vs,H1,I1,r,jH,q⟩=>⟨I1.mY,?_⟩) λ_ _ z=>z.elim) he W4;have I1:=I1.xeOf;have r2:qw (vs++Xx) (us++ds):=r.append hd;have hl:(us++ds).length=ps.length:=by rw[<-r2.length];exact F.len _ _ _ _ q
 refine iA (gj (F.run X.A X.stack s1 H1 ⟨us,[]⟩ (us++ds) (vs++Xx) Q E hr I1.nX (hb s1 us I1.mY hl) r2 q) λr s' hq=>?_);cases r with
 | error e=>exact⟨H1,s1,jH,I1,hq⟩
 | ok fl=>
  cases fl with
  | ret u=>exact I1.after hq
  | next=>exact False.elim hq
  | brk=>exact False.elim hq
  | cont=>exact False.elim hq
end
def Pe{X:Cx}{st b₀:Stmt}{XA:List Stmt}{cn:Str}{cnp Yz pos:Pos}{Cc L:Addr}{outer:List Env}{t:EQ->St->Hp->(Hp->Prop)->XK->Prop}{th:TS}(hb:Wr X st t)(Xc:X.stack=X.env::outer)(hL:X.env.frame=some L)(hg:Gl X cn)(hm:X.mg cn=some (.ref Cc))(hs:∀ev E',BR (X.marked ev E') (b₀::XA) th) (W5:yk cn:=by decide):
  PS X (.Try [st] [.ExceptHandler (some (.Name cn cnp)) none (b₀::XA) Yz] [] [] pos) (λD σ H=>∃(J:Hp->Prop) (E:XK),t D σ H J E/\∀C dx H1 H',J H1->TKept H1 H'->E (.ref C) dx H'->W.exmOne X.K (.ref C) (.ref Cc)=some true/\th D σ H'):=by
 intro WN s σ H D I ⟨J,E,h,hh⟩;refine wpAny_Try_except (eh (Q:=λf s'=>SP X WN D f s') (jx (su (hb WN s σ H D J E I h) λf s1 q=>?_)) (λf s1 q=>?_) λev s1 x=>?_)
 .cases f with
  | next=>exact gN q
  | brk=>exact q
  | cont=>exact q
  | ret v=>exact q
 .cases f with
  | next=>exact gN q
  | brk=>exact q
  | cont=>exact q
  | ret v=>exact q
 .refine eh (RV x Xc hL) (λ_ s2 y=>su y λ_ s3 z=>?_) λ_ _ z=>z;obtain⟨a,C,dx,H',tb,H1,s1,rfl,q,I3,x3,na,nt,jH,tk,I1,n1⟩:=z;obtain⟨WP,h1⟩:=hh C dx H1 H' jH tk q;refine wpAny_handleBy_cons (codeAny_handlers_test (wK (X:=X.marked (.ref a) λ_ _=>False) I3.mark hg hm ?_ W5)) (by intro z;cases z);obtain⟨oe,vs,ho,hc,_⟩:=id x3;refine W.exm_one I3.mY (HK ho) (by rw[hc];exact WP) _ _ _ _ (λ_ _ z=>z) ?_;refine codeAny_handlers_suite (Gu x3 λh' hh'=>?_);have I4:Inv X WN σ H' {s3 with heap:=h'}:=I3.kept (t':=s3.toks) λb u z=>by rw[hh' b];exact z
  refine eh (hs (.ref a) _ WN _ σ H' D I4.mark h1) (λf s5 q5=>SP.unmark I.ok q5) λ_ _ z=>z
structure Wg(K:ql)(C:Addr):Prop where
 hd:(W.clsIn K C).isSome=true
 ga:W.findIn K (.ref C) "__getattribute__"=some (some (.builtin "BaseException.__getattribute__"))
 gt:W.findIn K (.ref C) "__getattr__"=some none
 ha:W.findIn K (.ref C) "__class__"=some (some (.builtin "object.__class__"))
 hn:W.specialIn K (.builtin "object.__class__") "__get__"=some (some (.builtin "getset_descriptor.__get__"))
 htk:W.takesIn K (.builtin "object.__class__")=some true
 hm:W.mroIn K C (.type "object")=some true
 hb:W.mroIn K C (.type "BaseException")=some true
variable {prog:Pg}{w:Wo}{A:Ar}{E:Vl→Sd→Prop}{K:ql}{ox:Obj}
section
variable {x:Addr}
end
end L2
namespace L3
open PySem PySem.Spec PyProof.Rows L2
theorem _root_.L2.TKept.ext{K:ql}{H H':Hp}(h:TKept H H'):qK K H H':=⟨λa xs q=>by
 rcases q with(q|⟨u,q⟩)|q
 .exact .inl (.inl (h.1 a xs q))
 .exact .inl (.inr ⟨u,h.2 a u _ q⟩)
 .exact .inr q,λa o xs q=>h.2 a o _ q⟩
abbrev S':=vh->Mp->DK->(Addr->Mp->Prop)->Prop
def WI(K:ql)(t:S'):St->Hp->VK->(Hp->Prop)->XK->Prop:=λσ H Q' J E=>CC λδ M Q R=>zC K H σ δ/\HM K H M/\t δ M Q R/\(∀v H' d M',rD K H' d v->HM K H' M'->qK K H H'->Q d M'->Q' v H')/\(∀H1,qK K H H1->J H1)/\RW K R E
def Wf(X:Cx)(e:Expr)(t:S'):Prop:=R4 X e (WI X.K t)
def R4.mono{X:Cx}{e:Expr}{t t':St->Hp->VK->(Hp->Prop)->XK->Prop}(h:R4 X e t)(m:∀σ H Q J E,t' σ H Q J E->t σ H Q J E):R4 X e t':=λWN s σ H Q J E I q=>h WN s σ H Q J E I (m σ H Q J E q)
variable {X:Cx}{x:Str}{p pos np WU:Pos}{e:Expr}{es:List Expr}{t:wY}{k:Nat}{f C:Addr}{fd:FuncData}{ps:List Str}{sp:D5}
def K1(F:NW X.prog X.w X.K X.mg X.base k f fd ps sp)(hr:rM k X.A)(hg:Gl X x)(hm:X.mg x=some (.ref f))(hk:W.keepIn X.K (.ref f)=true)(hb:uq X.K fd ps [])(ha:A3 (X.nS λ_ _=>False) (e::es) t) (W5:yk x:=by decide) (he:AH X e es:=by rfl) (W4:Cw X pos es:=by rfl):
  Wf X (.Call (.Name x p) (e::es) [] pos) (λδ M Q R=>t δ M λds M1=>sp ds M1 Q R):=R4.mono (Lb F hr hg hm hk hb .nil ha W5 he W4) λσ H Q' J E ⟨δ,M,Q,R,hs,hm,ht,k,kJ,kR⟩=>
 ⟨δ,M,_,hs,hm,ht,λvs H1 ds M1 hd WP e1 q1=>⟨kJ H1 e1,ds,M1,Q,R,by rw[eO];exact hd,WP,q1,uZ e1 k,kR⟩⟩
variable {b₀:Stmt}{XA:List Stmt}{cn n:Str}{cnp Yz WQ xpos:Pos}{Cc L:Addr}{outer:List Env}{i ix:Nat}{te:S'}{th:xc}
def V7(K:ql)(ix:Nat)(Cc:Addr)(te:S')(th:xc):xc:=λD δ M=>∃R,te δ M (λd M1=>D.nx (δ.set ix (some d)) M1) R/\∀C M',R C M'->W.exmOne K (.ref C) (.ref Cc)=some true/\th D δ M'
def O4(he:Wf X e te)(Xc:X.stack=X.env::outer)(hL:X.env.frame=some L)(hg:Gl X cn)(hm:X.mg cn=some (.ref Cc))(hN:X.N.Nodup)(ZE:X.N[ix]?=some x)(hx:X.env.scope.names.lookup x=some .local) (hs:∀ev E',G9 (X.marked ev E') (b₀::XA) th) (W5:yk cn:=by decide) (Yh:swapsWith e (some (.Name x xpos)) WQ.line X.env=pure false:=by rfl):
  S3 X (.Try [.Assign [.Name x xpos] e WQ] [.ExceptHandler (some (.Name cn cnp)) none (b₀::XA) Yz] [] [] pos) (V7 X.K ix Cc te th):=
 PS.nK (Pe (th:=UV X.K th) (OJ hN ZE (.inl hx) he Yh (.inr hx)) Xc hL hg hm hs W5) λD' σ H hl ⟨δ,M,D,hs,hm,⟨R,ht,hh⟩,k1,k2,k3,k4⟩=>by
  refine⟨λH1=>qK X.K H H1,λcv d H'=>∃C M',cv=.ref C/\HM X.K H' M'/\TQ X.K C d/\R C M',⟨δ,M,_,R,hs,hm,ht,λv H1 d M1 hd WP e1 q1=>?_,λ_ z=>z,λC dx H' M' h1 h0 h2=>⟨C,M',rfl,h1,h0,h2⟩⟩,λC dx H1 H' jH tk ⟨C',M',ec,Yi,Zl,r⟩=>?_⟩
  .exact k1 _ H1 _ M1 ((hs.mono e1).set hd (by rw[hl];exact(cX.mp ZE).1)) WP e1 (by simp) q1
  .cases ec;obtain⟨r1,r2⟩:=hh C M' r;have e1:qK X.K H H':=jH.trans (L2.TKept.ext tk);refine⟨r1,δ,M',D,hs.mono e1,Yi,r2,λσ2 H2 δ2 M2 y1 y2 y3 y4 y5=>?_,λv H2 d M2 y1 y2 y3 y5=>?_,λσ2 H2 δ2 M2 y1 y2 y3 y4 y5=>?_,λσ2 H2 δ2 M2 y1 y2 y3 y4 y5=>?_⟩
   .exact k1 _ H2 _ M2 y1 y2 (e1.trans y3) y4 y5
   .exact k2 _ H2 _ M2 y1 y2 (e1.trans y3) y5
   .exact k3 _ H2 _ M2 y1 y2 (e1.trans y3) y4 y5
   .exact k4 _ H2 _ M2 y1 y2 (e1.trans y3) y4 y5
end L3
namespace L2
open PySem PySem.Spec PyProof.Rows
def BD(es:Array DictEntry):Bool:=es.toList.all λe=>match e.key with|.str _ _=>true|_=>false
def BE{es:Array DictEntry}(h:BD es=true):StrKeys es:=λe he=>by
 have:=eF.mp h e (kc.mpr he);cases z:e.key with
 | str n t=>exact⟨n,t,rfl⟩
 | _=>rw[z]at this;cases this
abbrev NC:List Vl:=[.type "ValueError",.type "Exception",.type "BaseException",.type "object"]
def EK{X:Cx}:yp (Az X.prog X.w) X (λ_ _ _=>False):=λ_ _ _ _ _ _ _ ⟨_,_,_,_,_,_,z,_⟩=>z.elim
def Pm{K:ql}{t:Vl}{C:Addr}{cd:ClassData}{b:Bool}(q0:W.subIn K (.ref C) (.type "BaseException")=some true)(q1:W.clsIn K C=some cd)(q2:W.typeIn K (.ref C)=some (.type "type"))(s:W.subIn K t (.ref C)=some b):W.exmOne K t (.ref C)=some b:=by unfold W.exmOne;rw[q0,dg (by rfl)];unfold W.kitCls;simp only;rw[q1,q2,dg (by rfl)];exact s
end L2
namespace L3
open PySem PySem.Spec PyProof.Rows L2
def Sl{K:ql}:RW K (λ_ _=>False) (λ_ _ _=>False):=λ_ _ _ _ _ _ z=>z
end L3
namespace L2
open PySem PySem.Spec PyProof.Rows
theorem Cz(self:Vl):∀own:List Addr,refuseLoop self "__setattr__" (own.map Value.ref++NC)=pure ()
 | []=>jI.passes self
 | c::r=>by show refuseLoop self "__setattr__" (.ref c::(r.map Value.ref++NC))=pure ();rw[refuseLoop_ref];exact Cz self r
variable {prog:Pg}{w:Wo}{A:Ar}{s:Sd}{K:ql}{x C:Addr}{ox:Obj}{own:List Addr}{name:Str}{v:Vl}
section
variable {E:Vl→Sd→Prop}{cd:ClassData}
def NM{Q:Unit->Sd->Prop}(X:K.In s.heap)(I:W.InstAt s.heap x ox C none)(hs:W.findIn K (.ref C) "__setattr__"=some (some (.builtin "object.__setattr__")))(hc:W.clsIn K C=some cd)(hm:cd.mro=own.map Value.ref++NC)(ht:W.takerIn K C name=some none)(hd:cd.hasDict=true) (h:∀h' d t,(∀b o,b≠x->s.heap.get? b=some o->h'.get? b=some o)->h'.get? x=some {ox with dict:=some d}->Q () {s with heap:=h',toks:=t}):wpAny (model prog w) A (setAttr (.ref x) name v) Q E s:=by
 refine W.set_plain X I hs ?_;have SF:=jI;have ne:cd.mro.isEmpty=false:=by rw[hm];cases own<;>rfl
 have has:cd.mro.contains (.type "object")=true:=by
  rw[hm,List.contains_eq_any_beq,lY];have:NC.any (Value.type "object"==·)=true:=by decide+kernel
  rw[this,kS]
 have sub:W.Looks (model prog w) s.heap (isInstance (.ref x) (.type "object")) true:=I.type.andThen (W.looks_mroIn X (by unfold W.mroIn;rw[hc,lQ,de (by rw[ne];decide),has]));refine iP SF.slot.plain SF.entry (@PySem.W.check_slot (model prog w) _ _ {s with toks:=s.toks+1} "object.__setattr__" "object" "__setattr__" (.ref x) [.str name s.toks,v] [] _ SF.kind SF.split sub (SF.args (.ref x) (.str name s.toks) v) ?_);obtain⟨attr,ha,hr⟩:=Option.bind_eq_some_iff.mp ht;have ZH:W.Looks (model prog w) s.heap (mroOf (.ref C)) cd.mro:=(kt X hc).andThen .now;have L3':W.Looks (model prog w) s.heap (Builtin.ObjectAttr.storeTaker? attr) none:=by
  cases attr with
  | none=>exact .now
  | some a=>
   obtain⟨b,hb,hr⟩:=jY.mp hr;refine(W.looks_takesIn X hb).andThen ?_;cases b
   .exact .now
   .cases hr
 rw[W.osa_eq,refuse_eq];refine cW (cW (I.type.here (s:={s with toks:=s.toks+1}) (cW (ZH.here (s:={s with toks:=s.toks+1}) ?_))));rw[hm,Cz];refine dq (cW (I.type.here (s:={s with toks:=s.toks+1}) (cW ((l8 X ha).here (s:={s with toks:=s.toks+1}) (cW (L3'.here (s:={s with toks:=s.toks+1}) ?_))))));obtain⟨hx,Zi,hn,Zl⟩:=I;obtain⟨oc,odi,oda,XI⟩:=ox;dsimp only at Zi Zl;subst Zi;cases odi with
 | some _=>exact Zl.elim
 | none=>
  refine cW (dq (cW (cW (wpAny_loadPart hx (cW (mh (s:={s with toks:=s.toks+1}) (kt X hc) ?_))))));rw[hd];rw[de (by decide)];obtain⟨hh,g,dr,tk,os⟩:=s;dsimp only at hx h ⊢;rw[de (by simp[typeHasDict])];split
  .cases hn
  .have y1:(hh.push W.emptyDict).get? x=some ⟨.ref C,none,oda,XI⟩:=df _ hx;have nx:x≠hh.objs.size:=λz=>e9 _ (z ▸ dA hx);refine cW (wpAny_alloc' (cW (wpAny_update' y1 (dq ?_))));have e0:((hh.push W.emptyDict).update x λo=>{o with dict:=some hh.objs.size}).Ns hh.objs.size (λ_=>none):=⟨W.emptyDict,#[],_,(iX _ _ _ _ nx.symm).trans (dG hh rfl),rfl,λe he=>absurd he (by simp),λ_=>rfl⟩;refine cW (dq (cW (wpAny_nsSet1 (kZ e0) λh' n1 sb=>?_)));obtain⟨oD,esD,epD,g1,g2,g3⟩:=n1.count (Within.cons name v Within.nil);refine cW (lE g1 (g2 ▸ lF (dX g3 (by rw[dM,dP];decide))) (dq (h h' hh.objs.size _ (λb o hb z=>?_) ?_)))
   .exact(sb.2 b λy=>e9 _ (y ▸ dA z)).trans ((iX _ _ _ _ hb).trans (df _ z))
   .refine(sb.2 x nx).trans (fH _ y1 ?_);have fr:=(Heap.get?_some_iff.mp hx).2;cases oda with
    | _=>first|rfl|exact fr
end
variable {nm q:Str}{bs bm Yd:List Vl}{hdct:Bool}{sn:List Str}{sub:List Vl}{ab:Bool}{col:Option Bool}{dd:Option Addr}{k0 k1 k2 k3 k5:Option Vl}{B Bn newId nid Xj y9:String}{bmN:List Vl}{h:Heap}{g:Array GenState}{d:Drawn}{t:Nat}{os:OsState}
section
variable {E:Vl→Sd→Prop}{N:Addr}
abbrev OX(C t:Addr):Obj:={cls:=.ref C,data:=.fields #[.ref t,.none,.none,.none,.bool false,.none]}
def AR(Fn:ExcBaseFacts Bn newId y9 bmN)(hBn:Yd.contains (.type Bn)=true)(F:ExcBaseFacts B nid Xj Yd)(T:OwnTail h Yd bm){mN:Str->Option Vl}{us:List Vl}{fI:Addr}{oI:Obj}{Q:PySem.Fin->Sd->Prop} (hC:h.get? C=some (excClassObj nm q C N bs bm hdct sn sub ab col dd k0 k1 k2 k3 k5 newId)) (hn:h.Ns N mN) (hi:mN "__init__"=some (.ref fI)) (hf:h.get? fI=some oI) (hfc:oI.cls=.type "function") (WT:us.length<=sizeLine) (hq:∀h' e,Heap.MadeExcOf h h' e (.ref C) us->wpAny (model prog w) A (call (.ref fI) (.ref e::us)) (λr s'=>r=.none/\Q (.done (.ret (.ref e))) s') E ⟨h',g,d,t,os⟩):
  wpAny (model prog w) A (Builtin.«type.__call__» ⟨.ref C::us,[]⟩) Q E ⟨h,g,d,t,os⟩:=by
 repeat (first|with_reducible refine gX hC ?_|with_reducible refine wpAny_madeBy_exc hC ?_|wp_step)
 refine codeAny_call_builtin_code (ir _ Fn.quiet) (wpAny_check_new_subU Fn hBn T hC (codeAny_exc_new_subU Fn hBn F T hC ?_ WT));have kp:∀b o,h.get? b=some o->((h.push {cls:=.type "tuple",data:=.seq us.toArray}).push (OX C h.objs.size)).get? b=some o:=λb o z=>df _ (df _ z);have gE:((h.push {cls:=.type "tuple",data:=.seq us.toArray}).push (OX C h.objs.size)).get? (h.objs.size+1)=some (OX C h.objs.size):=by heap_get
 have hC2:=kp _ _ hC;have Zu:((h.push {cls:=.type "tuple",data:=.seq us.toArray}).push (OX C h.objs.size)).Ns N mN:=let⟨o,es,ep,e,r⟩:=hn;⟨o,es,ep,kp _ _ e,r⟩;have cC:(Value.ref C::bm).contains (.ref C)=true:=by rw[iw,fz,gZ]
 have T2:=T.keeps kp;show wpAny _ _ _ _ _ _;unfold isInstance
 repeat (first|with_reducible refine gX gE ?_|(with_reducible refine kC hC2 ?_;rw[cC])|wp_step)
 show wpAny _ _ (typeLookup (.ref C) _) _ _ _;refine wpAny_typeLookup_tail hC2 Zu T2 F.mroIs F.init.lookup ?_;rw[hi];refine eU (cW ?_);unfold bindSpecial;refine cW (jA (T:="function") ⟨_,kp _ _ hf,hfc⟩ ?_);rw[dg (by decide)];refine dq (cW (eh (hq _ (h.objs.size+1) ⟨kp,hW (gT _),h.objs.size,gE,hW (dw _),df _ (Heap.get?_push_at rfl rfl)⟩) (λr s' hr=>?_) λ_ _ z=>z));obtain⟨rfl,hQ⟩:=hr
 wp_walk
 exact hQ
def HS(Fn:ExcBaseFacts Bn newId y9 bmN)(hBn:Yd.contains (.type Bn)=true)(F:ExcBaseFacts B nid Xj Yd)(T:OwnTail h Yd bm){mN:Str->Option Vl}{us:List Vl}{fI:Addr}{oI:Obj}{Q:Vl->Sd->Prop} (hC:h.get? C=some (excClassObj nm q C N bs bm hdct sn sub ab col dd k0 k1 k2 k3 k5 newId)) (hn:h.Ns N mN) (hi:mN "__init__"=some (.ref fI)) (hf:h.get? fI=some oI) (hfc:oI.cls=.type "function") (WT:us.length<=sizeLine) (hq:∀h' e,Heap.MadeExcOf h h' e (.ref C) us->wpAny (model prog w) (A.under (.builtin "type.__call__" ⟨.ref C::us,[]⟩)) (call (.ref fI) (.ref e::us)) (λr s'=>r=.none/\Q (.ref e) s') E ⟨h',g,d,t,os⟩):
  wpAny (model prog w) A (call (.ref C) us) Q E ⟨h,g,d,t,os⟩:=by
 have f1:=tc_lookup;have f2:=tc_bind (.ref C);have hT:(⟨h,g,d,t,os⟩:Sd).TypeIs (.ref C) "type":=⟨_,hC,rfl⟩;refine iA (jR ?_);show wpAny _ _ (callAny (.ref C) _) _ _ _
 repeat (any_goals(first|assumption|with_reducible refine gX hC ?_|wp_step))
 exact⟨rfl,codeAny_call_builtin_at (ir _ (by decide+kernel)) entry_typeCall (wpAny_check_type_call_sub hC (AR Fn hBn F T hC hn hi hf hfc WT hq))⟩
end
variable {M:Model}{env:Env}
section
variable {E:Vl→Sd→Prop}{N:Addr}
def II(h:Heap)(e C:Addr)(dx:Option Addr):Prop:=Ca λt sl=>h.get? e=some ⟨.ref C,dx,.fields #[.ref t,.none,.none,.none,.bool false,.none],sl⟩
def FN{x:Sem Vl}{Q:Flow->Sd->Prop}(W0:bm.contains (.type "BaseException")=true)(hh:A.handled=none) (h:wpAny M A x (λv s₁=>∃e dx,v=.ref e/\s₁.heap.get? C=some (excClassObj nm q C N bs bm hdct sn sub ab col dd k0 k1 k2 k3 k5 newId)/\II s₁.heap e C dx/\E (.ref e) s₁) E s):
  wpAny M A (raiseStmt env (some x) none) Q E s:=by
 have cB:(Value.ref C::bm).contains (.type "BaseException")=true:=by rw[iw,W0,kS]
 unfold raiseStmt;refine cW (eh h (λv s₁ ⟨e,dx,ev,hC,⟨t,sl,he⟩,hE⟩=>?_) λ_ _ z=>z);subst ev;obtain⟨hp,g,d,tk,os⟩:=s₁
 repeat (first|with_reducible refine gX he ?_|with_reducible refine gX hC ?_|(with_reducible refine kC hC ?_;rw[cB])|wp_step)
 exact wpAny_raiseNew_none hh hE
def GP(Fn:ExcBaseFacts Bn newId y9 bmN)(hBn:Yd.contains (.type Bn)=true)(F:ExcBaseFacts B nid Xj Yd){mN:Str->Option Vl}{fI:Addr}{x:Str}{np WU pos:Pos}{args:List Expr}{Q:Flow->Sd->Prop} (W0:bm.contains (.type "BaseException")=true) (hh:A.handled=none) (W6:(backTo WU (starEach args env)).any (·.1)=false) (hi:mN "__init__"=some (.ref fI)) (h:wpAny (model prog w) A (eval (.Name x np) env) (λf s₁=>f=.ref C/\wpAny (model prog w) A (evalArgs (.ref C) true (backTo WU (starEach args env)) []) (λa s₂=>a.kw=[]/\a.pos.length<=sizeLine/\s₂.heap.get? C=some (excClassObj nm q C N bs bm hdct sn sub ab col dd k0 k1 k2 k3 k5 newId)/\s₂.heap.Ns N mN/\OwnTail s₂.heap Yd bm/\(∃oI,s₂.heap.get? fI=some oI/\oI.cls=.type "function")/\
    ∀h' e,Heap.MadeExcOf s₂.heap h' e (.ref C) a.pos->wpAny (model prog w) (A.under (.builtin "type.__call__" ⟨.ref C::a.pos,[]⟩)) (call (.ref fI) (.ref e::a.pos))
     (λr s'=>r=.none/\∃dx,s'.heap.get? C=some (excClassObj nm q C N bs bm hdct sn sub ab col dd k0 k1 k2 k3 k5 newId)/\II s'.heap e C dx/\E (.ref e) s') E {s₂ with heap:=h'}) E s₁) E s):
  wpAny (model prog w) A (exec (.Raise (some (.Call (.Name x np) args [] WU)) none pos) env) Q E s:=by
 rw[arm_exec_Raise];refine cW (ie (FN (C:=C) (nm:=nm) (q:=q) (N:=N) (bs:=bs) (bm:=bm) (hdct:=hdct) (sn:=sn) (sub:=sub) (ab:=ab) (col:=col) (dd:=dd) (k0:=k0) (k1:=k1) (k2:=k2) (k3:=k3) (k5:=k5) (newId:=newId) W0 hh ?_));refine cW (eh (wpAny_Call_ofName (eh h (λf s₁ ⟨ef,h₁⟩=>?_) λ_ _ z=>z)) (λv s₃ h₃=>cW (ie (dq h₃))) λ_ _ z=>z);subst ef;unfold callWith;refine cW (eU (eh h₁ (λa s₂ h₂=>cW (ie ?_)) λ_ _ z=>z));obtain⟨WQ,akw⟩:=a;obtain⟨hkw,WT,hC,hn,T,⟨oI,hf,hfc⟩,h₂⟩:=h₂;obtain rfl:akw=[]:=hkw;obtain⟨hp,g,d,tk,os⟩:=s₂;simp only[W6];refine cW (wpAny_keeperOf_exc hC (cW (HS Fn hBn F T hC hn hi hf hfc WT λh' e hm=>eh (h₂ h' e hm) (λr s' ⟨z,dx,c1,c2,c3⟩=>⟨z,cW (eU (wpAny_point (dq ⟨e,dx,rfl,c1,c2,c3⟩)))⟩) λ_ _ z=>z)))
end
def x0(a C:Addr)(h:Heap):Prop:=II h a C none
def x1(a C:Addr)(h:Heap):Prop:=∃d,II h a C (some d)
structure yM(K:ql)(C:Addr)(f:Str):Prop where
 sa:W.findIn K (.ref C) "__setattr__"=some (some (.builtin "object.__setattr__"))
 cd:∃cd own,W.clsIn K C=some cd/\cd.mro=List.map Value.ref own++NC/\cd.hasDict=true
 tk:W.takerIn K C f=some none
variable {X:Cx}{WN:List (Addr × Obj)}{σ σ':St}{H H1:Hp}{s1:Sd}{a:Addr}
section
variable {f:Str}
def GV{A:Ar}{E:Vl->Sd->Prop}{u:Vl}{Q:Unit->Sd->Prop}(I:Inv X WN σ H s)(e:H a=some (.ext (x0 a C)))(st:yM X.K C f)(h:∀s',Inv X WN σ (upd H a (.ext (x1 a C))) s'->Q () s'):wpAny (model X.prog X.w) A (setAttr (.ref a) f u) Q E s:=by obtain⟨⟨t,sl,ho⟩,_,_⟩:=I.mO a _ e;obtain⟨cd,own,c1,c2,c3⟩:=st.cd;refine NM I.mY ⟨ho,rfl,rfl,trivial⟩ st.sa c1 c2 st.tk c3 λh' d tk k1 k2=>h _ ?_;exact I.write (x:=a) (e:=a) (by rw[e];exact True.intro) (.inl rfl) k1 ⟨_,k2⟩ ⟨⟨d,t,sl,k2⟩,⟨_,k2⟩,λh1 h2 ⟨d',t',Yn,z⟩ kk=>⟨d',t',Yn,kk _ z⟩⟩
def Inv.drop{φ:Heap->Prop}(I:Inv X WN σ (upd H1 a (.ext φ)) s)(I1:Inv X WN σ' H1 s1)(hn:H1 a=none):Inv X WN σ H1 s:=by
 refine⟨I.ok,I.os,I.bare,⟨I.base.keep,I.base.slot,I1.base.free,I.base.there,I1.base.nG,I1.base.nE,I1.base.nH⟩,I.loc,I.cell,I1.free,I1.mV,λp hp=>⟨(I.pin p hp).1,(I1.pin p hp).2.1,(I.pin p hp).2.2⟩,λb ob e=>?_,I.len⟩;have nb:b≠a:=λz=>by rw[z,hn]at e;cases e
 refine(I.mO b ob (by rw[pZ nb];exact e)).nj (λ_ _ _ q=>q) (λb' q=>?_) λb' xs q=>?_
 .by_cases z:b'=a
  .rw[z,qe]at q;cases q
  .rwa [pZ z]at q
 .by_cases z:b'=a
  .rw[z,qe]at q;cases q
  .rwa [pZ z]at q
end
def Mc(K:ql)(ta tv:TE)(f:Str):TS:=λD σ H=>tv σ H λ_ H1=>ta σ H1 λx H2=>∃a C,x=.ref a/\H2 a=some (.ext (x0 a C))/\yM K C f/\D.nx σ (upd H2 a (.ext (x1 a C)))
def Os{X:Cx}{o value:Expr}{f:Str}{pos WV:Pos}{ta tv:TE}(ha:PE X o ta)(hv:PE X value tv)(hs:swapsWith value (some (.Attribute o f WV)) pos.line X.env=pure false:=by rfl):PS X (.Assign [.Attribute o f WV] value pos) (Mc X.K ta tv f):=by intro WN s σ H D I h;refine iM (su (hv WN s σ H _ I h) λu s1 zz=>x5 zz λy H1 I1 ry q=>su (ha WN s1 σ H1 _ I1 q) λov s2 zz=>?_) hs;obtain⟨x,H2,I2,rx,a,C,ex,ea,st,q2⟩:=zz;subst ex;obtain rfl:ov=Value.ref a:=rx;exact GV I2 ea st λs3 I3=>⟨σ,_,I3,q2⟩
def vW(K:ql)(f:Str):Sp:=λvs H Q _=>CK λe C y=>vs=[.ref e,y]/\H e=some (.ext (x0 e C))/\yM K C f/\Q .mH (upd H e (.ext (x1 e C)))
variable {qual:Str}{scope:Scope}{outer:List Env}{s0:Sd}{H0:Hp}{P:Pg}{mg:Str→Option Vl}{base:Heap}
section
def Nj{x qual y1 y2 fl:Str}{st:Stmt}{f:Addr}{fd:FuncData}(F:N0 K x qual st f fd)(S:sW [y1,y2] [y1,y2] (pX st)) (hb:∀(WW:Vl) (A:Ar) (outer:List Env) (s:Sd) (H:Hp) (E:XK),BR (va (Az P w) P w K mg base [y1,y2] qual (pX st) f WW A outer s H E) (rE st) (Mc K (Ii 0) (Ii 1) fl)):xb P w K mg base (Az P w) 1 f fd [y1,y2] (vW K fl):=by
 obtain⟨oc,od,kV,Xq,pm,an,WW,ct,XI,rfl,lk,X1⟩:=F.ex;refine LG lk X1 S (λvs H Q E h=>?_) λA outer s H vs Q' E hr h=>⟨_,hb WW A outer s H E,?_⟩
 .obtain⟨e,C,y,rfl,_⟩:=h;rfl
 .obtain⟨e,C,y,rfl,h1,h2,q⟩:=h;exact⟨y,rfl,.ref e,rfl,e,C,rfl,h1,h2,q⟩
def IT(K:ql)(C fI:Addr):Prop:=
 ∃nm q N bs bm Yd hdct sn sub ab col dd k0 k1 k2 k3 k5,∃B Bn newId nid Xj y9:String,∃bmN,∃mN:Str->Option Vl,ExcBaseFacts Bn newId y9 bmN/\Yd.contains (Value.type Bn)=true/\ExcBaseFacts B nid Xj Yd/\bm.contains (Value.type "BaseException")=true/\mN "__init__"=some (.ref fI)/\
  ∀h:Heap,K.In h->h.get? C=some (excClassObj nm q C N bs bm hdct sn sub ab col dd k0 k1 k2 k3 k5 newId)/\h.Ns N mN/\OwnTail h Yd bm/\∃oI,h.get? fI=some oI/\oI.cls=.type "function"
variable {N:List Str}{f:Addr}{cd:Vl}{E:XK}
def J9{X:Cx}(hX:X=va (Az P w) P w K mg base N qual scope f cd A outer s0 H0 E){C fI:Addr}{fdI:FuncData}{ps:List Str}{fl:Str}{k:Nat}{x:Str}{np WU pos:Pos}{e:Expr}{ta:TA}(hC:IT X.K C fI)(F:xb X.prog X.w X.K X.mg X.base (Az X.prog X.w) k fI fdI ps (vW X.K fl))(hr:rM (k+1) X.A)(hb:uq X.K fdI ps [])(st:yM X.K C fl) (hg:Gl X x) (hm:X.mg x=some (.ref C)) (ha:PA X [e] ta) (hs:starEach [e] X.env=[(false,eval e X.env)]:=by rfl) (W5:yk x:=by decide):
  PS X (.Raise (some (.Call (.Name x np) [e] [] WU)) none pos) (λ_ σ H=>ta σ H λvs H1=>(∃y,vs=[y])/\∀d,E (.ref C) (some d) H1):=by
 intro WN s σ H D I h;obtain⟨nm,q,N',bs,bm,Yd,hdct,sn,sub,ab,col,dd,k0,k1,k2,k3,k5,B,Bn,newId,nid,Xj,y9,bmN,mN,f1,f2,f3,f4,f5,YH⟩:=hC;have hcalm:X.A.handled=none:=I.ok.hd (by rw[hX];rfl);refine GP (nm:=nm) (q:=q) (N:=N') (bs:=bs) (hdct:=hdct) (sn:=sn) (sub:=sub) (ab:=ab) (col:=col) (dd:=dd) (k0:=k0) (k1:=k1) (k2:=k2) (k3:=k3) (k5:=k5) f1 f2 f3 f4 hcalm (by rw[hs];rfl) f5 (wK I hg hm ⟨rfl,?_⟩ W5);rw[hs];refine evalArgs_kwB rfl ?_;have Yk:=ha WU WN s σ H _ I h;rw[hs]at Yk;refine su Yk λus s1 ⟨vs,H1,I1,r1,⟨y,ey⟩,q1⟩=>?_;subst ey;obtain⟨u,rfl,ru⟩:=ye r1;refine wpAny_evalAll_nil ?_;obtain⟨c1,c2,c3,c4⟩:=YH s1.heap I1.mY;refine⟨rfl,by show 1<=sizeLine;rw[dM];decide,c1,c2,c3,c4,λh' e' md=>?_⟩;obtain⟨mk,mn,t,mt,_⟩:=md;have hn:H1 e'=none:=F' I1.mO mn;have I2:Inv X WN σ H1 {s1 with heap:=h'}:=I1.kept (t':=s1.toks) mk;have I3:Inv X WN σ (upd H1 e' (.ext (x0 e' C))) {s1 with heap:=h'}:=I2.adopt I1 mn hn ⟨⟨t,_,mt⟩,⟨_,mt⟩,λh1 h2 ⟨t',Yn,z⟩ kk=>⟨t',Yn,kk _ z⟩⟩;have r2:qw [V.ref e',y] [Value.ref e',u]:=.cons rfl (.cons ru .nil);have Yg:vW X.K fl [V.ref e',y] (upd H1 e' (.ext (x0 e' C))) (λv H2=>v=.mH/\H2=upd H1 e' (.ext (x1 e' C))) (λ_ _ _=>False):=⟨e',C,y,rfl,qe,st,rfl,Po⟩;have hl:([Value.ref e',u]:List Vl).length=ps.length:=by rw[<-r2.length];exact F.len _ _ _ _ Yg
 refine iA (gj (F.run _ X.stack _ _ ⟨[Value.ref e',u],[]⟩ [Value.ref e',u] _ _ _ (hr.make C [u] []) (I3.nX.make C [u] []) (hb _ [Value.ref e',u] I3.mY hl) r2 Yg) λr s' Yo=>?_);cases r with
 | error ev=>obtain⟨_,_,_,_,_,_,z,_⟩:=Yo;exact z.elim
 | ok fw=>
  cases fw with
  | ret uv=>obtain⟨v,H',I4,rv,ev,eH⟩:=I3.after Yo;subst ev eH;obtain⟨⟨d,t',Yn,md⟩,_,_⟩:=I4.mO e' _ qe;have I5:=I4.drop I1 hn;refine⟨rv,some d,(YH s'.heap I4.mY).1,⟨t',Yn,md⟩,?_⟩;subst hX;have Xf:Un (vS outer) [] H0 H1 s0.heap s1.heap:=I1.base;exact S8 I5 (tb:=none) ⟨_,_,md,rfl,rfl,rfl,(by show 1<6;decide),rfl,λT z=>by cases z⟩ (Gd Xf rfl mn) (λT z=>by cases z) hn (q1 d)
  | next=>exact False.elim Yo
  | brk=>exact False.elim Yo
  | cont=>exact False.elim Yo
end
end L2
namespace L3
open PySem PySem.Spec PyProof.Rows L2
variable {P:Pg}{w:Wo}{K:ql}{mg:Str→Option Vl}{base:Heap}{N:List Str}{qual:Str}{scope:Scope}{f:Addr}{cd:Vl}{A:Ar}{outer:List Env}{s0:Sd}{H0:Hp}{E:XK}{x:Str}{np WU pos:Pos}{e:Expr}{C fI:Addr}{fdI:FuncData}{ps:List Str}{fl:Str}{k:Nat}{R:Addr→Mp→Prop}{ta:wY}
def Om(C:Addr)(R:Addr->Mp->Prop)(ta:wY):xc:=λ_ δ M=>ta δ M λds M1=>ds.length=1/\R C M1
def JZ(hC:IT K C fI)(F:xb P w K mg base (Az P w) k fI fdI ps (vW K fl))(hr:rM (k+1) (va (Az P w) P w K mg base N qual scope f cd A outer s0 H0 E).A)(hb:uq K fdI ps [])(st:yM K C fl)(hi:W.findIn K (.ref C) "__init__"=some (some (.ref fI)))(hg:Gl (va (Az P w) P w K mg base N qual scope f cd A outer s0 H0 E) x)(hm:mg x=some (.ref C))(hR:RW K R E)(ha:A3 (va (Az P w) P w K mg base N qual scope f cd A outer s0 H0 E) [e] ta) (hs:starEach [e] (va (Az P w) P w K mg base N qual scope f cd A outer s0 H0 E).env=[(false,eval e (va (Az P w) P w K mg base N qual scope f cd A outer s0 H0 E).env)]:=by rfl) (W5:yk x:=by decide):
  S3 (va (Az P w) P w K mg base N qual scope f cd A outer s0 H0 E) (.Raise (some (.Call (.Name x np) [e] [] WU)) none pos) (Om C R ta):=
 PS.mono (J9 rfl hC F hr hb st hg hm ha hs W5) λD' σ H ⟨δ,M,D,hs,hm,ht,_⟩=>⟨δ,M,_,hs,hm,ht,λvs H1 ds M1 hd WP e1 q1=>⟨by
  obtain⟨d,rfl⟩:∃d,ds=[d]:=match ds,q1.1 with|[d],_=>⟨d,rfl⟩
  obtain⟨v,rfl,_⟩:=sd hd;exact⟨v,rfl⟩,λd=>hR C (some d) H1 M1 WP (λ_ _=>⟨fI,hi⟩) q1.2⟩⟩
variable {X:Cx}{b₀:Stmt}{XA:List Stmt}{cn:Str}{cnp Yz epos:Pos}{Cc L:Addr}{te:S'}{th:xc}
end L3
namespace L2
open PySem PySem.Spec PyProof.Rows
def K0{K:ql}{C C2 N fI:Addr}{nm q:Str}{bs sub:List Vl}{hdct ab:Bool}{sn:List Str}{col:Option Bool}{dd od1 od2 dd2:Option Addr}{k0 k1 k2 k3 k5:Option Vl}{oc1 oc2 c0:Vl}{es1 es2:Array DictEntry}{ep1 ep2:Nat}{sl1 sl2 Ve:Array (Option Vl)}{cd2:ClassData}{oI:Obj} (l1:K.lookup C=some (excClassObj nm q C N bs (.ref C2::NC) hdct sn sub ab col dd k0 k1 k2 k3 k5 "ValueError.__new__")) (n1:K.lookup N=some ⟨oc1,od1,.dict es1 ep1,sl1⟩) (s1:BD es1=true) (i1:nsFind es1 "__init__"=some (.ref fI)) (l2:K.lookup C2=some ⟨c0,dd2,.cls cd2,Ve⟩) (n2:K.lookup cd2.ns=some ⟨oc2,od2,.dict es2 ep2,sl2⟩) (s2:BD es2=true) (i2:nsFind es2 "__init__"=none) (l3:K.lookup fI=some oI) (hf:W.isFn K (.ref fI)=true):IT K C fI:=by
 have hc:oI.cls=.type "function":=by have hf:=fg.mp hf;unfold W.typeIn at hf;simp only at hf;rw[l3]at hf;exact dn hf
 refine⟨nm,q,N,bs,.ref C2::NC,NC,hdct,sn,sub,ab,col,dd,k0,k1,k2,k3,k5,"ValueError","ValueError","ValueError.__new__","ValueError.__new__","ValueError.__init__","ValueError.__init__",NC,λn=>nsFind es1 n,km,by decide+kernel,km,?_,i1,λh X=>⟨X C _ l1,⟨_,es1,ep1,X N _ n1,rfl,BE s1,λ_=>rfl⟩,.own (X C2 _ l2) ⟨_,es2,ep2,X _ _ n2,rfl,BE s2,λ_=>rfl⟩ i2 .base,oI,X fI _ l3,hc⟩⟩;rw[iw];have:NC.contains (.type "BaseException")=true:=by decide+kernel
 rw[this,kS]
def J'{K:ql}{C C2 N:Addr}{nm q f:Str}{bs sub:List Vl}{ab:Bool}{sn:List Str}{col:Option Bool}{dd:Option Addr}{k0 k1 k2 k3 k5:Option Vl}(l1:K.lookup C=some (excClassObj nm q C N bs (.ref C2::NC) true sn sub ab col dd k0 k1 k2 k3 k5 "ValueError.__new__"))(sa:W.findIn K (.ref C) "__setattr__"=some (some (.builtin "object.__setattr__")))(tk:W.findIn K (.ref C) f=some none):yM K C f:=by refine⟨sa,⟨_,[C,C2],by unfold W.clsIn;rw[l1],rfl,rfl⟩,?_⟩;unfold W.takerIn;rw[tk];rfl
end L2
namespace L3
open PySem PySem.Spec PyProof.Rows L2
variable {X:Cx}{pos WQ:Pos}{o e:Expr}{es:List Expr}{ta:T3}{t:wY}
structure FA where
 f:Addr
 d:FuncData
 p:List Str
structure DG(K:ql)(st:Stmt)(py qual:Str)(ps:List Str)(x:FA):Prop where
 pe:x.p=ps
 fn:N0 K py qual st x.f x.d
 b:uq K x.d x.p []
 ty:W.isFn K (.ref x.f)=true
structure TG(K:ql)(mg:Str->Option Vl)(st:Stmt)(py:Str)(ps:List Str)(x:FA):Prop extends DG K st py py ps x where
 mg:mg py=some (.ref x.f)
structure MG(K:ql)(C:Addr)(st:Stmt)(py qual:Str)(ps:List Str)(x:FA):Prop extends DG K st py qual ps x where
 at_:W.findIn K (.ref C) py=some (some (.ref x.f))
structure CG(K:ql)(mg:Str->Option Vl)(nm:Str)(C:Addr):Prop extends Cls K C where
 mg:mg nm=some (.ref C)
def DG.kp{K:ql}{st:Stmt}{py qual:Str}{ps:List Str}{x:FA}(h:DG K st py qual ps x):W.keepIn K (.ref x.f)=true:=h.fn.kp
def MG.m9{K:ql}{C:Addr}{st:Stmt}{py qual:Str}{ps:List Str}{x:FA}(h:MG K C st py qual ps x):vj K C py x.f:=⟨h.at_,h.ty,h.toDG.kp⟩
def za(K:ql)(C:Addr)(fs:List Str):Prop:=∀f,fs.contains f=true->tX K C f
def tq{K:ql}{C:Addr}:za K C []:=λf h=>by simp at h
def pK{K:ql}{C:Addr}{g:Str}{fs:List Str}(h:W.findIn K (.ref C) g=some none)(r:za K C fs):za K C (g::fs):=λf q=>by
 rw[iw,gQ]at q;rcases q with q|q
 .rw[eq_of_beq q];exact h
 .exact r f q
abbrev Fq(P:Pg)(w:Wo)(K:ql)(mg:Str->Option Vl)(base:Heap)(k:Nat)(x:FA)(sp:qX):Prop:=S6 P w K mg base k x.f x.d x.p sp
abbrev VT(P:Pg)(w:Wo)(K:ql)(mg:Str->Option Vl)(base:Heap)(k:Nat)(x:FA)(sp:D5):Prop:=NW P w K mg base k x.f x.d x.p sp
def RB(N P:List Str)(sc:Scope):Bool:=sc.kind==.function&&(!sc.isCoroutine&&(!sc.isGenerator&&(decide N.Nodup&&(decide (N.take P.length=P)&&((P.all λx=>sc.names.lookup x==some .local||sc.names.lookup x==some .cell)&&sc.names.all λy=>!(y.2==.free))))))
def Wy{N P:List Str}{sc:Scope}(h:RB N P sc=true):sW N P sc:=by
 unfold RB at h;simp only[dW,gG,fg,eA]at h;obtain⟨h1,h2,h3,h4,h5,h6,h7⟩:=h;refine⟨h1,h2,h3,h4,h5,λx hx=>?_,λy hy e=>?_⟩
 .have:=eF.mp h6 x hx
  simpa using this
 .have:=eF.mp h7 y hy;rw[e]at this;simp at this
variable {P:Pg}{w:Wo}{K:ql}{mg:Str→Option Vl}{base:Heap}
def Vp{x qual:Str}{st:Stmt}{fa:FA}{N ps:List Str}{k:Nat}{sp:qX}(F:DG K st x qual ps fa)(S:sW N ps (pX st))(len:∀ds M Q,sp ds M Q->ds.length=ps.length) (Xa:∀(WW:Vl) (A:Ar) (outer:List Env) (s:Sd) (H:Hp) (E:XK),rM k (A.deeper (envOfC qual (pX st) s.heap.objs.size fa.f WW))->
   ∃t,G9 (va NI P w K mg base N qual (pX st) fa.f WW A outer s H E).ou (rE st) t/\∀ds M Q,sp ds M Q->t {nx:=λ_ M'=>∃WS,qx WS M'/\Q .mH WS,rt:=λd M'=>∃WS,qx WS M'/\Q d WS} (wF N ds) M):Fq P w K mg base (k+1) fa sp:=by
 unfold Fq;rw[F.pe];exact Uy F.fn S len Xa
def UL{x qual:Str}{st:Stmt}{fa:FA}{N ps:List Str}{k:Nat}{sp:D5}(F:DG K st x qual ps fa)(S:sW N ps (pX st))(len:∀ds M Q R,sp ds M Q R->ds.length=ps.length) (Xa:∀(WW:Vl) (A:Ar) (outer:List Env) (s:Sd) (H:Hp) (E:XK) (R:Addr->Mp->Prop),rM k (A.deeper (envOfC qual (pX st) s.heap.objs.size fa.f WW))->RW K R E->
   ∃t,G9 (va (Az P w) P w K mg base N qual (pX st) fa.f WW A outer s H E) (rE st) t/\∀ds M Q,sp ds M Q R->t {nx:=λ_ M'=>∃WS,qx WS M'/\Q .mH WS,rt:=λd M'=>∃WS,qx WS M'/\Q d WS} (wF N ds) M):VT P w K mg base (k+1) fa sp:=by
 unfold VT;rw[F.pe];exact Tg F.fn S len Xa
variable {k n:Nat}{f C:Addr}{fa:FA}{st:Stmt}{qual:Str}{ps:List Str}{sp:qX}{x m:Str}{p:Pos}
def pD(F:Fq X.prog X.w X.K X.mg X.base k fa sp)(hr:rM n X.A)(T:TG X.K X.mg st x ps fa)(ha:A3 X (e::es) t)(hn:k<=n:=by first|decide|omega)(hg:Gl X x:=by rfl)
  (W5:yk x:=by decide) (he:AH X e es:=by rfl) (W4:Cw X pos es:=by rfl):
  E3 X (.Call (.Name x p) (e::es) [] pos) (DA sp t):=Ou F (hr.mono hn) hg T.mg T.toDG.kp T.b ha W5 he W4
def uH(F:Fq X.prog X.w X.K X.mg X.base k fa sp)(hr:rM n X.A)(c:CG X.K X.mg x C)(i:Mk X.K C fa.f)(T:DG X.K st m qual ps fa)(ha:A3 X (e::es) t)(hn:k+1<=n:=by first|decide|omega)(hg:Gl X x:=by rfl)
  (W5:yk x:=by decide) (he:AH X e es:=by rfl) (W4:Cw X pos es:=by rfl):
  E3 X (.Call (.Name x p) (e::es) [] pos) (QC C sp t):=Pj c.toCls i F (hr.mono hn) hg c.mg T.b ha W5 he W4
def pQ{pl:Sem Bool}(he:E3 X o ta)(c:Cls X.K C)(T:MG X.K C st m qual ps fa)(F:Fq X.prog X.w X.K X.mg X.base k fa sp)(hr:rM n X.A)(ha:A3 X (e::es) t)(hn:k<=n:=by first|decide|omega)
  (Xc:AH X e es:=by rfl) (W4:Cw X pos es:=by rfl)
  (ht:eval (.Call (.Attribute o m WQ) (e::es) [] pos) X.env=(do
   let ov<-eval o X.env
   standAt WQ.atName
   let(f,first)<-holding [ov] (getMethod ov m pl)
   callWith pos f first (backTo pos (starEach (e::es) X.env)) (backToKw pos (keywordEach [] X.env))):=by rfl):
  E3 X (.Call (.Attribute o m WQ) (e::es) [] pos) (Ah m (λD s=>D=C/\s=sp) ta t):=
 ER (R:=λD s=>D=C/\s=sp) he (λD s ⟨e1,e2⟩=>by subst e1 e2;exact⟨c,_,_,_,T.m9,F,T.b⟩) (hr.mono hn) ha Xc W4 ht
def vC{pl:Sem Bool}(he:E3 X o ta)(c:Cls X.K C)(T:MG X.K C st m qual ps fa)(F:Fq X.prog X.w X.K X.mg X.base k fa sp)(hr:rM n X.A)(hn:k<=n:=by first|decide|omega)
  (ht:eval (.Call (.Attribute o m WQ) [] [] pos) X.env=(do
   let ov<-eval o X.env
   standAt WQ.atName
   let(f,first)<-holding [ov] (getMethod ov m pl)
   callWith pos f first (backTo pos (starEach [] X.env)) (backToKw pos (keywordEach [] X.env))):=by rfl):
  E3 X (.Call (.Attribute o m WQ) [] [] pos) (Ah m (λD s=>D=C/\s=sp) ta xj):=
 Bp (R:=λD s=>D=C/\s=sp) he (λD s ⟨e1,e2⟩=>by subst e1 e2;exact⟨c,_,_,_,T.m9,F,T.b⟩) (hr.mono hn) ht
def yF{pl:Sem Bool}(cm:L' X.K C m fa.f)(F:Fq X.prog X.w X.K X.mg X.base k fa sp)(hr:rM n X.A)(c:CG X.K X.mg x C)(T:DG X.K st m qual ps fa)(ha:A3 X (e::es) t)(hn:k<=n:=by first|decide|omega)(hg:Gl X x:=by rfl)
  (W5:yk x:=by decide) (Xc:AH X e es:=by rfl) (W4:Cw X pos es:=by rfl)
  (ht:eval (.Call (.Attribute (.Name x p) m WQ) (e::es) [] pos) X.env=(do
   let ov<-eval (.Name x p) X.env
   standAt WQ.atName
   let(f,first)<-holding [ov] (getMethod ov m pl)
   callWith pos f first (backTo pos (starEach (e::es) X.env)) (backToKw pos (keywordEach [] X.env))):=by rfl):
  E3 X (.Call (.Attribute (.Name x p) m WQ) (e::es) [] pos) (DA sp t):=PN cm F (hr.mono hn) hg c.mg T.kp T.b ha W5 Xc W4 ht
variable {h:Heap}{py:Str}{od an:Option Addr}{sl:Array (Option Vl)}{kv dc pm cd ct:Vl}
def IK{fd:FuncData}{oc:Vl}(l:K.lookup f=some ⟨oc,od,.func fd,sl⟩):W.keepIn K (.ref f)=true:=by unfold W.keepIn;simp only;rw[l]
def OZ{fd:FuncData}(l:K.lookup f=some ⟨.type "function",od,.func fd,sl⟩):W.isFn K (.ref f)=true:=by unfold W.isFn W.typeIn;simp only;rw[l];rfl
abbrev mZ(py qual:Str)(st:Stmt)(ps:List Str):Prop:=∀(kV Xq pm:Vl) (an:Option Addr) (WW ct:Vl) (us:List Vl),us.length=ps.length->bindArgs (W.fnOf py qual (ua st) (rE st) (pX st) .none kV Xq pm an WW ct) ⟨us,[]⟩=pure (ps.zip us)
def QE(l:K.lookup f=some ⟨.type "function",od,.func (W.fnOf py qual (ua st) (rE st) (pX st) .none kv dc pm an cd ct),sl⟩)(k:W.codeIn K cd qual=true)(hb:mZ py qual st ps):
  DG K st py qual ps ⟨f,W.fnOf py qual (ua st) (rE st) (pX st) .none kv dc pm an cd ct,ps⟩:=⟨rfl,Ni l k (IK l),(Ni l k (IK l)).binds hb,OZ l⟩
def qg(X:K.In h)(G:h.Ns mainGlobals mg)(a:W.nsIn K mainGlobals py=some (some (.ref f)))(l:K.lookup f=some ⟨.type "function",od,.func (W.fnOf py py (ua st) (rE st) (pX st) .none kv dc pm an cd ct),sl⟩)(k:W.codeIn K cd py=true)(hb:mZ py py st ps):
  TG K mg st py ps ⟨f,W.fnOf py py (ua st) (rE st) (pX st) .none kv dc pm an cd ct,ps⟩:=⟨QE l k hb,W.mg_of X G a⟩
def pU(a:W.findIn K (.ref C) py=some (some (.ref f)))(l:K.lookup f=some ⟨.type "function",od,.func (W.fnOf py qual (ua st) (rE st) (pX st) .none kv dc pm an cd ct),sl⟩)(k:W.codeIn K cd qual=true)(hb:mZ py qual st ps):
  MG K C st py qual ps ⟨f,W.fnOf py qual (ua st) (rE st) (pX st) .none kv dc pm an cd ct,ps⟩:=⟨QE l k hb,a⟩
def vX(X:K.In h)(G:h.Ns mainGlobals mg)(a:W.nsIn K mainGlobals py=some (some (.ref C)))(h1:W.plainGet K C Str.empty=true)(h2:W.hasDictIn K C=true)(h3:W.plainOver K C=true)(h4:W.findIn K (.ref C) "__setattr__"=some (some (.builtin "object.__setattr__"))):CG K mg py C:=⟨⟨h1,h2,h3,h4⟩,W.mg_of X G a⟩
def Ol{x:Str}{a:Addr}{es:List DictEntry}{ep:Nat}{T:List (Str×List Str)}(h:mg x=some (.ref a))(s:(a==sysModules)=false)(l:K.lookup a=some ⟨.type "dict",none,.dict es.toArray ep,#[]⟩) (r:KTD.Rows (λ(ss:List Str) v=>∃t,v=Value.ref t/\uR K (λ_=>none) t (ss.map V.str)) es T):LV K mg x T:=⟨a,_,_,_,h,s,l,⟨rfl,rfl,rfl⟩,rfl,by simpa using r⟩
def LJ{P:Pg}{w:Wo}{base:Heap}{x qual y1 y2 fl:Str}{st:Stmt}{fa:FA}(F:DG K st x qual [y1,y2] fa)(S:sW [y1,y2] [y1,y2] (pX st)) (hb:∀(WW:Vl) (A:Ar) (outer:List Env) (s:Sd) (H:Hp) (E:XK),BR (va (Az P w) P w K mg base [y1,y2] qual (pX st) fa.f WW A outer s H E) (rE st) (Mc K (Ii 0) (Ii 1) fl)):xb P w K mg base (Az P w) 1 fa.f fa.d fa.p (vW K fl):=by
 rw[F.pe];exact Nj F.fn S hb
def UH(ds:List D)(M:Mp)(Q:DK):Prop:=match ds with
 | [.ref a]=>(oJ M a).elim False λes=>(Gf es).elim False λbs=>Q (.bl (bs.any id)) M
 | _=>False
def Rf(hc:X.calm=true):C3 X (.builtin "any") UH:=by
 intro WN s σ H vs us Q' I rv h;obtain⟨ds,M,Q,hd,hm,q,k⟩:=h;unfold UH at q;split at q
 .rename_i a;obtain⟨v,rfl,hv⟩:=sd hd;obtain⟨es,e0,q⟩:=qT q;obtain⟨bs,e1,q⟩:=qT q;cases hv.mF;obtain⟨u,rfl,ru⟩:=ye rv;cases ru;obtain⟨xs,h1,h2,_⟩:=qo hm e0;obtain⟨its,r,pl,hz⟩:=I.list h1;have ZN:=Fg e1 h2 r;subst ZN;have Xd:a≠s.heap.objs.size:=by obtain⟨o,_,e,_⟩:=pl;exact dH (dA e)
  refine call_any_walk (gU pl.isList ?_);refine⟨s.heap.objs.size,_,_,_,_,_,λi=>(bs[i]?).getD false,rfl,kh (A:=X.A.in1) (I.ok.hd hc) _ a Xd (bs.map Value.bool).toArray,⟨⟨_,dG _ rfl,rfl,rfl⟩,?_⟩,λi v s' Q E hP hQ=>?_,λh' tk hk=>?_⟩
  .obtain⟨o,n,e,c,d,q⟩:=pl;exact⟨o,df _ e,c,n,q⟩
  .simp only[iL,dD]at hP;cases e2:bs[i]? with
   | none=>rw[e2]at hP;cases hP
   | some b=>rw[e2]at hP;cases hP;have hQ:Q ((bs[i]?).getD false) s':=hQ;rw[e2]at hQ;exact fi hQ
  .have ea:(List.range (bs.map Value.bool).toArray.size).any (λi=>(bs[i]?).getD false)=bs.any id:=by
    rw[dz,cV];rw[gk,gz,gz];constructor
    .rintro ⟨i,hi,z⟩
     have Yl:=gg.mp hi;rw[cY Yl]at z;exact⟨_,h9 Yl,z⟩
    .rintro ⟨b,hb,z⟩
     obtain⟨i,hi,e⟩:=gM hb;refine⟨i,gg.mpr hi,?_⟩;rw[cY hi,e];exact z
   rw[ea];refine⟨.bl (bs.any id),H,?_,rfl,k _ _ _ _ .bl hm .refl q⟩;exact I.kept (h':=h') (t':=tk) λb o e=>hk b o (by simpa using dH (dA e)) (df _ e)
 .exact q.elim
def Sr:bootBuiltins "any"=some (.builtin "any"):=by decide+kernel
end L3
namespace L3
open PySem PySem.Spec PyProof.Rows L2
def NH(i:Nat){X:Cx}{pos:Pos}{x:Str}(h1:X.N[i]?=some x:=by rfl)(h2:Ul X.env.scope x:=by first|exact Or.inl rfl|exact Or.inr (Or.inl rfl)|exact Or.inr (Or.inr rfl))(h3:yk x:=by decide)(h4:(x==("__classdict__":Str))=false:=by decide):E3 X (.Name x pos) (v3 i):=Re i (pv i h1 h2 h3 h4)
variable {X:Cx}{pos:Pos}
def WL{N:List Str}(h:decide N.Nodup=true):N.Nodup:=fQ h
def pG(i:Nat){x:Str}{e:Expr}{te:T3}{WV:Pos}{ps:List Str}{sc:Scope}(S:sW X.N ps sc)(he:E3 X e te)(hi:X.N[i]?=some x:=by rfl)(hx:KQ X.env.scope x:=by first|exact Or.inl rfl|exact Or.inr rfl)(Yh:swapsWith e (some (.Name x WV)) pos.line X.env=pure false:=by rfl)(hf:KO X x:=by first|exact .inl rfl|exact .inr rfl|assumption):S3 X (.Assign [.Name x WV] e pos) (GX te (uG i)):=RH S.nd hi hx he Yh hf
def sF(i:Nat){x:Str}{ps:List Str}{sc:Scope}(S:sW X.N ps sc)(hi:X.N[i]?=some x:=by rfl)(hx:KQ X.env.scope x:=by first|exact Or.inl rfl|exact Or.inr rfl)(hf:KO X x:=by first|exact .inl rfl|exact .inr rfl|assumption):G3 X (.Name x pos) (uG i):=Iw S.nd hi hx hf
def qz(i:Nat){x:Str}(hN:decide X.N.Nodup=true:=by kernel_rfl)(hi:X.N[i]?=some x:=by rfl)(hx:KQ X.env.scope x:=by first|exact Or.inl rfl|exact Or.inr rfl)(hf:KO X x:=by first|exact .inl rfl|exact .inr rfl|assumption):G3 X (.Name x pos) (uG i):=Iw (WL hN) hi hx hf
abbrev Sc(n:Nat)(N:List Str)(s:Stmt):=sW N (N.take n) (pX s)
def sk{n:Nat}{N:List Str}{s:Stmt}(h:RB N (N.take n) (pX s)=true:=by decide+kernel):Sc n N s:=Wy h
def pY{X:Cx}{e0:Expr}{t0:T3}(h0:E3 X e0 t0)(g0:starEach [e0] X.env=(false,eval e0 X.env)::starEach [] X.env:=by rfl):A3 X [e0] (uY t0 xj):=(pT h0 sR g0)
def rK{X:Cx}{e0 e1:Expr}{t0 t1:T3}(h0:E3 X e0 t0)(h1:E3 X e1 t1)(g0:starEach [e0,e1] X.env=(false,eval e0 X.env)::starEach [e1] X.env:=by rfl)(g1:starEach [e1] X.env=(false,eval e1 X.env)::starEach [] X.env:=by rfl):A3 X [e0,e1] (uY t0 (uY t1 xj)):=(pT h0 (pT h1 sR g1) g0)
def qY{X:Cx}{e0 e1 e2:Expr}{t0 t1 t2:T3}(h0:E3 X e0 t0)(h1:E3 X e1 t1)(h2:E3 X e2 t2)(g0:starEach [e0,e1,e2] X.env=(false,eval e0 X.env)::starEach [e1,e2] X.env:=by rfl)(g1:starEach [e1,e2] X.env=(false,eval e1 X.env)::starEach [e2] X.env:=by rfl)(g2:starEach [e2] X.env=(false,eval e2 X.env)::starEach [] X.env:=by rfl):A3 X [e0,e1,e2] (uY t0 (uY t1 (uY t2 xj))):=(pT h0 (pT h1 (pT h2 sR g2) g1) g0)
abbrev v0:=@NH 0
abbrev U1:=@NH 1
abbrev U2:=@NH 2
abbrev U3:=@NH 3
abbrev v5:=@NH 5
abbrev v4:=@NH 4
abbrev v6:=@NH 6
abbrev v7:=@NH 7
abbrev v8:=@NH 8
abbrev v9:=@NH 9
variable {P:Pg}{w:Wo}{K:ql}{mg:Str→Option Vl}{base:Heap}
def fq{x qual:Str}{st:Stmt}{fa:FA}{N ps:List Str}{k:Nat}{sp:qX}(F:DG K st x qual ps fa)(S:sW N ps (pX st)) (hb:∀{WW:Vl} {A:Ar} {outer:List Env} {s:Sd} {H:Hp} {E:XK},rM k (A.deeper (envOfC qual (pX st) s.heap.objs.size fa.f WW))->(A.deeper (envOfC qual (pX st) s.heap.objs.size fa.f WW)).units+9<cLine->
   ∃t,G9 (va NI P w K mg base N qual (pX st) fa.f WW A outer s H E).ou (rE st) t/\∀ds M Q,sp ds M Q->t {nx:=λ_ M'=>∃WS,qx WS M'/\Q .mH WS,rt:=λd M'=>∃WS,qx WS M'/\Q d WS} (wF N ds) M) (len:∀ds M Q,sp ds M Q->ds.length=ps.length:=by walk_at "l"):Fq P w K mg base (k+1) fa sp:=Vp F S len λ_ _ _ _ _ _ h=>hb h (We h)
def yb{X:Cx}{scope:Scope}{ix:List (Option Nat)}{N':List Str}(h:Ib X.env.scope X.N scope ix N'=true:=by kernel_rfl):rY X scope ix N':=Ub h
end L3
namespace Z
open PySem PySem.Spec PyProof.Rows L2 L3
def qU(i:Nat):Stmt:=PySem.Challenge.pw_callboard_k51_made_again.main.body.getD i (.Pass ⟨0,0,0,0⟩)
abbrev tm(i j:Nat):Stmt:=Oh (qU i) j
def Aa:Sc 1 ["answers"] (qU 1):=sk
def FQ:Sc 2 ["call","word"] (qU 3):=sk
def Dg:Sc 2 ["call","phone"] (qU 4):=sk
def xp:Sc 2 ["call","event","word"] (qU 5):=sk
def wU:Sc 1 ["call","lists"] (qU 7):=sk
def B6:Sc 1 ["board","calls"] (qU 8):=sk
def xq:Sc 3 ["plan","hour","log","board","event"] (qU 10):=sk
def B0:Sc 3 ["board","caller","target","wishes"] (qU 16):=sk
def tw:Sc 3 ["board","caller","target","free","members","place","in_turn"] (qU 17):=sk
def uN:Sc 3 ["board","caller","target","phones"] (qU 18):=sk
def zV:Sc 2 ["wanted","target"] (qU 19):=sk
def vY:Sc 4 ["board","caller","target","way","come_to","steps","fits","wanted"] (qU 20):=sk
def yO:Sc 2 ["board","phone"] (qU 22):=sk
def vT:Sc 3 ["board","phone","target","word"] (qU 23):=sk
def Mm:Sc 3 ["word","phone","calls"] (qU 24):=sk
def tK:Sc 4 ["board","word","phone","numbers","calls","due"] (qU 25):=sk
def yK:Sc 3 ["board","word","number"] (qU 26):=sk
def Cu:Sc 2 ["board","deed","word"] (qU 27):=sk
def tO:Sc 3 ["board","number","steps","last","target","fits"] (qU 28):=sk
def ut:Sc 4 ["board","number","target","phones","members","place"] (qU 29):=sk
def xx:Sc 3 ["board","number","target","talk","members"] (qU 30):=sk
def xB:Sc 3 ["board","number","end","word"] (qU 31):=sk
def vU:Sc 2 ["board","number","call","told","end","steps","last"] (qU 32):=sk
def zx:Sc 3 ["board","phone","target","number"] (qU 33):=sk
def BG:Sc 3 ["board","phone","number","call"] (qU 34):=sk
def yd:Sc 2 ["board","call","wishes"] (qU 35):=sk
def Cb:Sc 3 ["board","number","fits","wish"] (qU 36):=sk
def tG:Sc 1 ["board","number","call","fits"] (qU 37):=sk
def tz:Sc 2 ["board","deed","word","phone","number","call","kept","others"] (qU 38):=sk
def Np:Sc 2 ["board","deed","word"] (qU 39):=sk
def Hk:Sc 2 ["board","deed","word","begun"] (qU 40):=sk
def Hz:Sc 3 ["board","caller","target"] (qU 42):=sk
def BX:Sc 1 ["told","word"] (qU 53):=sk
def Og:Sc 2 ["holds","words"] (qU 68):=sk
def H9:Sc 1 ["text"] (qU 69):=sk
def CS:Sc 1 ["things"] (qU 70):=sk
def Ex:Sc 3 ["chosen","known","most"] (qU 71):=sk
def tS:Sc 1 ["phones","name","lines","rank"] (qU 72):=sk
def tT:Sc 2 ["groups","phone_names","name","manner","members"] (qU 73):=sk
def C6:Sc 4 ["kind","part","phone_names","names"] (qU 74):=sk
def tP:Sc 3 ["wish","phone_names","names","form","parts","kind","part"] (qU 75):=sk
def uJ:Sc 3 ["wishes","phone_names","names","on","wish"] (qU 76):=sk
def vR:Sc 3 ["phones","groups","wishes","phone_names","names"] (qU 77):=sk
def KH:Sc 2 ["_law_script","_law_k"] (qU 80):=sk
def GS:Sc 3 ["_law_cell","_law_factor","_law_many"] (qU 81):=sk
def tY:Sc 2 ["_law_seed","_law_which","_law_letters","_law_size","_law_place","_law_rest","_law_sign"] (qU 82):=sk
def xh:Sc 3 ["_law_row","_law_cell","_law_most","_law_first","_law_size"] (qU 83):=sk
def uC:Sc 2 ["_law_seed","_law_most","_law_phones_here","_law_k","_law_lines"] (qU 84):=sk
def uA:Sc 2 ["_law_seed","_law_own","_law_groups_here","_law_g","_law_manner"] (qU 85):=sk
def tj:Sc 3 ["_law_cell","_law_own","_law_names","_law_a","_law_place","_law_b","_law_c","_law_pick","_law_first"] (qU 86):=sk
def se:Sc 2 ["_law_script","_law_most","_law_seed","_law_phones_here","_law_own","_law_groups_here","_law_names","_law_wishes","_law_k","_law_cell"] (qU 87):=sk
def CU:Sc 1 ["_law_call"] (qU 88):=sk
def Ay:Sc 2 ["_law_board","_law_states"] (qU 89):=sk
def rn:Sc 4 ["_law_board","_law_cell","_law_word_here","_law_states","_law_some_here","_law_k","_law_people_here","_law_a","_law_m"] (qU 90):=sk
def ux:Sc 4 ["_law_cell","_law_own","_law_names","_law_many","_law_a","_law_b","_law_k","_law_m","_law_some_here"] (qU 91):=sk
def rq:Sc 4 ["_law_board","_law_cell","_law_own","_law_names","_law_word_here","_law_states","_law_found","_law_a"] (qU 92):=sk
def GI:Sc 1 ["_law_parts"] (qU 93):=sk
def Ge:Sc 1 ["_law_script"] (qU 94):=sk
def vt:Sc 2 ["_law_board","_law_deed_here","_law_events"] (qU 95):=sk
def GL:Sc 3 ["_law_board","_law_script","_law_k"] (qU 96):=sk
def vP:Sc 2 ["_law_script","_law_parts","_law_board","_law_k"] (qU 97):=sk
def yE:Sc 1 ["_law_script","_law_parts","_law_board","_law_handed","_law_kept","_law_shown","_law_found"] (qU 98):=sk
def Cp:Sc 2 ["self","word"] (tm 14 0):=sk
def CV:Sc 3 ["self","plan","hour"] (tm 6 0):=sk
def xy:Sc 2 ["self","event","word"] (tm 6 12):=sk
def EY:Sc 4 ["self","phones","groups","wishes"] (tm 78 0):=sk
def x8:Sc 1 ["self"] (tm 78 2):=sk
def Di:Sc 1 ["self"] (tm 78 1):=sk
def E4:Sc 2 ["self","caller"] (tm 2 0):=sk
def zD:Sc 2 ["self","leg"] (tm 6 10):=sk
def xI:Sc 4 ["self","merged","kept","members","call"] (tm 6 11):=sk
def vb:Sc 1 ["self","call"] (tm 6 9):=sk
def FO:Sc 2 ["self","told"] (tm 44 0):=sk
def EH:Sc 2 ["self","told"] (tm 45 0):=sk
def AE:Sc 2 ["self","told"] (tm 46 0):=sk
def C9:Sc 2 ["self","told"] (tm 48 0):=sk
def Cs:Sc 2 ["self","told"] (tm 50 0):=sk
def Ei:Sc 2 ["self","told"] (tm 51 0):=sk
def BZ:Sc 2 ["self","told"] (tm 52 0):=sk
def zK:Sc 2 ["self","phone"] (tm 6 2):=sk
def yl:Sc 2 ["self","phone"] (tm 2 5):=sk
def xZ:Sc 2 ["self","phone"] (tm 2 4):=sk
def yI:Sc 2 ["self","phone"] (tm 2 8):=sk
def zG:Sc 2 ["self","phone"] (tm 6 3):=sk
def Fx:Sc 2 ["self","told"] (tm 43 0):=sk
def BI:Sc 2 ["self","phone"] (tm 6 4):=sk
def zP:Sc 2 ["self","phone"] (tm 6 5):=sk
def C5:Sc 2 ["self","phone"] (tm 6 1):=sk
def CT:Sc 2 ["self","phone"] (tm 78 3):=sk
def wA:Sc 2 ["self","phone"] (tm 2 7):=sk
def Df:Sc 2 ["self","phone"] (tm 2 6):=sk
def Ce:Sc 2 ["self","call"] (tm 43 4):=sk
def zJ:Sc 2 ["self","call"] (tm 50 2):=sk
def Eo:Sc 1 ["self"] (tm 43 1):=sk
def yw:Sc 2 ["self","phone"] (tm 2 2):=sk
def De:Sc 2 ["self","phone"] (tm 2 3):=sk
def G0:Sc 2 ["self","phone"] (tm 2 1):=sk
def D3:Sc 1 ["self"] (tm 44 1):=sk
def Dj:Sc 1 ["self"] (tm 45 1):=sk
def zO:Sc 1 ["self"] (tm 46 1):=sk
def CF:Sc 1 ["self"] (tm 51 1):=sk
def Au:Sc 1 ["self"] (tm 52 1):=sk
def FZ:Sc 4 ["self","board","caller","target"] (tm 44 2):=sk
def E2:Sc 4 ["self","board","caller","target"] (tm 45 2):=sk
def Bt:Sc 4 ["self","board","caller","target"] (tm 47 0):=sk
def Dh:Sc 4 ["self","board","caller","target"] (tm 48 2):=sk
def Fo:Sc 4 ["self","board","caller","target"] (tm 49 0):=sk
def BS:Sc 4 ["self","board","caller","target"] (tm 50 1):=sk
def EL:Sc 4 ["self","board","caller","target"] (tm 51 2):=sk
def vc:Sc 4 ["self","board","caller","target","talk","members"] (tm 52 3):=sk
def Bl:Sc 2 ["self","name"] (tm 78 6):=sk
def yT:Sc 2 ["self","name"] (tm 78 5):=sk
def zu:Sc 2 ["self","hour"] (tm 48 1):=sk
def zb:Sc 1 ["self"] (tm 6 8):=sk
def zg:Sc 2 ["self","phone"] (tm 6 6):=sk
def vf:Sc 3 ["self","plan","members","rank"] (tm 52 2):=sk
def zy:Sc 3 ["self","caller","target"] (tm 6 7):=sk
def EG:Sc 2 ["self","phone"] (tm 78 4):=sk
noncomputable def Ki:List (Str×List Str):=[("bar",["phone","names"]),("shut",["name","phones"]),("always",["name","name"]),("night",["name","name","hour","hour"]),("busy",["name","name"]),("silent",["name","name","turns"]),("wait",["phone"]),("breaks",["phone"])]
set_option genInjectivity false in
structure Ad where
 (O ac aR aS aT L aU aV aW aX aY aZ ad a0 a1 a2 a3 a4 a5 a6 a7 a8 ae a9 ba bb bc bd be bf t P bg m af ag Q bh bi bj bk bl bm M i ah R bn bo bp bq br bs bt bu bv ai aj bw bx bz ak I S k al N am an bA bB bC ao ap C aq ar au av T aw U ax V H bD bE bF bG bH ay r az l X bI bJ aA aB B aC aD aE aF aG aH aI aJ aK aL aM Y bK bL bM bN aN aO:FA)
 (e c E u v Z y n z w x o h b5 J:Addr)
structure Gl(K:ql)(mg:Str->Option Vl)(a:Ad):Prop where
 e:CG K mg "Call" a.e
 c:CG K mg "Board" a.c
 E:CG K mg "Wish" a.E
 u:CG K mg "Bar" a.u
 v:CG K mg "Shut" a.v
 Z:CG K mg "Forward" a.Z
 y:CG K mg "Always" a.y
 n:CG K mg "Night" a.n
 z:CG K mg "Busy" a.z
 w:CG K mg "Silent" a.w
 x:CG K mg "Wait" a.x
 o:CG K mg "Breaks" a.o
 h:CG K mg "Plan" a.h
 cU:mg "CallError"=some (.ref a.b5)
 bW:mg "NoDeed"=some (.ref a.J)
 O:TG K mg (qU 1) "place_of_true" ["answers"] a.O
 ac:TG K mg (qU 3) "end_call" ["call","word"] a.ac
 aR:TG K mg (qU 4) "drop_phone" ["call","phone"] a.aR
 aS:TG K mg (qU 5) "change_call" ["call","event"] a.aS
 aT:TG K mg (qU 7) "call_picture" ["call"] a.aT
 L:TG K mg (qU 8) "picture" ["board"] a.L
 aU:TG K mg (qU 10) "replayed" ["plan","hour","log"] a.aU
 aV:TG K mg (qU 16) "fitting" ["board","caller","target"] a.aV
 aW:TG K mg (qU 17) "rung_phones" ["board","caller","target"] a.aW
 aX:TG K mg (qU 18) "end_without_wish" ["board","caller","target"] a.aX
 aY:TG K mg (qU 19) "end_as_wanted" ["wanted","target"] a.aY
 aZ:TG K mg (qU 20) "route" ["board","caller","target","way"] a.aZ
 ad:TG K mg (qU 22) "word_for_idling" ["board","phone"] a.ad
 a0:TG K mg (qU 23) "word_for_call" ["board","phone","target"] a.a0
 a1:TG K mg (qU 24) "suits" ["word","phone","calls"] a.a1
 a2:TG K mg (qU 25) "word_for_numbers" ["board","word","phone","numbers"] a.a2
 a3:TG K mg (qU 26) "word_for_switch" ["board","word","number"] a.a3
 a4:TG K mg (qU 27) "refusal" ["board","deed"] a.a4
 a5:TG K mg (qU 28) "take_steps" ["board","number","steps"] a.a5
 a6:TG K mg (qU 29) "start_ringing" ["board","number","target","phones"] a.a6
 a7:TG K mg (qU 30) "break_in" ["board","number","target"] a.a7
 a8:TG K mg (qU 31) "come_to_end" ["board","number","end"] a.a8
 ae:TG K mg (qU 32) "go_on" ["board","number"] a.ae
 a9:TG K mg (qU 33) "make_call" ["board","phone","target"] a.a9
 ba:TG K mg (qU 34) "hang_up" ["board","phone","number"] a.ba
 bb:TG K mg (qU 35) "due_wishes" ["board","call"] a.bb
 bc:TG K mg (qU 36) "send_on" ["board","number","fits"] a.bc
 bd:TG K mg (qU 37) "let_turn_pass" ["board"] a.bd
 be:TG K mg (qU 38) "event_of" ["board","deed"] a.be
 bf:TG K mg (qU 39) "act" ["board","deed"] a.bf
 t:TG K mg (qU 40) "do" ["board","deed"] a.t
 P:TG K mg (qU 42) "is_busy" ["board","caller","target"] a.P
 bg:TG K mg (qU 53) "wish_of" ["told"] a.bg
 m:TG K mg (qU 68) "need" ["holds","words"] a.m
 af:TG K mg (qU 69) "is_name" ["text"] a.af
 ag:TG K mg (qU 70) "all_unlike" ["things"] a.ag
 Q:TG K mg (qU 71) "is_choice" ["chosen","known","most"] a.Q
 bh:TG K mg (qU 72) "check_phones" ["phones"] a.bh
 bi:TG K mg (qU 73) "check_groups" ["groups","phone_names"] a.bi
 bj:TG K mg (qU 74) "part_holds" ["kind","part","phone_names","names"] a.bj
 bk:TG K mg (qU 75) "check_wish" ["wish","phone_names","names"] a.bk
 bl:TG K mg (qU 76) "check_wishes" ["wishes","phone_names","names"] a.bl
 bm:TG K mg (qU 77) "check_plan" ["phones","groups","wishes"] a.bm
 M:TG K mg (qU 80) "_law_at" ["_law_script","_law_k"] a.M
 i:TG K mg (qU 81) "_law_draw" ["_law_cell","_law_factor","_law_many"] a.i
 ah:TG K mg (qU 82) "_law_word" ["_law_seed","_law_which"] a.ah
 R:TG K mg (qU 83) "_law_some" ["_law_row","_law_cell","_law_most"] a.R
 bn:TG K mg (qU 84) "_law_phones" ["_law_seed","_law_most"] a.bn
 bo:TG K mg (qU 85) "_law_groups" ["_law_seed","_law_own"] a.bo
 bp:TG K mg (qU 86) "_law_wish" ["_law_cell","_law_own","_law_names"] a.bp
 bq:TG K mg (qU 87) "_law_plan" ["_law_script","_law_most"] a.bq
 br:TG K mg (qU 88) "_law_people" ["_law_call"] a.br
 bs:TG K mg (qU 89) "_law_of_state" ["_law_board","_law_states"] a.bs
 bt:TG K mg (qU 90) "_law_on_call" ["_law_board","_law_cell","_law_word_here","_law_states"] a.bt
 bu:TG K mg (qU 91) "_law_any" ["_law_cell","_law_own","_law_names","_law_many"] a.bu
 bv:TG K mg (qU 92) "_law_deed" ["_law_board","_law_cell","_law_own","_law_names"] a.bv
 ai:TG K mg (qU 93) "_law_made" ["_law_parts"] a.ai
 aj:TG K mg (qU 94) "_law_hour" ["_law_script"] a.aj
 bw:TG K mg (qU 95) "_law_done" ["_law_board","_law_deed_here"] a.bw
 bx:TG K mg (qU 96) "_law_next" ["_law_board","_law_script","_law_k"] a.bx
 bz:TG K mg (qU 97) "_law_played" ["_law_script","_law_parts"] a.bz
 ak:TG K mg (qU 98) "law" ["_law_script"] a.ak
 I:MG K a.J (tm 14 0) "__init__" "NoDeed.__init__" ["self","word"] a.I
 S:MG K a.c (tm 6 0) "__init__" "Board.__init__" ["self","plan","hour"] a.S
 k:MG K a.c (tm 6 12) "apply" "Board.apply" ["self","event"] a.k
 al:MG K a.h (tm 78 0) "__init__" "Plan.__init__" ["self","phones","groups","wishes"] a.al
 N:MG K a.h (tm 78 2) "phone_names" "Plan.phone_names" ["self"] a.N
 am:MG K a.h (tm 78 1) "names" "Plan.names" ["self"] a.am
 an:MG K a.e (tm 2 0) "__init__" "Call.__init__" ["self","caller"] a.an
 bA:MG K a.c (tm 6 10) "add_leg" "Board.add_leg" ["self","leg"] a.bA
 bB:MG K a.c (tm 6 11) "merge" "Board.merge" ["self","merged","kept","members"] a.bB
 bC:MG K a.c (tm 6 9) "pass_turn" "Board.pass_turn" ["self"] a.bC
 ao:MG K a.u (tm 44 0) "__init__" "Bar.__init__" ["self","told"] a.ao
 ap:MG K a.v (tm 45 0) "__init__" "Shut.__init__" ["self","told"] a.ap
 C:MG K a.Z (tm 46 0) "__init__" "Forward.__init__" ["self","told"] a.C
 aq:MG K a.n (tm 48 0) "__init__" "Night.__init__" ["self","told"] a.aq
 ar:MG K a.w (tm 50 0) "__init__" "Silent.__init__" ["self","told"] a.ar
 au:MG K a.x (tm 51 0) "__init__" "Wait.__init__" ["self","told"] a.au
 av:MG K a.o (tm 52 0) "__init__" "Breaks.__init__" ["self","told"] a.av
 T:MG K a.c (tm 6 2) "is_free" "Board.is_free" ["self","phone"] a.T
 aw:MG K a.e (tm 2 5) "waits_with" "Call.waits_with" ["self","phone"] a.aw
 U:MG K a.e (tm 2 4) "is_tried_by" "Call.is_tried_by" ["self","phone"] a.U
 ax:MG K a.e (tm 2 8) "other_than" "Call.other_than" ["self","phone"] a.ax
 V:MG K a.c (tm 6 3) "talk_of" "Board.talk_of" ["self","phone"] a.V
 H:MG K a.E (tm 43 0) "__init__" "Wish.__init__" ["self","told"] a.H
 bD:MG K a.c (tm 6 4) "bound" "Board.bound" ["self","phone"] a.bD
 bE:MG K a.c (tm 6 5) "calling" "Board.calling" ["self","phone"] a.bE
 bF:MG K a.c (tm 6 1) "used" "Board.used" ["self","phone"] a.bF
 bG:MG K a.h (tm 78 3) "lines" "Plan.lines" ["self","phone"] a.bG
 bH:MG K a.e (tm 2 7) "can_be_left_by" "Call.can_be_left_by" ["self","phone"] a.bH
 ay:MG K a.e (tm 2 6) "pairs" "Call.pairs" ["self","phone"] a.ay
 r:MG K a.E (tm 43 4) "is_due" "Wish.is_due" ["self","call"] a.r
 az:MG K a.w (tm 50 2) "is_due" "Silent.is_due" ["self","call"] a.az
 l:MG K a.E (tm 43 1) "told" "Wish.told" ["self"] a.l
 X:MG K a.e (tm 2 2) "talks_with" "Call.talks_with" ["self","phone"] a.X
 bI:MG K a.e (tm 2 3) "binds" "Call.binds" ["self","phone"] a.bI
 bJ:MG K a.e (tm 2 1) "has" "Call.has" ["self","phone"] a.bJ
 aA:MG K a.u (tm 44 1) "wants" "Bar.wants" ["self"] a.aA
 aB:MG K a.v (tm 45 1) "wants" "Shut.wants" ["self"] a.aB
 B:MG K a.Z (tm 46 1) "wants" "Forward.wants" ["self"] a.B
 aC:MG K a.x (tm 51 1) "wants" "Wait.wants" ["self"] a.aC
 aD:MG K a.o (tm 52 1) "wants" "Breaks.wants" ["self"] a.aD
 aE:MG K a.u (tm 44 2) "fits" "Bar.fits" ["self","board","caller","target"] a.aE
 aF:MG K a.v (tm 45 2) "fits" "Shut.fits" ["self","board","caller","target"] a.aF
 aG:MG K a.y (tm 47 0) "fits" "Always.fits" ["self","board","caller","target"] a.aG
 aH:MG K a.n (tm 48 2) "fits" "Night.fits" ["self","board","caller","target"] a.aH
 aI:MG K a.z (tm 49 0) "fits" "Busy.fits" ["self","board","caller","target"] a.aI
 aJ:MG K a.w (tm 50 1) "fits" "Silent.fits" ["self","board","caller","target"] a.aJ
 aK:MG K a.x (tm 51 2) "fits" "Wait.fits" ["self","board","caller","target"] a.aK
 aL:MG K a.o (tm 52 3) "fits" "Breaks.fits" ["self","board","caller","target"] a.aL
 aM:MG K a.h (tm 78 6) "manner" "Plan.manner" ["self","name"] a.aM
 Y:MG K a.h (tm 78 5) "phones_of" "Plan.phones_of" ["self","name"] a.Y
 bK:MG K a.n (tm 48 1) "has_hour" "Night.has_hour" ["self","hour"] a.bK
 bL:MG K a.c (tm 6 8) "hour_now" "Board.hour_now" ["self"] a.bL
 bM:MG K a.c (tm 6 6) "waits_at" "Board.waits_at" ["self","phone"] a.bM
 bN:MG K a.o (tm 52 2) "outranks" "Breaks.outranks" ["self","plan","members"] a.bN
 aN:MG K a.c (tm 6 7) "ringable" "Board.ringable" ["self","caller","target"] a.aN
 aO:MG K a.h (tm 78 4) "rank" "Plan.rank" ["self","phone"] a.aO
 b6:IT K a.J a.I.f
 b7:yM K a.J "word"
 b8:W.exmOne K (.ref a.J) (.ref a.J)=some true
 b9:TN K a.c
 bX:Mk K a.c a.S.f
 ca:Mk K a.h a.al.f
 cb:Mk K a.e a.an.f
 cc:Mk K a.u a.ao.f
 cd:Mk K a.v a.ap.f
 ce:Mk K a.y a.C.f
 cf:Mk K a.n a.aq.f
 cg:Mk K a.z a.C.f
 ch:Mk K a.w a.ar.f
 ci:Mk K a.x a.au.f
 cj:Mk K a.o a.av.f
 ck:vj K a.u "is_due" a.r.f
 cl:vj K a.v "is_due" a.r.f
 cm:vj K a.y "is_due" a.r.f
 cn:vj K a.n "is_due" a.r.f
 co:vj K a.z "is_due" a.r.f
 cp:vj K a.x "is_due" a.r.f
 cq:vj K a.o "is_due" a.r.f
 cr:vj K a.u "told" a.l.f
 cs:vj K a.v "told" a.l.f
 ct:vj K a.y "told" a.l.f
 cu:vj K a.n "told" a.l.f
 cv:vj K a.z "told" a.l.f
 cw:vj K a.w "told" a.l.f
 cx:vj K a.x "told" a.l.f
 cy:vj K a.o "told" a.l.f
 cz:vj K a.y "wants" a.B.f
 cA:vj K a.n "wants" a.B.f
 cB:vj K a.z "wants" a.B.f
 cC:vj K a.w "wants" a.B.f
 aP:L' K a.E "__init__" a.H.f
 bY:L' K a.Z "__init__" a.C.f
 F:za K a.c ["plan","hour","turn","calls","legs","nexts","on","log"]
 aa:za K a.h ["phones","groups","wishes","on","phone_rows","group_rows"]
 j:za K a.e ["state","caller","way","at","members","holder","since","word"]
 bQ:za K a.u ["form","phone","targets"]
 bR:za K a.v ["form","target","callers"]
 bS:za K a.y ["form","target","goal"]
 aQ:za K a.n ["form","target","goal","first","last"]
 bT:za K a.z ["form","target","goal"]
 bO:za K a.w ["form","target","goal","turns"]
 bZ:za K a.x ["form","phone"]
 b0:za K a.o ["form","phone"]
 cD:W.kitOne K (.ref a.c) (.ref a.c)=some true
 cE:W.kitOne K (.type "list") (.type "list")=some true
 q:mg "list"=none
 b1:mg "isinstance"=none
 g:mg "len"=none
 ab:mg "range"=none
 b2:mg "min"=none
 A:mg "tuple"=none
 cF:mg "sorted"=none
 bU:mg "dict"=none
 bP:mg "all"=none
 bV:mg "enumerate"=none
 cG:mg "set"=none
 cH:mg "zip"=none
 cI:mg "any"=none
 cJ:KD K mg "MOST_PHONES" (.int 8)
 cK:KD K mg "MOST_LINES" (.int 3)
 cL:KD K mg "MOST_RANK" (.int 9)
 cM:KD K mg "MOST_GROUPS" (.int 3)
 cN:KD K mg "MANNERS" (.tup ((["all","turns"]:List Str).map D.str))
 cO:KD K mg "MOST_MEMBERS" (.int 4)
 cP:KD K mg "MOST_WISHES" (.int 16)
 cQ:KD K mg "MOST_SIGNS" (.int 6)
 cR:KD K mg "LETTERS" (.str "abcdefghijklmnopqrstuvwxyz")
 b3:LV K mg "FORMS" Ki
 b4:KD K mg "MOST_LISTED" (.int 6)
 cS:KD K mg "LAST_HOUR" (.int 23)
 cT:KD K mg "MOST_TURNS" (.int 9)
noncomputable def qh(c f m:Int):Int:=(c % 2147483647+5)*f % 2147483629 / 89 % m
def qR{c f m:Int}(h:0<m):0<=qh c f m:=eQ _ (by omega)
def qF{c f m:Int}(h:0<m):qh c f m<m:=eM _ h
def Jm:qX:=λds M Q=>CK λc f m=>ds=[.int c,.int f,.int m]/\0<m/\Q (.int (qh c f m)) M
noncomputable def uj:Str:="abcdefghijklmnopqrstuvwxyz"
noncomputable def tV(i:Int):Str:=⟨#[97+i.toNat]⟩
noncomputable def size(s:Int):Int:=1+s % 6
noncomputable def uh(s:Int):Int:=s / 6 % size s
noncomputable def xC(s v:Int):Str:=yr (tV (s / 36 % 26)) (uh s)++tV ((s / 936+v) % 26)++yr (tV (s / 36 % 26)) (size s - 1 - uh s)
def OU:qX:=λds M Q=>Ca λs v=>ds=[.int s,.int v]/\Q (.str (xC s v)) M
noncomputable def cell(ns:List Int)(i:Int):Int:=if 0<=i/\i<ns.length then ns.getD i.toNat 0 else 0
def TH:qX:=λds M Q=>Ca λns i=>ds=[.rl (ns.map D.int),.int i]/\Q (.int (cell ns i)) M
def G7(c:Int):0<size c:=by unfold size;have:=eQ c (show(6:Int)≠0 by decide);omega
def JC(c:Int):size c<=6:=by unfold size;have:=eM c (show(0:Int)<6 by decide);omega
def Gx(i n:Int):(yr (tV i) n).length=n.toNat:=by show((List.replicate n.toNat (tV i).cps).foldl (·++·) #[]:Array Nat).size=n.toNat;rw[Jq];show n.toNat*1=n.toNat;omega
def Af:uj.length<=sizeLine:=by decide+kernel
variable {P:Pg}{w:Wo}{K:ql}{mg:Str→Option Vl}{base:Heap}{a:Ad}
def qB(G:Gl K mg a):Fq P w K mg base 1 a.i Jm:=by
 refine fq G.i.toDG GS (λr u=>⟨_,(o9 (pq (pR (pR (pR (pR (pR (pR v0 pb) pb) U1) pb) pb) U2))),?_⟩)
 rintro ds M Q ⟨c,f,m,rfl,hm,q⟩
 refine⟨by decide,.inl ?_,by decide,⟨by decide,by decide⟩,hm,M,.refl,q⟩;have h1:0<=c % 2147483647:=eQ _ (by decide);have h2:c % 2147483647<2147483647:=eM _ (by decide);exact⟨by omega,by omega⟩
def Dy{i:Int}(h0:0<=i)(h1:i<26):wj uj.cps.toList i=some (97+i.toNat):=by
 obtain⟨n,rfl⟩:=eC h0;have hn:n<26:=by omega
 have key:∀n:_root_.Fin 26,wj uj.cps.toList ((n.val:Nat):Int)=some (97+n.val):=by decide+kernel
 exact key ⟨n,hn⟩
def IR(G:Gl K mg a):Fq P w K mg base 1 a.ah OU:=by
 refine fq G.ah.toDG tY (λr u=>⟨_,(oY (pG 2 tY pf)
 (oY (pG 3 tY (pR pb (pR v0 pb)))
 (oY (pG 4 tY (pR (pR v0 pb) U3))
 (oY (pG 5 tY (pF U2 (pR (pR v0 pb) pb)))
 (oY (pG 6 tY (pF U2 (pR (pR (pR v0 pb) U1) pb)))
 (o9 (pq (pR (pR (pR v5 v4) v6) (pR v5 (pR (pR U3 pb) v4)))))))))),?_⟩)
 rintro ds M Q ⟨c,v,rfl,q⟩
 have hs:=G7 c;have hs6:=JC c;have hp0:0<=uh c:=eQ _ (by omega);have Ye:uh c<size c:=eM _ hs;have l1:=Gx (c / 36 % 26) (uh c);have l2:=Gx (c / 36 % 26) (size c - 1 - uh c);have hz:=dM;refine⟨by decide,⟨by decide,by decide⟩,hs,⟨by decide,by decide⟩,by decide,Af,i' (Dy (eQ _ (by decide)) (eM _ (by decide))) ?_⟩;refine⟨⟨by decide,by decide⟩,by decide,Af,i' (Dy (eQ _ (by decide)) (eM _ (by decide))) ?_⟩;refine⟨⟨?_,?_,?_⟩,?_,⟨?_,?_,?_⟩,?_,M,.refl,q⟩
 .show uh c<4096;omega
 .show -4096<uh c;omega
 .show(1:Nat)<4096;decide
 .show(yr (tV (c / 36 % 26)) (uh c)).length+1<=sizeLine;omega
 .show size c - 1 - uh c<4096;omega
 .show -4096<size c - 1 - uh c;omega
 .show(1:Nat)<4096;decide
 .show(yr (tV (c / 36 % 26)) (uh c)++tV ((c / 936+v) % 26)).length+(yr (tV (c / 36 % 26)) (size c - 1 - uh c)).length<=sizeLine;rw[PySem.size_cat];have:(tV ((c / 936+v) % 26)).length=1:=rfl;omega
def IM(G:Gl K mg a):Fq P w K mg base 1 a.M TH:=by
 refine fq G.M.toDG KH (λr u=>⟨_,(oY (pM (GE u pb U1 (pN qu rfl G.g qm (pY v0)))
 (o9 (pq (pF v0 U1)))
 pE)
 (o9 (pq pb))),?_⟩)
 rintro ds M Q ⟨ns,i,rfl,q⟩
 refine qA (λh0=>?_) (λh0=>?_)
 .have h0:0<=i:=fQ h0;refine qA (λh1=>?_) (λh1=>?_)
  .have h1:i<((ns.map D.int).length:Int):=fQ h1;rw[cV]at h1;have hi:i.toNat<ns.length:=by omega
   have e:wj (ns.map D.int) i=some (D.int (ns.getD i.toNat 0)):=by
    obtain⟨n,rfl⟩:=eC h0;have hn:n<ns.length:=by omega
    refine uV ?_;rw[dD,cY hn];simp[hn]
   refine i' e ⟨M,.refl,?_⟩;have:cell ns i=ns.getD i.toNat 0:=by unfold cell;rw[dg ⟨h0,h1⟩]
   rw[<-this];exact q
  .have h1:¬i<((ns.map D.int).length:Int):=λz=>h1 (dZ z);rw[cV]at h1;refine⟨M,.refl,?_⟩;have:cell ns i=0:=by unfold cell;rw[de (λz=>h1 z.2)]
   rw[<-this];exact q
 .have h0:¬0<=i:=λz=>h0 (dZ z);refine⟨M,.refl,?_⟩;have:cell ns i=0:=by unfold cell;rw[de (λz=>h0 z.1)]
  rw[<-this];exact q
inductive Wi where
 | bar (x:Str) (ns:List Str)|shut (x:Str) (ns:List Str)|always (x y:Str)|night (x y:Str) (f l:Int)|busy (x y:Str)|silent (x y:Str) (n:Int)|wait (x:Str)|breaks (x:Str)
abbrev names(ns:List Str):D:=.tup (ns.map D.str)
noncomputable def Wi.told:Wi->List D
 | .bar x ns=>[.str "bar",.str x,names ns]
 | .shut x ns=>[.str "shut",.str x,names ns]
 | .always x y=>[.str "always",.str x,.str y]
 | .night x y f l=>[.str "night",.str x,.str y,.int f,.int l]
 | .busy x y=>[.str "busy",.str x,.str y]
 | .silent x y n=>[.str "silent",.str x,.str y,.int n]
 | .wait x=>[.str "wait",.str x]
 | .breaks x=>[.str "breaks",.str x]
noncomputable def Wi.cls(a:Ad):Wi->Addr
 | .bar _ _=>a.u
 | .shut _ _=>a.v
 | .always _ _=>a.y
 | .night _ _ _ _=>a.n
 | .busy _ _=>a.z
 | .silent _ _ _=>a.w
 | .wait _=>a.x
 | .breaks _=>a.o
noncomputable def Wi.more:Wi->List (Str×D)
 | .bar x ns=>[("phone",.str x),("targets",names ns)]
 | .shut x ns=>[("target",.str x),("callers",names ns)]
 | .always x y=>[("target",.str x),("goal",.str y)]
 | .night x y f l=>[("target",.str x),("goal",.str y),("first",.int f),("last",.int l)]
 | .busy x y=>[("target",.str x),("goal",.str y)]
 | .silent x y n=>[("target",.str x),("goal",.str y),("turns",.int n)]
 | .wait x=>[("phone",.str x)]
 | .breaks x=>[("phone",.str x)]
noncomputable def Wi.nC(v:Wi):List (Str×D):=("form",.tup v.told)::v.more
abbrev Cr(ns:List Str)(i:Int):Str:=ns.getD i.toNat Str.empty
noncomputable def wX(row:List Str)(c m:Int):Nat:=(1+qh c 40692 (if (row.length:Int)<m then(row.length:Int)else m)).toNat
noncomputable def T6(row:List Str)(c:Int)(j:Nat):Str:=Cr row ((qh c 69621 row.length+(0+(j:Nat))) % row.length)
noncomputable def vD(row:List Str)(c m:Int):List Str:=(List.range (wX row c m)).map (T6 row c)
def PD:qX:=λds M Q=>CC λr c m row=>ds=[.ref r,.int c,.int m]/\oJ M r=some (row.map D.str)/\row≠[]/\0<m/\row.length<=64/\Q (names (vD row c m)) M
def Jt{row:List Str}(h:row≠[])(x:Int):wj (row.map D.str) (x % row.length)=some (D.str (Cr row (x % row.length))):=by
 have hl:0<row.length:=fB.mpr h;have h0:0<=x % row.length:=eQ _ (by omega);have h1:x % row.length<row.length:=eM _ (by omega);obtain⟨n,hn⟩:=eC h0;rw[hn]at h1 ⊢;have YG:n<row.length:=by omega
 refine uV ?_;rw[dD,cY YG];simp[Cr,YG]
def xT(G:Gl K mg a):Fq P w K mg base 2 a.R PD:=by
 refine fq G.R.toDG xh (λr u=>⟨_,(oY (pG 3 xh (pD (qB G) r G.i (qY U1 pb (pN qu rfl G.g qm (pY v0)))))
 (oY (pG 4 xh (pR pb (pD (qB G) r G.i (qY U1 pb (pN (Md rfl) rfl G.b2 LB (rK U2 (pN qu rfl G.g qm (pY v0))))))))
 (o9 (pq (pP sf rfl G.A sj (pY (qC rfl (yb (ix:=[none,some 0,some 3]) (N':=["_law_j","_law_row","_law_first"])) (wg rfl G.ab (pY v4)) (qz 0) rS (pF U1 (pR (pR U2 v0) (pN qu rfl G.g qm (pY U1))))))))))),?_⟩)
 rintro ds M Q ⟨r,c,m,row,rfl,hl,Xd,hm,h64,q⟩
 have WT:0<row.length:=fB.mpr Xd;have hz:=dM;have el:((row.map D.str).length:Int)=row.length:=by rw[cV]
 refine i' hl ⟨c,69621,_,rfl,by rw[el];omega,?_⟩;refine i' hl ⟨c,40692,_,rfl,by rw[el];split<;>omega,?_⟩;rw[el];have d0:=qR (c:=c) (f:=40692) (m:=if (row.length:Int)<m then(row.length:Int)else m) (by split<;>omega);have d1:=qF (c:=c) (f:=40692) (m:=if (row.length:Int)<m then(row.length:Int)else m) (by split<;>omega);have d2:qh c 40692 (if (row.length:Int)<m then(row.length:Int)else m)<row.length+1:=by refine Int.lt_of_lt_of_le d1 ?_;split<;>omega
 refine⟨rfl,⟨?_,?_⟩,rh (f:=λd=>match d with|.int j=>D.str (Cr row ((qh c 69621 row.length+j) % row.length))|_=>.mH) trivial _ [] _ ?_ (λd hd k hk=>?_) λp hp=>?_⟩
 .show -(2 ^ 62)<=1+qh c 40692 (if (row.length:Int)<m then(row.length:Int)else m);omega
 .show 1+qh c 40692 (if (row.length:Int)<m then(row.length:Int)else m)<2 ^ 62;omega
 .rw[cV,eE];show 0+wX row c m<=sizeLine;unfold wX;omega
 .obtain⟨j,_,rfl⟩:=dF.mp hd;refine i' hl ⟨by rw[el];omega,i' hl ?_⟩;rw[el];exact i' (Jt Xd _) hk
 .refine i' (x:=(vD row c m).map D.str) ?_ ⟨M,.new hp,q⟩;unfold oJ;rw[pL];show some ([]++((List.range (wX row c m)).map λi=>D.int (0+(i:Nat))).map _)=_;rw[d9,d6];unfold vD;rw[d6];rfl
noncomputable def wc(c:Int)(own all:List Str):Wi:=
 let x:=Cr own (qh c 16807 own.length);let pl:=qh c 39373 all.length;let y:=Cr all pl;let z:=Cr all ((pl+1+qh c 742938285 ((all.length:Int) - 1)) % all.length);let k:=qh c 1226874159 12
 if k=0 then .bar x (vD all c 3)
 else if k=1 then .shut y (vD own c 3)
 else if k=2 then .always y z
 else if k<5 then .night y z (qh c 22695477 24) ((qh c 22695477 24+1+qh c 48271 23) % 24)
 else if k<7 then .busy y z
 else if k<9 then .silent y z ([1,1,2,3,9].getD (qh c 950706376 5).toNat 0)
 else if k=9 then .wait x
 else .breaks x
def PU:qX:=λds M Q=>FJ λc o n own all=>ds=[.int c,.ref o,.ref n]/\oJ M o=some (own.map D.str)/\oJ M n=some (all.map D.str)/\own≠[]/\2<=all.length/\own.length<=64/\all.length<=64/\Q (.tup (wc c own all).told) M
def Hg{row:List Str}{x:Int}(h0:0<=x)(h1:x<row.length):wj (row.map D.str) x=some (D.str (Cr row x)):=by
 obtain⟨n,rfl⟩:=eC h0;have YG:n<row.length:=by omega
 refine uV ?_;rw[dD,cY YG];simp[Cr,YG]
def Pd(G:Gl K mg a):Fq P w K mg base 3 a.bp PU:=by
 refine fq G.bp.toDG tj (λr u=>⟨_,(oY (pG 3 tj (pF U1 (pD (qB G) r G.i (qY v0 pb (pN qu rfl G.g qm (pY U1))))))
 (oY (pG 4 tj (pD (qB G) r G.i (qY v0 pb (pN qu rfl G.g qm (pY U2)))))
 (oY (pG 5 tj (pF U2 v4))
 (oY (pG 6 tj (pF U2 (pR (pR (pR v4 pb) (pD (qB G) r G.i (qY v0 pb (pR (pN qu rfl G.g qm (pY U2)) pb)))) (pN qu rfl G.g qm (pY U2)))))
 (oY (pG 7 tj (pD (qB G) r G.i (qY v0 pb pb)))
 (oY (pM (pC u v7 pb)
 (o9 (pq (pJ (qY pf U3 (pD (xT G) r G.R (qY U2 v0 pb))))))
 pE)
 (oY (pM (pC u v7 pb)
 (o9 (pq (pJ (qY pf v5 (pD (xT G) r G.R (qY U1 v0 pb))))))
 pE)
 (oY (pM (pC u v7 pb)
 (o9 (pq (pJ (qY pf v5 v6))))
 pE)
 (oY (pM (pC u v7 pb)
 (oY (pG 8 tj (pD (qB G) r G.i (qY v0 pb pb)))
 (o9 (pq (pJ (pT pf (pT v5 (qY v6 v8 (pR (pR (pR v8 pb) (pD (qB G) r G.i (qY v0 pb pb))) pb))))))))
 pE)
 (oY (pM (pC u v7 pb)
 (o9 (pq (pJ (qY pf v5 v6))))
 pE)
 (oY (pM (pC u v7 pb)
 (o9 (pq (pJ (pT pf (qY v5 v6 (pF (pJ (pT pb (pT pb (qY pb pb pb)))) (pD (qB G) r G.i (qY v0 pb pb))))))))
 pE)
 (oY (pM (pC u v7 pb)
 (o9 (pq (pJ (rK pf U3))))
 pE)
 (o9 (pq (pJ (rK pf U3)))))))))))))))),?_⟩)
 rintro ds M Q ⟨c,o,n,own,all,rfl,ho,hn,Xd,h2,l1,l2,q⟩
 have WT:0<own.length:=fB.mpr Xd;have hne2:all≠[]:=λz=>by rw[z]at h2;simp at h2
 have e1:((own.map D.str).length:Int)=own.length:=by rw[cV]
 have e2:((all.map D.str).length:Int)=all.length:=by rw[cV]
 have p1:(0:Int)<own.length:=by omega
 have p2:(0:Int)<all.length:=by omega
 have p3:(0:Int)<(all.length:Int) - 1:=by omega
 refine i' ho ⟨c,_,_,rfl,by rw[e1];exact p1,?_⟩;rw[e1];refine i' ho (i' (Hg (qR p1) (qF p1)) ?_);refine i' hn ⟨c,_,_,rfl,by rw[e2];exact p2,?_⟩;rw[e2];refine i' hn (i' (Hg (qR p2) (qF p2)) ?_);refine i' hn ⟨c,_,_,rfl,by rw[e2];exact p3,?_⟩;rw[e2];refine i' hn ⟨by rw[e2];exact p2,?_⟩;rw[e2];refine i' hn (i' (Jt hne2 _) ?_);refine⟨c,_,_,rfl,by decide,?_⟩;have WR:∀t:List D,(wc c own all).told=t->∃WS,qx WS M/\Q (.tup t) WS:=λt e=>⟨M,.refl,e ▸ q⟩;have k0:0<=qh c 1226874159 12:=qR (by decide);refine qA (λh=>?_) (λh=>?_)
 .have h:qh c 1226874159 12=0:=by simpa using h
  refine⟨n,c,3,all,rfl,hn,hne2,by decide,l2,oW rfl,WR _ ?_⟩;simp only[wc,dg h,Wi.told]
 have h:¬qh c 1226874159 12=0:=by simpa using h
 refine qA (λg=>?_) (λg=>?_)
 .have g:qh c 1226874159 12=1:=by simpa using g
  refine⟨o,c,3,own,rfl,ho,Xd,by decide,l1,oW rfl,WR _ ?_⟩;simp only[wc,de h,dg g,Wi.told]
 have g:¬qh c 1226874159 12=1:=by simpa using g
 refine qA (λi=>?_) (λi=>?_)
 .have i:qh c 1226874159 12=2:=by simpa using i
  refine⟨oW rfl,WR _ ?_⟩;simp only[wc,de h,de g,dg i,Wi.told]
 have i:¬qh c 1226874159 12=2:=by simpa using i
 refine qA (λj=>?_) (λj=>?_)
 .have j:qh c 1226874159 12<5:=fQ j;refine⟨c,_,_,rfl,by decide,c,_,_,rfl,by decide,by decide,oW rfl,WR _ ?_⟩;simp only[wc,de h,de g,de i,dg j,Wi.told]
 have j:¬qh c 1226874159 12<5:=λz=>j (dZ z);refine qA (λl=>?_) (λl=>?_)
 .have l:qh c 1226874159 12<7:=fQ l;refine⟨oW rfl,WR _ ?_⟩;simp only[wc,de h,de g,de i,de j,dg l,Wi.told]
 have l:¬qh c 1226874159 12<7:=λz=>l (dZ z);refine qA (λm=>?_) (λm=>?_)
 .have m:qh c 1226874159 12<9:=fQ m;have d0:0<=qh c 950706376 5:=qR (by decide);have d1:qh c 950706376 5<5:=qF (by decide);have e:wj [D.int 1,.int 1,.int 2,.int 3,.int 9] (qh c 950706376 5)=some (D.int ([1,1,2,3,9].getD (qh c 950706376 5).toNat 0)):=by
   obtain⟨t,ht⟩:=eC d0;rw[ht]at d1 ⊢;have:t<5:=by omega
   match t,this with
   | 0,_=>rfl
   | 1,_=>rfl
   | 2,_=>rfl
   | 3,_=>rfl
   | 4,_=>rfl
  refine⟨oW rfl,c,_,_,rfl,by decide,i' e ⟨oW rfl,WR _ ?_⟩⟩;simp only[wc,de h,de g,de i,de j,de l,dg m,Wi.told]
 have m:¬qh c 1226874159 12<9:=λz=>m (dZ z);refine qA (λr=>?_) (λr=>?_)
 .have r:qh c 1226874159 12=9:=by simpa using r
  refine⟨oW rfl,WR _ ?_⟩;simp only[wc,de h,de g,de i,de j,de l,de m,dg r,Wi.told]
 have r:¬qh c 1226874159 12=9:=by simpa using r
 refine⟨oW rfl,WR _ ?_⟩;simp only[wc,de h,de g,de i,de j,de l,de m,de r,Wi.told]
def Mq(K:ql):qX:=λds M Q=>CK λp d C=>ds=[.ref p,d]/\M p=some (.ins C [])/\tX K C "form"/\Q .mH (pz M p (.ins C [("form",d)]))
def Nw(K:ql):qX:=λds M Q=>FJ λp t x y C=>ds=[.ref p,.tup t]/\wj t 1=some x/\wj t 2=some y/\M p=some (.ins C [])/\tX K C "form"/\tX K C "target"/\tX K C "goal"/\Q .mH (pz M p (.ins C [("form",.tup t),("target",x),("goal",y)]))
def xO(a:Ad)(k:Wi->Prop):qX:=λds M Q=>Ca λp v=>ds=[.ref p,.tup (Wi.told v)]/\k v/\M p=some (.ins (v.cls a) [])/\Q .mH (pz M p (.ins (v.cls a) v.nC))
def xf(G:Gl K mg a):Fq P w K mg base 1 a.H (Mq K):=by
 refine fq G.H.toDG Fx (λr u=>⟨_,(o9 (pV v0 U1)),?_⟩)
 rintro ds M Q ⟨p,d,C,rfl,hp,na,q⟩
 exact oZ hp ⟨na,by decide,_,.refl,q⟩
def zh(G:Gl K mg a):Fq P w K mg base 2 a.C (Nw K):=by
 refine fq G.C.toDG AE (λr u=>⟨_,(oY (pI (yF G.aP (xf G) r G.E G.H.toDG (rK v0 U1)))
 (oY (pV v0 (pF U1 pb))
 (o9 (pV v0 (pF U1 pb))))),?_⟩)
 rintro ds M Q ⟨p,t,x,y,C,rfl,e1,e2,hp,n1,n2,n3,q⟩
 refine⟨p,_,C,rfl,hp,n1,i' e1 (oZ pL ⟨n2,by show 1<1000;decide,?_⟩)⟩;refine i' e2 (oZ pL ⟨n3,by show 2<1000;decide,_,?_,q⟩);rw[rA,rA];exact .refl
def QZ(G:Gl K mg a):Fq P w K mg base 2 a.ao (xO a λv=>∃x ns,v=.bar x ns):=by
 refine fq G.ao.toDG FO (λr u=>⟨_,(oY (pI (yF G.aP (xf G) r G.E G.H.toDG (rK v0 U1)))
 (oY (pV v0 (pF U1 pb))
 (o9 (pV v0 (pF U1 pb))))),?_⟩)
 rintro ds M Q ⟨p,v,rfl,⟨x,ns,rfl⟩,hp,q⟩
 refine⟨p,_,_,rfl,hp,(G.bQ "form" rfl),oZ pL ⟨(G.bQ "phone" rfl),by show 1<1000;decide,?_⟩⟩;refine oZ pL ⟨(G.bQ "targets" rfl),by show 2<1000;decide,_,?_,q⟩;rw[rA,rA];exact .refl
def NO(G:Gl K mg a):Fq P w K mg base 2 a.ap (xO a λv=>∃x ns,v=.shut x ns):=by
 refine fq G.ap.toDG EH (λr u=>⟨_,(oY (pI (yF G.aP (xf G) r G.E G.H.toDG (rK v0 U1)))
 (oY (pV v0 (pF U1 pb))
 (o9 (pV v0 (pF U1 pb))))),?_⟩)
 rintro ds M Q ⟨p,v,rfl,⟨x,ns,rfl⟩,hp,q⟩
 refine⟨p,_,_,rfl,hp,(G.bR "form" rfl),oZ pL ⟨(G.bR "target" rfl),by show 1<1000;decide,?_⟩⟩;refine oZ pL ⟨(G.bR "callers" rfl),by show 2<1000;decide,_,?_,q⟩;rw[rA,rA];exact .refl
def LH(G:Gl K mg a):Fq P w K mg base 3 a.aq (xO a λv=>∃x y f l,v=.night x y f l):=by
 refine fq G.aq.toDG C9 (λr u=>⟨_,(oY (pI (yF G.bY (zh G) r G.Z G.C.toDG (rK v0 U1)))
 (oY (pV v0 (pF U1 pb))
 (o9 (pV v0 (pF U1 pb))))),?_⟩)
 rintro ds M Q ⟨p,v,rfl,⟨x,y,f,l,rfl⟩,hp,q⟩
 refine⟨p,_,_,_,_,rfl,rfl,rfl,hp,(G.aQ "form" rfl),(G.aQ "target" rfl),(G.aQ "goal" rfl),oZ pL ⟨(G.aQ "first" rfl),by show 3<1000;decide,?_⟩⟩;refine oZ pL ⟨(G.aQ "last" rfl),by show 4<1000;decide,_,?_,q⟩;rw[rA,rA];exact .refl
def Kc(G:Gl K mg a):Fq P w K mg base 3 a.ar (xO a λv=>∃x y n,v=.silent x y n):=by
 refine fq G.ar.toDG Cs (λr u=>⟨_,(oY (pI (yF G.bY (zh G) r G.Z G.C.toDG (rK v0 U1)))
 (o9 (pV v0 (pF U1 pb)))),?_⟩)
 rintro ds M Q ⟨p,v,rfl,⟨x,y,n,rfl⟩,hp,q⟩
 refine⟨p,_,_,_,_,rfl,rfl,rfl,hp,(G.bO "form" rfl),(G.bO "target" rfl),(G.bO "goal" rfl),oZ pL ⟨(G.bO "turns" rfl),by show 3<1000;decide,_,?_,q⟩⟩;rw[rA];exact .refl
def Pn(G:Gl K mg a):Fq P w K mg base 2 a.au (xO a λv=>∃x,v=.wait x):=by
 refine fq G.au.toDG Ei (λr u=>⟨_,(oY (pI (yF G.aP (xf G) r G.E G.H.toDG (rK v0 U1)))
 (o9 (pV v0 (pF U1 pb)))),?_⟩)
 rintro ds M Q ⟨p,v,rfl,⟨x,rfl⟩,hp,q⟩
 refine⟨p,_,_,rfl,hp,(G.bZ "form" rfl),oZ pL ⟨(G.bZ "phone" rfl),by show 1<1000;decide,_,?_,q⟩⟩;rw[rA];exact .refl
def Kd(G:Gl K mg a):Fq P w K mg base 2 a.av (xO a λv=>∃x,v=.breaks x):=by
 refine fq G.av.toDG BZ (λr u=>⟨_,(oY (pI (yF G.aP (xf G) r G.E G.H.toDG (rK v0 U1)))
 (o9 (pV v0 (pF U1 pb)))),?_⟩)
 rintro ds M Q ⟨p,v,rfl,⟨x,rfl⟩,hp,q⟩
 refine⟨p,_,_,rfl,hp,(G.b0 "form" rfl),oZ pL ⟨(G.b0 "phone" rfl),by show 1<1000;decide,_,?_,q⟩⟩;rw[rA];exact .refl
def Hr(a:Ad):qX:=λds M Q=>∃v:Wi,ds=[.tup v.told]/\∀p,M p=none->Q (.ref p) (pz M p (.ins (v.cls a) v.nC))
def Ir(a:Ad):qX:=λds M Q=>Ca λp (v:Wi)=>ds=[.ref p]/\M p=some (.ins (v.cls a) v.nC)/\Q (.tup v.told) M
def Ho:qX:=λds M Q=>∃p,ds=[.ref p]/\Q (.tup [.str "end"]) M
def Lj:qX:=λds M Q=>∃p,ds=[.ref p]/\Q (.tup [.str "break"]) M
def QL:qX:=λds M Q=>CC λp C fs y=>ds=[.ref p]/\M p=some (.ins C fs)/\fs.lookup ("goal":Str)=some y/\Q (.tup [.str "to",y]) M
def QD:qX:=λds M Q=>CC λp C fs y=>ds=[.ref p]/\M p=some (.ins C fs)/\fs.lookup ("phone":Str)=some y/\Q (.tup [.str "wait",y]) M
def Li(a:Ad):Addr->qX->Prop:=λC sp=>(∃v:Wi,C=v.cls a)/\sp=Ir a
def Je(a:Ad):Addr->qX->Prop:=λC sp=>((C=a.u\/C=a.v)/\sp=Ho)\/((C=a.y\/C=a.n\/C=a.z\/C=a.w)/\sp=QL)\/(C=a.x/\sp=QD)\/(C=a.o/\sp=Lj)
def HQ(G:Gl K mg a):Fq P w K mg base 5 a.bg (Hr a):=by
 refine fq G.bg.toDG BX (λr u=>⟨_,(oY (pG 1 BX (pF v0 pb))
 (oY (pM (pC u U1 pf)
 (o9 (pq (uH (QZ G) r G.u G.cc G.ao.toDG (pY v0))))
 pE)
 (oY (pM (pC u U1 pf)
 (o9 (pq (uH (NO G) r G.v G.cd G.ap.toDG (pY v0))))
 pE)
 (oY (pM (pC u U1 pf)
 (o9 (pq (uH (zh G) r G.y G.ce G.C.toDG (pY v0))))
 pE)
 (oY (pM (pC u U1 pf)
 (o9 (pq (uH (LH G) r G.n G.cf G.aq.toDG (pY v0))))
 pE)
 (oY (pM (pC u U1 pf)
 (o9 (pq (uH (zh G) r G.z G.cg G.C.toDG (pY v0))))
 pE)
 (oY (pM (pC u U1 pf)
 (o9 (pq (uH (Kc G) r G.w G.ch G.ar.toDG (pY v0))))
 pE)
 (oY (pM (pC u U1 pf)
 (o9 (pq (uH (Pn G) r G.x G.ci G.au.toDG (pY v0))))
 pE)
 (oY (pM (pC u U1 pf)
 (o9 (pq (uH (Kd G) r G.o G.cj G.av.toDG (pY v0))))
 pE)
 (o9 GR)))))))))),?_⟩)
 rintro ds M Q ⟨v,rfl,q⟩
 have WR:∀(x:Addr) (c0 c1:uT) (C:Addr) (fs:List (Str×D)),M x=none->Q (.ref x) (pz M x c1)->∃WS,qx WS (pz (pz M x c0) x c1)/\Q (.ref x) WS:=λx c0 c1 C fs hx q=>⟨_,by rw[rA];exact .refl,q⟩;cases v with
 | bar x ns=>exact λp hp=>⟨p,.bar x ns,rfl,⟨_,_,rfl⟩,pL,rfl,WR p _ _ 0 [] hp (q p hp)⟩
 | shut x ns=>exact λp hp=>⟨p,.shut x ns,rfl,⟨_,_,rfl⟩,pL,rfl,WR p _ _ 0 [] hp (q p hp)⟩
 | always x y=>exact λp hp=>⟨p,_,_,_,_,rfl,rfl,rfl,pL,(G.bS "form" rfl),(G.bS "target" rfl),(G.bS "goal" rfl),rfl,WR p _ _ 0 [] hp (q p hp)⟩
 | night x y f l=>exact λp hp=>⟨p,.night x y f l,rfl,⟨_,_,_,_,rfl⟩,pL,rfl,WR p _ _ 0 [] hp (q p hp)⟩
 | busy x y=>exact λp hp=>⟨p,_,_,_,_,rfl,rfl,rfl,pL,(G.bT "form" rfl),(G.bT "target" rfl),(G.bT "goal" rfl),rfl,WR p _ _ 0 [] hp (q p hp)⟩
 | silent x y n=>exact λp hp=>⟨p,.silent x y n,rfl,⟨_,_,_,rfl⟩,pL,rfl,WR p _ _ 0 [] hp (q p hp)⟩
 | wait x=>exact λp hp=>⟨p,.wait x,rfl,⟨_,rfl⟩,pL,rfl,WR p _ _ 0 [] hp (q p hp)⟩
 | breaks x=>exact λp hp=>⟨p,.breaks x,rfl,⟨_,rfl⟩,pL,rfl,WR p _ _ 0 [] hp (q p hp)⟩
def O7(G:Gl K mg a):Fq P w K mg base 1 a.l (Ir a):=by
 refine fq G.l.toDG Eo (λr u=>⟨_,(o9 (pq (pk v0))),?_⟩)
 rintro ds M Q ⟨p,v,rfl,hp,q⟩
 exact oZ hp (i' rfl ⟨M,.refl,q⟩)
def P9(G:Gl K mg a):Fq P w K mg base 1 a.aA Ho:=by
 refine fq G.aA.toDG D3 (λr u=>⟨_,(o9 (pq (pJ (pY pf)))),?_⟩)
 rintro ds M Q ⟨p,rfl,q⟩
 exact⟨oW rfl,M,.refl,q⟩
def ND(G:Gl K mg a):Fq P w K mg base 1 a.aB Ho:=by
 refine fq G.aB.toDG Dj (λr u=>⟨_,(o9 (pq (pJ (pY pf)))),?_⟩)
 rintro ds M Q ⟨p,rfl,q⟩
 exact⟨oW rfl,M,.refl,q⟩
def vE(G:Gl K mg a):Fq P w K mg base 1 a.B QL:=by
 refine fq G.B.toDG zO (λr u=>⟨_,(o9 (pq (pJ (rK pf (pk v0))))),?_⟩)
 rintro ds M Q ⟨p,C,fs,y,rfl,hp,e,q⟩
 exact oZ hp (i' e ⟨oW rfl,M,.refl,q⟩)
def L4(G:Gl K mg a):Fq P w K mg base 1 a.aC QD:=by
 refine fq G.aC.toDG CF (λr u=>⟨_,(o9 (pq (pJ (rK pf (pk v0))))),?_⟩)
 rintro ds M Q ⟨p,C,fs,y,rfl,hp,e,q⟩
 exact oZ hp (i' e ⟨oW rfl,M,.refl,q⟩)
def HU(G:Gl K mg a):Fq P w K mg base 1 a.aD Lj:=by
 refine fq G.aD.toDG Au (λr u=>⟨_,(o9 (pq (pJ (pY pf)))),?_⟩)
 rintro ds M Q ⟨p,rfl,q⟩
 exact⟨oW rfl,M,.refl,q⟩
def Sx(G:Gl K mg a):∀C sp,Li a C sp->xo P w K mg base 1 "told" C (NK K sp):=by
 rintro C sp ⟨⟨v,rfl⟩,rfl⟩
 have F:=O7 (P:=P) (w:=w) (base:=base) G;cases v with
 | bar _ _=>exact⟨G.u.toCls,_,_,_,G.cr,F,G.l.b⟩
 | shut _ _=>exact⟨G.v.toCls,_,_,_,G.cs,F,G.l.b⟩
 | always _ _=>exact⟨G.y.toCls,_,_,_,G.ct,F,G.l.b⟩
 | night _ _ _ _=>exact⟨G.n.toCls,_,_,_,G.cu,F,G.l.b⟩
 | busy _ _=>exact⟨G.z.toCls,_,_,_,G.cv,F,G.l.b⟩
 | silent _ _ _=>exact⟨G.w.toCls,_,_,_,G.cw,F,G.l.b⟩
 | wait _=>exact⟨G.x.toCls,_,_,_,G.cx,F,G.l.b⟩
 | breaks _=>exact⟨G.o.toCls,_,_,_,G.cy,F,G.l.b⟩
def PB(G:Gl K mg a):∀C sp,Je a C sp->xo P w K mg base 1 "wants" C (NK K sp):=by
 rintro C sp (⟨rfl|rfl,rfl⟩|⟨rfl|rfl|rfl|rfl,rfl⟩|⟨rfl,rfl⟩|⟨rfl,rfl⟩)
 .exact⟨G.u.toCls,_,_,_,G.aA.m9,P9 G,G.aA.b⟩
 .exact⟨G.v.toCls,_,_,_,G.aB.m9,ND G,G.aB.b⟩
 .exact⟨G.y.toCls,_,_,_,G.cz,vE G,G.B.b⟩
 .exact⟨G.n.toCls,_,_,_,G.cA,vE G,G.B.b⟩
 .exact⟨G.z.toCls,_,_,_,G.cB,vE G,G.B.b⟩
 .exact⟨G.w.toCls,_,_,_,G.cC,vE G,G.B.b⟩
 .exact⟨G.x.toCls,_,_,_,G.aC.m9,L4 G,G.aC.b⟩
 .exact⟨G.o.toCls,_,_,_,G.aD.m9,HU G,G.aD.b⟩
noncomputable def uc(x:Str):Bool:=decide ((1:Int)<=x.length)&&(decide ((x.length:Int)<=6)&&x.cps.toList.all λc=>CN ⟨#[c]⟩ uj)
def Hw:qX:=λds M Q=>∃x:Str,ds=[.str x]/\x.length<=1000/\Q (.bl (uc x)) M
def IG:qX:=λds M Q=>∃w,ds=[.bl true,w]/\Q .mH M
noncomputable def wu(ss:List Str):Bool:=((sN ss).length:Int)==(ss.length:Int)
def R9(M:Mp)(x:D)(ss:List Str):Prop:=x=.tup (ss.map D.str)\/∃a,x=.ref a/\oJ M a=some (ss.map D.str)
def JY:qX:=λds M Q=>Ca λx ss=>ds=[x]/\R9 M x ss/\ss.length<4000/\Q (.bl (wu ss)) M
def yX{α:Type}(f:α->Bool)(l:List α):(l.map f).all id=l.all f:=by rw[jD];rfl
def sy(x:Str)(ss:List Str):inD (.str x) (ss.map D.str)=ss.any (·==x):=by unfold inD;rw[jJ];rfl
theorem qr:∀ss:List Str,(ss.map D.str).all uL=true
 | []=>rfl
 | _::r=>by rw[dY,eW,qr r];rfl
noncomputable def sA(cs ks:List Str)(m:Int):Bool:=decide ((1:Int)<=cs.length)&&(decide ((cs.length:Int)<=m)&&(wu cs&&cs.all λc=>ks.any (·==c)))
def JN:qX:=λds M Q=>CC λcs ks k m=>ds=[.tup (cs.map D.str),.ref k,.int m]/\oJ M k=some (ks.map D.str)/\cs.length<4000/\Q (.bl (sA cs ks m)) M
def Cd(G:Gl K mg a):Fq P w K mg base 1 a.af Hw:=by
 refine fq G.af.toDG H9 (λr u=>⟨_,(o9 (pq (sS (ub u pb (pN qu rfl G.g qm (pY v0)) (sE rfl G.cQ)) (sH (pN (Fh rfl) rfl G.bP D4 (pY (qC rfl (yb (ix:=[none]) (N':=["sign"])) (qG v0) (qz 0) rS (qc u v0 (sE rfl G.cR))))))))),?_⟩)
 rintro ds M Q ⟨x,rfl,hl,q⟩
 have hz:=dM;refine⟨by omega,qA (λh1=>?_) (λh1=>?_)⟩
 .refine qA (λh2=>?_) (λh2=>?_)
  .refine rh (f:=λd=>match d with|.str z=>D.bl (CN z uj)|_=>.mH) trivial _ [] _ ?_ (λd hd k hk=>?_) λp hp=>?_
   .rw[cV];have:x.cps.toList.length=x.length:=by simp[Str.length]
    simp only[dN];omega
   .obtain⟨c,_,rfl⟩:=dF.mp hd;exact hk
   .refine i' pA ?_;have e:([]++(x.cps.toList.map λc=>D.str ⟨#[c]⟩).map λd=>match d with|.str z=>D.bl (CN z uj)|_=>.mH)=x.cps.toList.map λc=>D.bl (CN ⟨#[c]⟩ uj):=by rw[d9,d6];rfl
    rw[e];refine i' (xR (λc=>CN ⟨#[c]⟩ uj) x.cps.toList) ⟨M,.new hp,?_⟩;rw[yX];have:uc x=x.cps.toList.all λc=>CN ⟨#[c]⟩ uj:=by unfold uc;rw[h1,h2];rfl
    rw[<-this];exact q
  .refine⟨M,.refl,?_⟩;have:uc x=false:=by
    unfold uc;have h2:decide ((x.length:Int)<=6)=false:=by simpa using h2
    rw[h2];simp
   rw[<-this];exact q
 .refine⟨M,.refl,?_⟩;have:uc x=false:=by
   unfold uc;have h1:decide ((1:Int)<=x.length)=false:=by simpa using h1
   rw[h1];rfl
  rw[<-this];exact q
def sL(G:Gl K mg a):Fq P w K mg base 1 a.m IG:=by
 refine fq G.m.toDG Og (λr u=>⟨_,(o9 (pM (wC (uM v0))
 (o9 GR)
 pE)),?_⟩)
 rintro ds M Q ⟨x,rfl,q⟩
 exact⟨M,.refl,q⟩
def DJ(G:Gl K mg a):Fq P w K mg base 1 a.ag JY:=by
 refine fq G.ag.toDG CS (λr u=>⟨_,(o9 (pq (qc u (Ku rfl v0 rfl G.g rfl G.cG qm RE) (pN qu rfl G.g qm (pY v0))))),?_⟩)
 rintro ds M Q ⟨x,ss,rfl,hx,hl,q⟩
 have key:((ss.map D.str).length:Int)=ss.length:=by rw[cV]
 rcases hx with rfl|⟨b,rfl,hb⟩
 .refine i' (L3.B' ss) ⟨hl,M,.refl,?_⟩;rw[key];exact q
 .refine i' hb (i' (L3.B' ss) ⟨hl,i' hb ⟨M,.refl,?_⟩⟩);rw[key];exact q
def zW(G:Gl K mg a):Fq P w K mg base 2 a.Q JN:=by
 refine fq G.Q.toDG Ex (λr u=>⟨_,(o9 (pq (sS (ub u pb (pN qu rfl G.g qm (pY v0)) U2) (sS (pD (DJ G) r G.ag (pY v0)) (sH (pN (Fh rfl) rfl G.bP D4 (pY (qC rfl (yb (ix:=[none,some 1]) (N':=["name","known"])) (qG v0) (qz 0) rS (qc u v0 U1))))))))),?_⟩)
 rintro ds M Q ⟨cs,ks,k,m,rfl,hk,hl,q⟩
 have hz:=dM;have key:((cs.map D.str).length:Int)=cs.length:=by rw[cV]
 have ZR:∀b:Bool,sA cs ks m=b->∃WS,qx WS M/\Q (.bl b) WS:=λb e=>⟨M,.refl,e ▸ q⟩;refine qA (λh1=>?_) (λh1=>?_)
 .have h1:decide ((1:Int)<=cs.length)=true:=by rw[<-key];exact h1
  refine qA (λh2=>?_) (λh2=>?_)
  .have h2:decide ((cs.length:Int)<=m)=true:=by rw[<-key];exact h2
   refine⟨_,cs,rfl,.inl rfl,hl,qA (λh3=>?_) (λh3=>?_)⟩
   .refine rh (f:=λd=>match d with|.str z=>D.bl (ks.any (·==z))|_=>.mH) trivial _ [] _ ?_ (λd hd k0 hk0=>?_) λp hp=>?_
    .rw[cV];simp only[dN];omega
    .obtain⟨c,_,rfl⟩:=dF.mp hd;refine i' hk ⟨rfl,qr ks,?_⟩;show k0 (.bl (inD (.str c) (ks.map D.str))) M;rw[sy];exact hk0
    .refine i' pA ?_;have e:([]++(cs.map D.str).map λd=>match d with|.str z=>D.bl (ks.any (·==z))|_=>.mH)=cs.map λc=>D.bl (ks.any (·==c)):=by rw[d9,d6];rfl
     rw[e];refine i' (xR (λc=>ks.any (·==c)) cs) ⟨M,.new hp,?_⟩;rw[yX];have:sA cs ks m=cs.all λc=>ks.any (·==c):=by unfold sA;rw[h1,h2,h3];rfl
     rw[<-this];exact q
   .refine ZR _ ?_;unfold sA;have h3:wu cs=false:=by simpa using h3
    rw[h3];simp
  .refine ZR _ ?_;unfold sA;have h2:decide ((cs.length:Int)<=m)=false:=by
    rw[<-key]
    simpa using h2
   rw[h2];simp
 .refine ZR _ ?_;unfold sA;have h1:decide ((1:Int)<=cs.length)=false:=by
   rw[<-key]
   simpa using h1
  rw[h1];rfl
abbrev uu:=Str×Int×Int
abbrev ui:=Str×Str×List Str
abbrev uW:=Bool×Wi
noncomputable def qy(p:uu):D:=.tup [.str p.1,.int p.2.1,.int p.2.2]
noncomputable def qD(g:ui):D:=.tup [.str g.1,.str g.2.1,names g.2.2]
noncomputable def uE(w:uW):D:=.tup [.bl w.1,.tup w.2.told]
structure Ey(p:uu):Prop where
 len:p.1.length<=1000
 nm:uc p.1=true
 l1:1<=p.2.1
 l2:p.2.1<=3
 r1:0<=p.2.2
 r2:p.2.2<=9
structure Fy(pn:List Str)(g:ui):Prop where
 len:g.1.length<=1000
 nm:uc g.1=true
 man:g.2.1="all"\/g.2.1="turns"
 oW:g.2.2.length<4000
 mem:sA g.2.2 pn 4=true
def xu(ss:List Str)(x:Str):Prop:=ss.any (·==x)=true
def Bz(pn nm:List Str):Wi->Prop
 | .bar x ns=>xu pn x/\ns.length<4000/\sA ns nm 6=true
 | .shut x ns=>xu nm x/\ns.length<4000/\sA ns pn 6=true
 | .always x y=>xu nm x/\xu nm y/\x≠y
 | .night x y f l=>xu nm x/\xu nm y/\x≠y/\(0<=f/\f<=23)/\(0<=l/\l<=23)/\f≠l
 | .busy x y=>xu nm x/\xu nm y/\x≠y
 | .silent x y n=>xu nm x/\xu nm y/\x≠y/\1<=n/\n<=9
 | .wait x=>xu pn x
 | .breaks x=>xu pn x
inductive xH(pn nm:List Str):Str->D->Prop
 | mX (x:Str) (h:xu pn x):xH pn nm "phone" (.str x)
 | name (x:Str) (h:xu nm x):xH pn nm "name" (.str x)
 | mG (cs:List Str) (l:cs.length<4000) (h:sA cs pn 6=true):xH pn nm "phones" (names cs)
 | names (cs:List Str) (l:cs.length<4000) (h:sA cs nm 6=true):xH pn nm "names" (names cs)
 | hour (i:Int) (h0:0<=i) (h1:i<=23):xH pn nm "hour" (.int i)
 | turns (i:Int) (h0:1<=i) (h1:i<=9):xH pn nm "turns" (.int i)
def Ji:qX:=λds M Q=>Iz λk d pl nl (pn nm:List Str)=>ds=[.str k,d,.ref pl,.ref nl]/\oJ M pl=some (pn.map D.str)/\oJ M nl=some (nm.map D.str)/\xH pn nm k d/\Q (.bl true) M
def AV:qX:=λds M Q=>Ca λr (ps:List uu)=>ds=[.ref r]/\oJ M r=some (ps.map qy)/\1<=ps.length/\ps.length<=8/\(∀p∈ps,Ey p)/\Q .mH M
def AU:qX:=λds M Q=>CC λr (gs:List ui) pl (pn:List Str)=>ds=[.ref r,.ref pl]/\oJ M r=some (gs.map qD)/\oJ M pl=some (pn.map D.str)/\gs.length<=3/\(∀g∈gs,Fy pn g)/\Q .mH M
def C4:qX:=λds M Q=>FJ λv pl nl (pn nm:List Str)=>ds=[.tup (Wi.told v),.ref pl,.ref nl]/\oJ M pl=some (pn.map D.str)/\oJ M nl=some (nm.map D.str)/\Bz pn nm v/\Q .mH M
def AN:qX:=λds M Q=>Iz λr (ws:List uW) pl nl (pn nm:List Str)=>ds=[.ref r,.ref pl,.ref nl]/\oJ M r=some (ws.map uE)/\oJ M pl=some (pn.map D.str)/\oJ M nl=some (nm.map D.str)/\ws.length<=16/\(∀w∈ws,Bz pn nm w.2)/\Q .mH M
def Wt{ss:List Str}{x:Str}(h:xu ss x):inD (.str x) (ss.map D.str)=true:=by rw[sy];exact h
def OG(G:Gl K mg a):Fq P w K mg base 3 a.bj Ji:=by
 refine fq G.bj.toDG C6 (λr u=>⟨_,(oY (pM (pC u v0 pf)
 (o9 (pq (qc u U1 U2)))
 pE)
 (oY (pM (pC u v0 pf)
 (o9 (pq (qc u U1 U3)))
 pE)
 (oY (pM (pC u v0 pf)
 (o9 (pq (pD (zW G) r G.Q (qY U1 U2 (sE rfl G.b4)))))
 pE)
 (oY (pM (pC u v0 pf)
 (o9 (pq (pD (zW G) r G.Q (qY U1 U3 (sE rfl G.b4)))))
 pE)
 (oY (pM (pC u v0 pf)
 (o9 (pq (ub u pb U1 (sE rfl G.cS))))
 pE)
 (o9 (pq (ub u pb U1 (sE rfl G.cT))))))))),?_⟩)
 rintro ds M Q ⟨k,d,pl,nl,pn,nm,rfl,hp,hn,ok,q⟩
 cases ok with
 | mX x h=>refine i' hp ⟨rfl,qr pn,M,.refl,?_⟩;show Q (.bl (inD (.str x) (pn.map D.str))) M;rw[Wt h];exact q
 | name x h=>refine i' hn ⟨rfl,qr nm,M,.refl,?_⟩;show Q (.bl (inD (.str x) (nm.map D.str))) M;rw[Wt h];exact q
 | mG cs l h=>exact⟨cs,pn,pl,6,rfl,hp,l,M,.refl,by rw[h];exact q⟩
 | names cs l h=>exact⟨cs,nm,nl,6,rfl,hn,l,M,.refl,by rw[h];exact q⟩
 | hour i h0 h1=>refine Ac (c:=decide (0<=i)) (dZ h0) ⟨M,.refl,?_⟩;show Q (.bl (decide (i<=23))) M;rw[dZ h1];exact q
 | turns i h0 h1=>refine Ac (c:=decide (1<=i)) (dZ h0) ⟨M,.refl,?_⟩;show Q (.bl (decide (i<=9))) M;rw[dZ h1];exact q
def AO(G:Gl K mg a):Fq P w K mg base 2 a.bh AV:=by
 refine fq G.bh.toDG tS (λr u=>⟨_,(oY (pI (pD (sL G) r G.m (rK (ub u pb (pN qu rfl G.g qm (pY v0)) (sE rfl G.cJ)) pf)))
 (o9 (uI ft rfl (qG v0) (vN (n:=3) rfl (qI (sF 1 tS) (qI (sF 2 tS) (qI (sF 3 tS) uB))))
 (oY (pI (pD (sL G) r G.m (rK (pD (Cd G) r G.af (pY U1)) pf)))
 (oY (pI (pD (sL G) r G.m (rK (ub u pb U2 (sE rfl G.cK)) pf)))
 (o9 (pI (pD (sL G) r G.m (rK (ub u pb U3 (sE rfl G.cL)) pf))))))))),?_⟩)
 rintro ds M Q ⟨r,ps,rfl,Xu,h1,h8,mO,q⟩
 have el:((ps.map qy).length:Int)=ps.length:=by rw[cV]
 refine i' Xu (Ac (c:=decide ((1:Int)<=(ps.map qy).length)) (dZ (by omega)) ⟨_,by rw[dZ (show((ps.map qy).length:Int)<=8 by omega)],i' Xu ?_⟩);refine A8 (λδ M'=>M=M'/\∃x y z,δ=[some (.ref r),x,y,z]) (λδ M' j=>by rw[<-j.1];exact Xu) _ _ _ ⟨rfl,none,none,none,rfl⟩ ?_ ?_
 .rintro d hd δ M' ⟨rfl,x,y,z,rfl⟩ nx WZ
  obtain⟨p,hp,rfl⟩:=dF.mp hd;have o:=mO p hp;refine⟨rfl,⟨p.1,rfl,o.len,_,by rw[o.nm],?_⟩⟩;refine Ac (c:=decide ((1:Int)<=p.2.1)) (dZ o.l1) ⟨_,by rw[dZ (show p.2.1<=3 from o.l2)],?_⟩;refine Ac (c:=decide ((0:Int)<=p.2.2)) (dZ o.r1) ⟨_,by rw[dZ (show p.2.2<=9 from o.r2)],?_⟩;exact WZ _ _ ⟨rfl,_,_,_,rfl⟩
 .rintro δ M' ⟨rfl,x,y,z,rfl⟩
  exact⟨M,.refl,q⟩
def AX(G:Gl K mg a):Fq P w K mg base 3 a.bi AU:=by
 refine fq G.bi.toDG tT (λr u=>⟨_,(oY (pI (pD (sL G) r G.m (rK (qc u (pN qu rfl G.g qm (pY v0)) (sE rfl G.cM)) pf)))
 (o9 (uI ft rfl (qG v0) (vN (n:=3) rfl (qI (sF 2 tT) (qI (sF 3 tT) (qI (sF 4 tT) uB))))
 (oY (pI (pD (sL G) r G.m (rK (pD (Cd G) r G.af (pY U2)) pf)))
 (oY (pI (pD (sL G) r G.m (rK (qc u U3 (sE rfl G.cN)) pf)))
 (o9 (pI (pD (sL G) r G.m (rK (pD (zW G) r G.Q (qY v4 U1 (sE rfl G.cO))) pf))))))))),?_⟩)
 rintro ds M Q ⟨r,gs,pl,pn,rfl,Xu,hp,h3,mO,q⟩
 have el:((gs.map qD).length:Int)=gs.length:=by rw[cV]
 refine i' Xu ⟨_,by rw[dZ (show((gs.map qD).length:Int)<=3 by omega)],i' Xu ?_⟩;refine A8 (λδ M'=>M=M'/\∃x y z,δ=[some (.ref r),some (.ref pl),x,y,z]) (λδ M' j=>by rw[<-j.1];exact Xu) _ _ _ ⟨rfl,none,none,none,rfl⟩ ?_ ?_
 .rintro d hd δ M' ⟨rfl,x,y,z,rfl⟩ nx WZ
  obtain⟨g,hg,rfl⟩:=dF.mp hd;have o:=mO g hg;refine⟨rfl,⟨g.1,rfl,o.len,_,by rw[o.nm],?_⟩⟩;have hm:inD (.str g.2.1) [.str "all",.str "turns"]=true:=by rcases o.man with e|e<;>(rw[e];rfl)
  refine⟨rfl,rfl,.str "a group's manner is all or turns",eY (λb=>[D.bl b,D.str "a group's manner is all or turns"]) hm,?_⟩;refine⟨g.2.2,pn,pl,4,rfl,hp,o.oW,_,by rw[o.mem],?_⟩;exact WZ _ _ ⟨rfl,_,_,_,rfl⟩
 .rintro δ M' ⟨rfl,x,y,z,rfl⟩
  exact⟨M,.refl,q⟩
def C8(G:Gl K mg a):Fq P w K mg base 4 a.bk C4:=by
 refine fq G.bk.toDG tP (λr u=>⟨_,(oY (pI (pD (sL G) r G.m (rK (Ld G.b3 rfl (pF v0 pb)) pf)))
 (oY (pG 3 tP (Kq G.b3 rfl (pF v0 pb)))
 (oY (pG 4 tP (r6 v0 (sU pb) sT))
 (oY (pI (pD (sL G) r G.m (rK (qc u (pN qu rfl G.g qm (pY v4)) (pN qu rfl G.g qm (pY U3))) pf)))
 (oY (uI ft rfl (SQ rfl G.cH (rK U3 v4)) (vN (n:=2) rfl (qI (sF 5 tP) (qI (sF 6 tP) uB)))
 (o9 (pI (pD (sL G) r G.m (rK (pD (OG G) r G.bj (pT v5 (qY v6 U1 U2))) pf)))))
 (oY (pM (pC u (r6 U3 sT (sU pb)) (pJ (rK pf pf)))
 (o9 (pI (pD (sL G) r G.m (rK (qc u (pF v4 pb) (pF v4 pb)) pf))))
 pE)
 (o9 (pM (pC u (r6 U3 (sU pb) sT) (pJ (rK pf pf)))
 (o9 (pI (pD (sL G) r G.m (rK (qc u (pF v4 pb) (pF v4 pb)) pf))))
 pE)))))))),?_⟩)
 rintro ds M Q ⟨v,pl,nl,pn,nm,rfl,hp,hn,ok,q⟩
 have part:∀{k:Str} {d:D} {C:DK},xH pn nm k d->C (.bl true) M->Ji [.str k,d,.ref pl,.ref nl] M C:=λo c=>⟨_,_,pl,nl,pn,nm,rfl,hp,hn,o,c⟩;have need:∀{x:D} {C:DK},C .mH M->IG [.bl true,x] M C:=λc=>⟨_,rfl,c⟩;have ne:∀{x y:Str},x≠y->(!(x==y))=true:=λh=>by simpa using h
 have nei:∀{x y:Int},x≠y->(!(x==y))=true:=λh=>by simpa using h
 have WR:∃WS,qx WS M/\Q .mH WS:=⟨M,.refl,q⟩;cases v with
 | bar x ns=>obtain⟨h1,h2,h3⟩:=ok;refine⟨_,rfl,_,rfl,?_⟩;refine⟨rfl,_,_,pl,nl,pn,nm,rfl,hp,hn,.mX x h1,_,rfl,trivial,⟨rfl,_,_,pl,nl,pn,nm,rfl,hp,hn,.names ns h2 h3,_,rfl,trivial,?_⟩⟩;exact⟨oW rfl,oW rfl,WR⟩
 | shut x ns=>obtain⟨h1,h2,h3⟩:=ok;refine⟨_,rfl,_,rfl,?_⟩;refine⟨rfl,_,_,pl,nl,pn,nm,rfl,hp,hn,.name x h1,_,rfl,trivial,⟨rfl,_,_,pl,nl,pn,nm,rfl,hp,hn,.mG ns h2 h3,_,rfl,trivial,?_⟩⟩;exact⟨oW rfl,oW rfl,WR⟩
 | always x y=>obtain⟨h1,h2,h3⟩:=ok;refine⟨_,rfl,_,rfl,?_⟩;refine⟨rfl,_,_,pl,nl,pn,nm,rfl,hp,hn,.name x h1,_,rfl,trivial,⟨rfl,_,_,pl,nl,pn,nm,rfl,hp,hn,.name y h2,_,rfl,trivial,?_⟩⟩;refine⟨oW rfl,⟨_,by rw[ne h3],?_⟩⟩;exact⟨oW rfl,WR⟩
 | night x y f l=>obtain⟨h1,h2,h3,h4,h5,h6⟩:=ok;refine⟨_,rfl,_,rfl,?_⟩;refine⟨rfl,_,_,pl,nl,pn,nm,rfl,hp,hn,.name x h1,_,rfl,trivial,⟨rfl,_,_,pl,nl,pn,nm,rfl,hp,hn,.name y h2,_,rfl,trivial,⟨rfl,_,_,pl,nl,pn,nm,rfl,hp,hn,.hour f h4.1 h4.2,_,rfl,trivial,⟨rfl,_,_,pl,nl,pn,nm,rfl,hp,hn,.hour l h5.1 h5.2,_,rfl,trivial,?_⟩⟩⟩⟩;refine⟨oW rfl,⟨_,by rw[ne h3],?_⟩⟩;refine⟨oW rfl,⟨_,by rw[nei h6],?_⟩⟩;exact WR
 | busy x y=>obtain⟨h1,h2,h3⟩:=ok;refine⟨_,rfl,_,rfl,?_⟩;refine⟨rfl,_,_,pl,nl,pn,nm,rfl,hp,hn,.name x h1,_,rfl,trivial,⟨rfl,_,_,pl,nl,pn,nm,rfl,hp,hn,.name y h2,_,rfl,trivial,?_⟩⟩;refine⟨oW rfl,⟨_,by rw[ne h3],?_⟩⟩;exact⟨oW rfl,WR⟩
 | silent x y n=>obtain⟨h1,h2,h3,h4,h5⟩:=ok;refine⟨_,rfl,_,rfl,?_⟩;refine⟨rfl,_,_,pl,nl,pn,nm,rfl,hp,hn,.name x h1,_,rfl,trivial,⟨rfl,_,_,pl,nl,pn,nm,rfl,hp,hn,.name y h2,_,rfl,trivial,⟨rfl,_,_,pl,nl,pn,nm,rfl,hp,hn,.turns n h4 h5,_,rfl,trivial,?_⟩⟩⟩;refine⟨oW rfl,⟨_,by rw[ne h3],?_⟩⟩;exact⟨oW rfl,WR⟩
 | wait x=>refine⟨_,rfl,_,rfl,?_⟩;refine⟨rfl,_,_,pl,nl,pn,nm,rfl,hp,hn,.mX x ok,_,rfl,trivial,?_⟩;exact⟨oW rfl,oW rfl,WR⟩
 | breaks x=>refine⟨_,rfl,_,rfl,?_⟩;refine⟨rfl,_,_,pl,nl,pn,nm,rfl,hp,hn,.mX x ok,_,rfl,trivial,?_⟩;exact⟨oW rfl,oW rfl,WR⟩
def Aw(G:Gl K mg a):Fq P w K mg base 5 a.bl AN:=by
 refine fq G.bl.toDG uJ (λr u=>⟨_,(oY (pI (pD (sL G) r G.m (rK (qc u (pN qu rfl G.g qm (pY v0)) (sE rfl G.cP)) pf)))
 (o9 (uI ft rfl (qG v0) (vN (n:=2) rfl (qI (sF 3 uJ) (qI (sF 4 uJ) uB)))
 (o9 (pI (pD (C8 G) r G.bk (qY v4 U1 U2))))))),?_⟩)
 rintro ds M Q ⟨r,ws,pl,nl,pn,nm,rfl,Xu,hp,hn,h16,mO,q⟩
 have el:((ws.map uE).length:Int)=ws.length:=by rw[cV]
 refine i' Xu ⟨_,by rw[dZ (show((ws.map uE).length:Int)<=16 by omega)],i' Xu ?_⟩;refine A8 (λδ M'=>M=M'/\∃x y,δ=[some (.ref r),some (.ref pl),some (.ref nl),x,y]) (λδ M' j=>by rw[<-j.1];exact Xu) _ _ _ ⟨rfl,none,none,rfl⟩ ?_ ?_
 .rintro d hd δ M' ⟨rfl,x,y,rfl⟩ nx WZ
  obtain⟨v,hv,rfl⟩:=dF.mp hd;exact⟨rfl,⟨v.2,pl,nl,pn,nm,rfl,hp,hn,mO v hv,WZ _ _ ⟨rfl,_,_,rfl⟩⟩⟩
 .rintro δ M' ⟨rfl,x,y,rfl⟩
  exact⟨M,.refl,q⟩
structure pB where
 mG:List uu
 groups:List ui
 mE:List uW
noncomputable def pB.pn(l:pB):List Str:=l.mG.map (·.1)
noncomputable def pB.gn(l:pB):List Str:=l.groups.map (·.1)
noncomputable def pB.nm(l:pB):List Str:=l.pn++l.gn
structure qW(l:pB):Prop where
 p1:1<=l.mG.length
 p8:l.mG.length<=8
 po:∀p∈l.mG,Ey p
 g3:l.groups.length<=3
 go:∀g∈l.groups,Fy l.pn g
 nd:l.nm.Nodup
 w16:l.mE.length<=16
 wo:∀w∈l.mE,Bz l.pn l.nm w.2
def DH{ss:List Str}(h:ss.Nodup):wu ss=true:=by unfold wu;rw[Hs ss h];simp
def C0:qX:=λds M Q=>CC λr1 r2 r3 (l:pB)=>ds=[.ref r1,.ref r2,.ref r3]/\oJ M r1=some (l.mG.map qy)/\oJ M r2=some (l.groups.map qD)/\oJ M r3=some (l.mE.map uE)/\qW l/\Q .mH M
noncomputable def CJ:D->D
 | .tup (x::_)=>x
 | _=>.mH
def ym(ps:List uu):(ps.map qy).map CJ=(ps.map (·.1)).map D.str:=by rw[d6,d6];rfl
def yt(ps:List ui):(ps.map qD).map CJ=(ps.map (·.1)).map D.str:=by rw[d6,d6];rfl
def CH(G:Gl K mg a):Fq P w K mg base 6 a.bm C0:=by
 refine fq G.bm.toDG vR (λr u=>⟨_,(oY (pI (pD (AO G) r G.bh (pY v0)))
 (oY (wJ (i:=3) vR.nd rfl (Or.inl rfl) rfl (yb (ix:=[none]) (N':=["phone"])) (qG v0) (qz 0) rS (pF v0 pb))
 (oY (pI (pD (AX G) r G.bi (rK U1 U3)))
 (oY (pG 4 vR (pR U3 (qC rfl (yb (ix:=[none]) (N':=["group"])) (qG U1) (qz 0) rS (pF v0 pb))))
 (oY (pI (pD (sL G) r G.m (rK (pD (DJ G) r G.ag (pY v4)) pf)))
 (o9 (pI (pD (Aw G) r G.bl (qY U2 U3 v4))))))))),?_⟩)
 rintro ds M Q ⟨r1,r2,r3,l,rfl,h1,h2,h3,ok,q⟩
 have hz:=dM;have l1:=ok.p8;have l2:=ok.g3;refine⟨r1,l.mG,rfl,h1,ok.p1,ok.p8,ok.po,i' h1 ?_⟩;refine rh (f:=CJ) h1 _ [] _ (by rw[cV];simp only[dN];omega) (λd hd k hk=>?_) λp hp=>?_
 .obtain⟨x,_,rfl⟩:=dF.mp hd;exact hk
 rw[d9,ym];have s1:=qx.new (c:=.lst ((l.mG.map (·.1)).map D.str)) hp;have lp:oJ (pz M p (.lst ((l.mG.map (·.1)).map D.str))) p=some (l.pn.map D.str):=pA;generalize pz M p (.lst ((l.mG.map (·.1)).map D.str))=M1 at s1 lp ⊢;refine⟨r2,l.groups,p,l.pn,rfl,s1.lst h2,lp,ok.g3,ok.go,?_⟩;refine i' (s1.lst h2) (rh (f:=CJ) (s1.lst h2) _ [] _ (by rw[cV];simp only[dN];omega) (λd hd k hk=>?_) λp2 WY=>?_)
 .obtain⟨x,_,rfl⟩:=dF.mp hd;exact hk
 rw[d9,yt];have s2:=qx.new (c:=.lst ((l.groups.map (·.1)).map D.str)) WY;refine i' (s2.lst lp) (i' pA ⟨?_,λp3 hp3=>?_⟩)
 .rw[cV,cV,cV];show(l.mG.map (·.1)).length+_<=_;rw[cV];omega
 have en:l.pn.map D.str++(l.groups.map (·.1)).map D.str=l.nm.map D.str:=by unfold pB.nm;rw[dQ];rfl
 rw[en];have s3:=s2.trans (qx.new (c:=.lst (l.nm.map D.str)) hp3);have l3:=@pA (pz M1 p2 (.lst ((l.groups.map (·.1)).map D.str))) p3 (l.nm.map D.str);generalize pz (pz M1 p2 (.lst ((l.groups.map (·.1)).map D.str))) p3 (.lst (l.nm.map D.str))=M3 at s3 l3 ⊢;have ln:l.nm.length<4000:=by unfold pB.nm pB.pn pB.gn;rw[cZ,cV,cV];omega
 refine⟨_,l.nm,rfl,.inr ⟨p3,rfl,l3⟩,ln,_,by rw[DH ok.nd],?_⟩;exact⟨r3,l.mE,p,p3,l.pn,l.nm,rfl,s3.lst (s1.lst h3),s3.lst lp,l3,ok.w16,ok.wo,M,s1.trans s3,q⟩
noncomputable def QM(ph gr ws on pr gd:Addr):List (Str×D):=[("phones",.ref ph),("groups",.ref gr),("wishes",.ref ws),("on",.ref on),("phone_rows",.ref pr),("group_rows",.ref gd)]
noncomputable def RC(l:pB):List (qS×D):=l.mG.map λp=>(Sum.inr p.1,qy p)
noncomputable def He(l:pB):List (qS×D):=l.groups.map λg=>(Sum.inr g.1,qD g)
def sC(a:Ad)(M:Mp)(rs:List Addr)(ws:List uW):Prop:=rs.length=ws.length/\∀(i:Nat) (r:Addr) (v:uW),rs[i]?=some r->ws[i]?=some v->M r=some (.ins (v.2.cls a) v.2.nC)
def sP(a:Ad)(M:Mp)(p:Addr)(l:pB):Prop:=S5 λph gr ws on pr gd (rs:List Addr)=>M p=some (.ins a.h (QM ph gr ws on pr gd))/\oJ M ph=some (l.mG.map qy)/\oJ M gr=some (l.groups.map qD)/\
 oJ M ws=some (rs.map D.ref)/\oJ M on=some (l.mE.map λw=>D.bl w.1)/\zt M pr=some (RC l)/\zt M gd=some (He l)/\sC a M rs l.mE
def sC.keep{a:Ad}{M M':Mp}{p:Addr}{rs:List Addr}{ws:List uW}(h:sC a M rs ws)(k:sr p M M')(n:∀r∈rs,r≠p):sC a M' rs ws:=⟨h.1,λi r v e1 e2=>k r _ (n r (fk e1)) (h.2 i r v e1 e2)⟩
def sC.sub{a:Ad}{M M':Mp}{rs:List Addr}{ws:List uW}(h:sC a M rs ws)(k:qx M M'):sC a M' rs ws:=⟨h.1,λi r v e1 e2=>k r _ (h.2 i r v e1 e2)⟩
def sP.sub{a:Ad}{M M':Mp}{p:Addr}{l:pB}(h:sP a M p l)(s:qx M M'):sP a M' p l:=by obtain⟨ph,gr,ws,on,pr,gd,rs,h1,h2,h3,h4,h5,h6,h7,h8⟩:=h;exact⟨ph,gr,ws,on,pr,gd,rs,s _ _ h1,s.lst h2,s.lst h3,s.lst h4,s.lst h5,s.dk h6,s.dk h7,h8.sub s⟩
def Od(a:Ad):qX:=λds M Q=>FJ λp r1 r2 r3 (l:pB)=>ds=[.ref p,.ref r1,.ref r2,.ref r3]/\M p=some (.ins a.h [])/\oJ M r1=some (l.mG.map qy)/\oJ M r2=some (l.groups.map qD)/\oJ M r3=some (l.mE.map uE)/\qW l/\
 ∀M',sr p M M'->sP a M' p l->(∀WS,(∀b c,(b=p\/M b=none)->M' b=some c->WS b=some c)->sP a WS p l)->Q .mH M'
def rB{M N:Mp}{p x:Addr}{c:uT}(k:sr p M N)(hp:N p=some c)(h:N x=none):M x=none:=by
 cases e:M x with
 | none=>rfl
 | some d=>
  have n:x≠p:=λz=>by rw[z,hp]at h;cases h
  rw[k x d n e]at h;cases h
def xM{M:Mp}{a:Addr}{es:List (qS×D)}(h:zt M a=some es):M a=some (.dk es):=by
 unfold zt at h;split at h
 .rename_i e;rw[e];cases h;rfl
 .cases h
theorem wQ{α:Type}(f:α->Str)(g:α->D):∀l:List α,wD (l.map λx=>D.tup [.str (f x),g x])=some (l.map λx=>(Sum.inr (f x),g x))
 | []=>rfl
 | x::r=>by show(wD (r.map λx=>D.tup [.str (f x),g x])).map ((Sum.inr (f x),g x)::·)=_;rw[wQ f g r];rfl
def Kn{ss:List Str}(h:ss.Nodup):(ss.map λx=>(Sum.inr x:qS)).Nodup:=by
 induction ss with
 | nil=>exact eK
 | cons x r ih=>obtain⟨h1,h2⟩:=dS.mp h;rw[dY];refine dS.mpr ⟨λz=>h1 ?_,ih h2⟩;obtain⟨y,hy,e⟩:=dF.mp z;cases e;exact hy
def yq{α:Type}{f:α->Str}{g:α->D}{l:List α}(h:(l.map f).Nodup):((l.map λx=>((Sum.inr (f x):qS),g x)).map (·.1)).Nodup:=by rw[d6];have:=Kn h;rw[d6]at this;exact this
noncomputable def A6(d:D):D:=.tup [CJ d,d]
noncomputable def Wl:D->D
 | .tup (x::_)=>x
 | _=>.mH
def RU(ws:List uW):(ws.map uE).map Wl=ws.map λw=>D.bl w.1:=by rw[d6];rfl
def GK(ps:List uu):(ps.map qy).map A6=ps.map λp=>D.tup [.str p.1,qy p]:=by rw[d6];rfl
def FV(ps:List ui):(ps.map qD).map A6=ps.map λp=>D.tup [.str p.1,qD p]:=by rw[d6];rfl
def sC.snoc{a:Ad}{M:Mp}{rs:List Addr}{ws:List uW}{r:Addr}{v:uW}(h:sC a M rs ws)(n:M r=none):sC a (pz M r (.ins (v.2.cls a) v.2.nC)) (rs++[r]) (ws++[v]):=by
 refine⟨by rw[cZ,cZ,h.1];rfl,λi r' v' e1 e2=>?_⟩;by_cases hi:i<rs.length
 .rw[eZ hi]at e1;rw[eZ (by rw[<-h.1];exact hi)]at e2;have:=h.2 i r' v' e1 e2;rw[tU (S4 this n)];exact this
 .have Yl:i=rs.length:=by have:=(cX.mp e1).1;rw[cZ,dP]at this;omega
  subst Yl;rw[eV (dw _)]at e1;rw[h.1,eV (dw _)]at e2;simp only[hU,iD,jn]at e1 e2;subst e1 e2;exact pL
def Of(G:Gl K mg a):Fq P w K mg base 7 a.al (Od a):=by
 refine fq G.al.toDG EY (λr u=>⟨_,(oY (pI (pD (CH G) r G.bm (qY U1 U2 U3)))
 (oY (pV v0 (pP rZ rfl G.q rN (pY U1)))
 (oY (pV v0 (pP rZ rfl G.q rN (pY U2)))
 (oY (pV v0 (qC rfl (yb (ix:=[none,none]) (N':=["on","wish"])) (qG U3) (vN (n:=2) rfl (qI (qz 0) (qI (qz 1) uB))) rS (pD (HQ G) r G.bg (pY U1))))
 (oY (pV v0 (qC rfl (yb (ix:=[none,none]) (N':=["on","wish"])) (qG U3) (vN (n:=2) rfl (qI (qz 0) (qI (qz 1) uB))) rS v0))
 (oY (pV v0 (pP (EU rfl) rfl G.bU Fz (pY (qC rfl (yb (ix:=[none]) (N':=["phone"])) (qG U1) (qz 0) rS (pJ (rK (pF v0 pb) v0))))))
 (o9 (pV v0 (pP (EU rfl) rfl G.bU Fz (pY (qC rfl (yb (ix:=[none]) (N':=["group"])) (qG U2) (qz 0) rS (pJ (rK (pF v0 pb) v0))))))))))))),?_⟩)
 rintro ds M Q ⟨p,r1,r2,r3,l,rfl,hp,h1,h2,h3,ok,q⟩
 have hz:=dM;have l1:=ok.p8;have l2:=ok.g3;have l3:=ok.w16;refine⟨r1,r2,r3,l,rfl,h1,h2,h3,ok,?_⟩;refine i' h1 λph hph=>?_;obtain⟨n1,e1,k1,c1,p1⟩:=sX (fs':=[("phones",.ref ph)]) (c:=.lst (l.mG.map qy)) hp hph;refine oZ e1 ⟨(G.aa "phones" rfl),by show 0<1000;decide,?_⟩;show tQ _ _ _ _ (pz (pz M ph (.lst (l.mG.map qy))) p (.ins a.h [("phones",.ref ph)]));generalize pz (pz M ph (.lst (l.mG.map qy))) p (.ins a.h [("phones",.ref ph)])=N1 at k1 c1 p1 ⊢;have Xt:=k1.lst (pO h1 hp) h1;have h2':=k1.lst (pO h2 hp) h2;have Zm:=k1.lst (pO h3 hp) h3;have f1:oJ N1 ph=some (l.mG.map qy):=rT c1;refine i' h2' λgr hgr=>?_;obtain⟨n2,e2,k2,c2,p2⟩:=sX (fs':=[("phones",.ref ph),("groups",.ref gr)]) (c:=.lst (l.groups.map qD)) p1 hgr;refine oZ e2 ⟨(G.aa "groups" rfl),by show 1<1000;decide,?_⟩;show tQ _ _ _ _ (pz (pz N1 gr (.lst (l.groups.map qD))) p (.ins a.h [("phones",.ref ph),("groups",.ref gr)]));generalize pz (pz N1 gr (.lst (l.groups.map qD))) p (.ins a.h [("phones",.ref ph),("groups",.ref gr)])=N2 at k2 c2 p2 ⊢;have g1:=k2.lst (pO Xt p1) Xt;have g2:=k2.lst (pO h2' p1) h2';have g3:=k2.lst (pO Zm p1) Zm;have f2:=k2.lst (pO f1 p1) f1;have f3:oJ N2 gr=some (l.groups.map qD):=rT c2;have kk2:=k1.trans k2;have m2:M gr=none:=rB k1 p1 hgr;clear Xt h2' Zm f1 c1 c2 k1 k2 e1 e2;refine i' g3 ?_;refine Bb (l.mE.map uE) (λpre acc δ Mx=>(∃x y,δ=[x,y])/\qx N2 Mx/\∃rs:List Addr,acc=rs.map D.ref/\(∀r∈rs,N2 r=none)/\sC a Mx rs (l.mE.take pre.length)) (λpre acc δ Mx j=>j.2.1.lst g3) _ [] [] _ _ rfl (by rw[cV];simp only[dN];omega) ⟨⟨none,none,rfl⟩,.refl,[],rfl,λr hr=>absurd hr (dE),rfl,λi r v e=>by simp at e⟩ ?_ ?_
 .rintro pre d post e acc δ Mx ⟨⟨x,y,rfl⟩,sx,rs,rfl,fr,wa⟩ k hk
  obtain⟨v,hv,rfl⟩:∃v,l.mE[pre.length]?=some v/\d=uE v:=by
   have:(l.mE.map uE)[pre.length]?=some d:=by rw[<-e];simp
   rw[dD]at this;cases z:l.mE[pre.length]? with
   | none=>rw[z]at this;cases this
   | some v=>rw[z]at this;exact⟨v,rfl,(dn this).symm⟩
  refine⟨rfl,⟨v.2,rfl,λr hr=>hk _ _ _ ⟨⟨_,_,rfl⟩,sx.trans (.new hr),rs++[r],?_,λr' hr'=>?_,?_⟩⟩⟩
  .rw[dQ];rfl
  .rcases dU.mp hr' with z|z
   .exact fr r' z
   .rw[dv.mp z];exact sx.none hr
  .rw[cZ,dP,gW,hv];exact wa.snoc hr
 rintro acc δ Mx ⟨⟨x,y,rfl⟩,sx,rs,rfl,fr,wa⟩ ws hws
 have wa:sC a Mx rs l.mE:=by rw[cV,fG]at wa;exact wa
 obtain⟨n3,e3,k3,c3,p3⟩:=sX (fs':=[("phones",.ref ph),("groups",.ref gr),("wishes",.ref ws)]) (c:=.lst (rs.map D.ref)) (sx _ _ p2) hws;refine oZ e3 ⟨(G.aa "wishes" rfl),by show 2<1000;decide,?_⟩;show tQ _ _ _ _ (pz (pz Mx ws (.lst (rs.map D.ref))) p (.ins a.h [("phones",.ref ph),("groups",.ref gr),("wishes",.ref ws)]));generalize pz (pz Mx ws (.lst (rs.map D.ref))) p (.ins a.h [("phones",.ref ph),("groups",.ref gr),("wishes",.ref ws)])=N3 at k3 c3 p3 ⊢;have px:=sx _ _ p2;have i1:=k3.lst (pO (sx.lst g1) px) (sx.lst g1);have i2:=k3.lst (pO (sx.lst g2) px) (sx.lst g2);have i3:=k3.lst (pO (sx.lst g3) px) (sx.lst g3);have f4:=k3.lst (pO (sx.lst f2) px) (sx.lst f2);have f5:=k3.lst (pO (sx.lst f3) px) (sx.lst f3);have f6:oJ N3 ws=some (rs.map D.ref):=rT c3;have rp:∀r∈rs,r≠p:=λr hr z=>by have:=fr r hr;rw[z,p2]at this;cases this
 have w3:=wa.keep k3 rp;have kk3:=(kk2.trans sx.keep).trans k3;have m3:M ws=none:=rB (kk2.trans sx.keep) px hws;have mr:∀r∈rs,M r=none:=λr hr=>rB kk2 p2 (fr r hr);clear g1 g2 g3 f2 f3 c3 k3 e3 wa px kk2;refine i' i3 (Ci (f:=Wl) (λδ=>∃x y,δ=[x,y]) i3 _ [] _ ⟨none,none,rfl⟩ (by rw[cV];simp only[dN];omega) (λd hd δ hj k hk=>?_) λon ZS=>?_)
 .obtain⟨x,y,rfl⟩:=hj;obtain⟨v,_,rfl⟩:=dF.mp hd;exact⟨rfl,hk _ ⟨_,_,rfl⟩⟩
 rw[d9,RU];obtain⟨n4,e4,k4,c4,p4⟩:=sX (fs':=[("phones",.ref ph),("groups",.ref gr),("wishes",.ref ws),("on",.ref on)]) (c:=.lst (l.mE.map λw=>D.bl w.1)) p3 ZS;refine oZ e4 ⟨(G.aa "on" rfl),by show 3<1000;decide,?_⟩;show tQ _ _ _ _ (pz (pz N3 on (.lst (l.mE.map λw=>D.bl w.1))) p (.ins a.h [("phones",.ref ph),("groups",.ref gr),("wishes",.ref ws),("on",.ref on)]));generalize pz (pz N3 on (.lst (l.mE.map λw=>D.bl w.1))) p (.ins a.h [("phones",.ref ph),("groups",.ref gr),("wishes",.ref ws),("on",.ref on)])=N4 at k4 c4 p4 ⊢;have j1:=k4.lst (pO i1 p3) i1;have j2:=k4.lst (pO i2 p3) i2;have f7:=k4.lst (pO f4 p3) f4;have f8:=k4.lst (pO f5 p3) f5;have f9:=k4.lst (pO f6 p3) f6;have fa:oJ N4 on=some (l.mE.map λw=>D.bl w.1):=rT c4;have w4:=w3.keep k4 rp;have YM:=kk3.trans k4;have m4:M on=none:=rB kk3 p3 ZS;clear i1 i2 i3 f4 f5 f6 c4 k4 e4 w3 kk3;refine i' j1 (rh (f:=A6) j1 _ [] _ (by rw[cV];simp only[dN];omega) (λd hd k hk=>?_) λq1 XH=>?_)
 .obtain⟨v,_,rfl⟩:=dF.mp hd;exact⟨oW rfl,hk⟩
 rw[d9,GK];have Zn:=qx.new (c:=.lst (l.mG.map λp=>D.tup [.str p.1,qy p])) XH;refine i' pA (i' (wQ (λp:uu=>p.1) qy l.mG) ⟨yq (iy (List.sublist_append_left _ _) ok.nd),λpr hpr=>?_⟩);obtain⟨n5,e5,k5,c5,p5⟩:=sX (fs':=[("phones",.ref ph),("groups",.ref gr),("wishes",.ref ws),("on",.ref on),("phone_rows",.ref pr)]) (c:=.dk (l.mG.map λx=>(Sum.inr x.1,qy x))) (Zn _ _ p4) hpr;refine oZ e5 ⟨(G.aa "phone_rows" rfl),by show 4<1000;decide,?_⟩;have k5:=Zn.keep.trans k5;have YA:vQ "phone_rows" (.ref pr) [("phones",.ref ph),("groups",.ref gr),("wishes",.ref ws),("on",.ref on)]=([("phones",.ref ph),("groups",.ref gr),("wishes",.ref ws),("on",.ref on),("phone_rows",.ref pr)]:List (Str×D)):=rfl;rw[YA];generalize pz (pz (pz N4 q1 (.lst (l.mG.map λp=>D.tup [.str p.1,qy p]))) pr (.dk (l.mG.map λx=>(Sum.inr x.1,qy x)))) p (.ins a.h [("phones",.ref ph),("groups",.ref gr),("wishes",.ref ws),("on",.ref on),("phone_rows",.ref pr)])=N5 at k5 c5 p5 ⊢;have mm:=k5.lst (pO j2 p4) j2;have fb:=k5.lst (pO f7 p4) f7;have fc:=k5.lst (pO f8 p4) f8;have fd:=k5.lst (pO f9 p4) f9;have fe:=k5.lst (pO fa p4) fa;have ff:zt N5 pr=some (RC l):=Cf c5;have w5:=w4.keep k5 rp;have YN:=YM.trans k5;have m5:M pr=none:=rB (YM.trans Zn.keep) (Zn _ _ p4) hpr;clear j1 j2 f7 f8 f9 fa c5 k5 e5 w4 YM;refine i' mm (rh (f:=A6) mm _ [] _ (by rw[cV];simp only[dN];omega) (λd hd k hk=>?_) λq2 YB=>?_)
 .obtain⟨v,_,rfl⟩:=dF.mp hd;exact⟨oW rfl,hk⟩
 rw[d9,FV];have sq2:=qx.new (c:=.lst (l.groups.map λg=>D.tup [.str g.1,qD g])) YB;refine i' pA (i' (wQ (λp:ui=>p.1) qD l.groups) ⟨yq (iy (js _ _) ok.nd),λgd hgd=>?_⟩);obtain⟨n6,e6,k6,c6,p6⟩:=sX (fs':=QM ph gr ws on pr gd) (c:=.dk (He l)) (sq2 _ _ p5) hgd;have k6:=sq2.keep.trans k6;refine oZ e6 ⟨(G.aa "group_rows" rfl),by show 5<1000;decide,_,.refl,?_⟩;have m6:M gd=none:=rB (YN.trans sq2.keep) (sq2 _ _ p5) hgd;have w6:=w5.keep k6 rp;have y1:=k6.lst (pO fb p5) fb;have y2:=k6.lst (pO fc p5) fc;have y3:=k6.lst (pO fd p5) fd;have y4:=k6.lst (pO fe p5) fe;have y5:=k6.dk (BA ff p5) ff;refine q _ (YN.trans k6) ⟨ph,gr,ws,on,pr,gd,rs,p6,y1,y2,y3,y4,y5,Cf c6,w6⟩ λWS hs=>?_;exact⟨ph,gr,ws,on,pr,gd,rs,hs _ _ (.inl rfl) p6,rT (hs _ _ (.inr hph) (pW y1)),rT (hs _ _ (.inr m2) (pW y2)),rT (hs _ _ (.inr m3) (pW y3)),rT (hs _ _ (.inr m4) (pW y4)),Cf (hs _ _ (.inr m5) (xM y5)),Cf (hs _ _ (.inr m6) c6),w6.1,λi r v e1 e2=>hs _ _ (.inr (mr r (fk e1))) (w6.2 i r v e1 e2)⟩
theorem xS{α:Type}(f:α->Str)(g:α->D)(k:Str):∀l:List α,vk (l.map λx=>((Sum.inr (f x):qS),g x)) (Sum.inr k)=(l.find? λx=>decide (f x=k)).map g
 | []=>rfl
 | x::r=>by
  have ih:=xS f g k r;unfold vk at ih ⊢;rw[dY,fK,fK];by_cases h:f x=k
  .have h':decide ((Sum.inr (f x):qS)=Sum.inr k)=true:=dZ (by rw[h]);simp[h]
  .have h':¬(Sum.inr (f x):qS)=Sum.inr k:=λz=>h (jU z);simp only[h,h',decide_false];exact ih
noncomputable def pB.mX(l:pB)(x:Str):Option uu:=l.mG.find? λp=>decide (p.1=x)
noncomputable def pB.group(l:pB)(x:Str):Option ui:=l.groups.find? λg=>decide (g.1=x)
noncomputable def pB.mD(l:pB)(x:Str):List Str:=(l.group x).elim [x] λg=>g.2.2
noncomputable def pB.mL(l:pB)(x:Str):Str:=(l.group x).elim "one" λg=>g.2.1
def F1(l:pB)(x:Str):vk (RC l) (Sum.inr x)=(l.mX x).map qy:=xS (λp:uu=>p.1) qy x l.mG
def vV(l:pB)(x:Str):vk (He l) (Sum.inr x)=(l.group x).map qD:=xS (λp:ui=>p.1) qD x l.groups
def yA(a:Ad):qX:=λds M Q=>Ca λp (l:pB)=>ds=[.ref p]/\sP a M p l/\l.mG.length<=100/\∀q,M q=none->Q (.ref q) (pz M q (.lst (l.pn.map D.str)))
def EN(a:Ad):qX:=λds M Q=>Ca λp (l:pB)=>ds=[.ref p]/\sP a M p l/\l.mG.length<=100/\l.groups.length<=100/\∀q,M q=none->Q (.ref q) (pz M q (.lst (l.nm.map D.str)))
def Fe(a:Ad):qX:=λds M Q=>CC λp x v (l:pB)=>ds=[.ref p,.str x]/\sP a M p l/\l.mX x=some v/\Q (.int v.2.1) M
def GH(a:Ad):qX:=λds M Q=>CC λp x v (l:pB)=>ds=[.ref p,.str x]/\sP a M p l/\l.mX x=some v/\Q (.int v.2.2) M
def zT(a:Ad):qX:=λds M Q=>CK λp x (l:pB)=>ds=[.ref p,.str x]/\sP a M p l/\∀q,M q=none->Q (.ref q) (pz M q (.lst ((l.mD x).map D.str)))
def CQ(a:Ad):qX:=λds M Q=>CK λp x (l:pB)=>ds=[.ref p,.str x]/\sP a M p l/\Q (.str (l.mL x)) M
def sv(G:Gl K mg a):Fq P w K mg base 1 a.N (yA a):=by
 refine fq G.N.toDG x8 (λr u=>⟨_,(o9 (pq (qC rfl (yb (ix:=[none]) (N':=["phone"])) (qG (pk v0)) (qz 0) rS (pF v0 pb)))),?_⟩)
 rintro ds M Q ⟨p,l,rfl,hp,hl,q⟩
 have hz:=dM;obtain⟨ph,gr,ws,on,pr,gd,rs,h1,h2,h3,h4,h5,h6,h7,h8⟩:=hp;refine oZ h1 (i' rfl (i' h2 ?_));refine rh (f:=CJ) h2 _ [] _ (by rw[cV];simp only[dN];omega) (λd hd k hk=>?_) λq1 XH=>?_
 .obtain⟨x,_,rfl⟩:=dF.mp hd;exact hk
 rw[d9,ym];exact⟨_,.refl,q q1 XH⟩
def yi(G:Gl K mg a):Fq P w K mg base 2 a.am (EN a):=by
 refine fq G.am.toDG Di (λr u=>⟨_,(o9 (pq (pR (vC v0 G.h.toCls G.N (sv G) r) (qC rfl (yb (ix:=[none]) (N':=["group"])) (qG (pk v0)) (qz 0) rS (pF v0 pb))))),?_⟩)
 rintro ds M Q ⟨p,l,rfl,hp,hl,hl2,q⟩
 have hz:=dM;have W4:=hp;obtain⟨ph,gr,ws,on,pr,gd,rs,h1,h2,h3,h4,h5,h6,h7,h8⟩:=hp;refine oZ h1 ⟨rfl,_,⟨rfl,rfl⟩,p,l,rfl,W4,hl,λq1 XH=>?_⟩;have s1:=qx.new (c:=.lst (l.pn.map D.str)) XH;have e1:=@pA M q1 (l.pn.map D.str);generalize pz M q1 (.lst (l.pn.map D.str))=M1 at s1 e1 ⊢;have Zm:=s1.lst h3;refine oZ (s1 _ _ h1) (i' rfl (i' Zm ?_));refine rh (f:=CJ) Zm _ [] _ (by rw[cV];simp only[dN];omega) (λd hd k hk=>?_) λq2 YB=>?_
 .obtain⟨x,_,rfl⟩:=dF.mp hd;exact hk
 rw[d9,yt];have s2:=qx.new (c:=.lst ((l.groups.map (·.1)).map D.str)) YB;refine i' (s2.lst e1) (i' pA ⟨?_,λq3 hq3=>?_⟩)
 .rw[cV,cV,cV];show(l.mG.map (·.1)).length+_<=_;rw[cV];omega
 have en:l.pn.map D.str++(l.groups.map (·.1)).map D.str=l.nm.map D.str:=by unfold pB.nm;rw[dQ];rfl
 rw[en];exact⟨_,(s1.trans s2).upd,q q3 ((s1.trans s2).none hq3)⟩
def Dd(G:Gl K mg a):Fq P w K mg base 1 a.bG (Fe a):=by
 refine fq G.bG.toDG CT (λr u=>⟨_,(o9 (pq (pF (yS u (pk v0) U1) pb))),?_⟩)
 rintro ds M Q ⟨p,x,v,l,rfl,hp,hv,q⟩
 obtain⟨ph,gr,ws,on,pr,gd,rs,h1,h2,h3,h4,h5,h6,h7,h8⟩:=hp;exact oZ h1 (i' rfl (i' rfl (i' h6 (i' (x:=qy v) (by rw[F1,hv];rfl) ⟨M,.refl,q⟩))))
def zc(G:Gl K mg a):Fq P w K mg base 1 a.aO (GH a):=by
 refine fq G.aO.toDG EG (λr u=>⟨_,(o9 (pq (pF (yS u (pk v0) U1) pb))),?_⟩)
 rintro ds M Q ⟨p,x,v,l,rfl,hp,hv,q⟩
 obtain⟨ph,gr,ws,on,pr,gd,rs,h1,h2,h3,h4,h5,h6,h7,h8⟩:=hp;exact oZ h1 (i' rfl (i' rfl (i' h6 (i' (x:=qy v) (by rw[F1,hv];rfl) ⟨M,.refl,q⟩))))
def uk(G:Gl K mg a):Fq P w K mg base 1 a.Y (zT a):=by
 refine fq G.Y.toDG yT (λr u=>⟨_,(oY (pM (KU u U1 (pk v0))
 (o9 (pq (pP rZ rfl G.q rN (pY (pF (yS u (pk v0) U1) pb)))))
 pE)
 (o9 (pq (qV (pY U1))))),?_⟩)
 rintro ds M Q ⟨p,x,l,rfl,hp,q⟩
 obtain⟨ph,gr,ws,on,pr,gd,rs,h1,h2,h3,h4,h5,h6,h7,h8⟩:=hp;refine oZ h1 (i' rfl (i' h7 ?_));cases e:l.group x with
 | none=>refine Lg (c:=(vk (He l) (Sum.inr x)).isSome) (by rw[vV,e];rfl) ⟨oW rfl,λq1 XH=>⟨_,.refl,?_⟩⟩;have:=q q1 XH;unfold pB.mD at this;rw[e]at this;exact this
 | some g=>refine Ac (c:=(vk (He l) (Sum.inr x)).isSome) (by rw[vV,e];rfl) (oZ h1 (i' rfl (i' rfl (i' h7 (i' (x:=qD g) (by rw[vV,e];rfl) λq1 XH=>⟨_,.refl,?_⟩)))));have:=q q1 XH;unfold pB.mD at this;rw[e]at this;exact this
def xi(G:Gl K mg a):Fq P w K mg base 1 a.aM (CQ a):=by
 refine fq G.aM.toDG Bl (λr u=>⟨_,(oY (pM (KU u U1 (pk v0))
 (o9 (pq (pF (yS u (pk v0) U1) pb)))
 pE)
 (o9 (pq pf))),?_⟩)
 rintro ds M Q ⟨p,x,l,rfl,hp,q⟩
 obtain⟨ph,gr,ws,on,pr,gd,rs,h1,h2,h3,h4,h5,h6,h7,h8⟩:=hp;refine oZ h1 (i' rfl (i' h7 ?_));cases e:l.group x with
 | none=>refine Lg (c:=(vk (He l) (Sum.inr x)).isSome) (by rw[vV,e];rfl) ⟨M,.refl,?_⟩;unfold pB.mL at q;rw[e]at q;exact q
 | some g=>refine Ac (c:=(vk (He l) (Sum.inr x)).isSome) (by rw[vV,e];rfl) (oZ h1 (i' rfl (i' rfl (i' h7 (i' (x:=qD g) (by rw[vV,e];rfl) ⟨M,.refl,?_⟩)))));unfold pB.mL at q;rw[e]at q;exact q
noncomputable def P':List Int:=[1,1,2,2,3]
noncomputable def P7:List Int:=[0,1,1,2,5,9]
noncomputable def Pb:List Str:=["all","turns"]
noncomputable def Gc(t:List Int)(i:Int):Int:=t.getD i.toNat 0
noncomputable def vL(s:Int)(i:Nat):uu:=(xC s (0+(i:Nat)),Gc P' (qh (s+17*(0+(i:Nat))*(0+(i:Nat))) 16807 5),Gc P7 (qh (s+17*(0+(i:Nat))*(0+(i:Nat))) 39373 6))
noncomputable def rG(s m:Int):Nat:=(2+qh s 48271 (m - 1)).toNat
noncomputable def qp(s m:Int):List uu:=(List.range (rG s m)).map (vL s)
noncomputable def zF(s:Int)(own:List Str)(i:Nat):ui:=(xC s (8+(0+(i:Nat))),Cr Pb (qh (s+5*(0+(i:Nat))) 742938285 2),vD own (s+11*(0+(i:Nat))) 4)
noncomputable def vo(s:Int):Nat:=(qh s 69621 3).toNat
noncomputable def qQ(s:Int)(own:List Str):List ui:=(List.range (vo s)).map (zF s own)
def F9{ts:List Int}{i:Int}(h0:0<=i)(h1:i<ts.length):wj (ts.map D.int) i=some (D.int (Gc ts i)):=by
 obtain⟨n,rfl⟩:=eC h0;have YG:n<ts.length:=by omega
 refine uV ?_;rw[dD,cY YG];simp[Gc,YG]
def BC{n:Nat}{pre post:List D}{d:D}(e:pre++d::post=(List.range n).map λi=>D.int (0+(i:Nat))):d=.int (0+(pre.length:Nat))/\pre.length<n:=by
 have h:((List.range n).map λi=>D.int (0+(i:Nat)))[pre.length]?=some d:=by rw[<-e];simp
 have hl:pre.length<n:=by
  have:=(cX.mp h).1
  simpa using this
 rw[dD,iW hl]at h;exact⟨(dn h).symm,hl⟩
def BF{α β:Type}(f:Nat->α)(g:α->β)(n:Nat):((List.range n).map f).map g++[g (f n)]=((List.range (n+1)).map f).map g:=by rw[iS,dQ,dQ];rfl
def HD:qX:=λds M Q=>Ca λs m=>ds=[.int s,.int m]/\2<=m/\m<=100/\∀q,M q=none->Q (.ref q) (pz M q (.lst ((qp s m).map qy)))
def Hf:qX:=λds M Q=>CK λs o own=>ds=[.int s,.ref o]/\oJ M o=some (own.map D.str)/\own≠[]/\own.length<=64/\∀q,M q=none->Q (.ref q) (pz M q (.lst ((qQ s own).map qD)))
def yz{s m:Int}(h2:2<=m)(h:m<=100):rG s m<=100/\2<=rG s m:=by have d0:=qR (c:=s) (f:=48271) (m:=m - 1) (by omega);have d1:=qF (c:=s) (f:=48271) (m:=m - 1) (by omega);unfold rG;omega
def wm{s:Int}:vo s<=3:=by have d0:=qR (c:=s) (f:=69621) (m:=3) (by decide);have d1:=qF (c:=s) (f:=69621) (m:=3) (by decide);unfold vo;omega
def Hq(G:Gl K mg a):Fq P w K mg base 2 a.bn HD:=by
 refine fq G.bn.toDG uC (λr u=>⟨_,(oY (pG 2 uC (qV sR))
 (oY (uI ft rfl (wg rfl G.ab (pY (pR pb (pD (qB G) r G.i (qY v0 pb (pR U1 pb)))))) (sF 3 uC)
 (oY (pG 4 uC (pF (pJ (pT pb (pT pb (qY pb pb pb)))) (pD (qB G) r G.i (qY (pR v0 (pR (pR pb U3) U3)) pb pb))))
 (o9 (pI (rH U2 (pY (pJ (qY (pD (IR G) r G.ah (rK v0 U3)) v4 (pF (pJ (pT pb (pT pb (pT pb (qY pb pb pb))))) (pD (qB G) r G.i (qY (pR v0 (pR (pR pb U3) U3)) pb pb)))))))))))
 (o9 (pq U2)))),?_⟩)
 rintro ds M Q ⟨s,m,rfl,h2,h100,q⟩
 have hz:=dM;have d0:=qR (c:=s) (f:=48271) (m:=m - 1) (by omega);have d1:=qF (c:=s) (f:=48271) (m:=m - 1) (by omega);have nl:=(yz (s:=s) h2 h100).1;refine⟨oW rfl,λr hr=>⟨s,_,_,rfl,by show 0<m - 1;omega,rfl,⟨?_,?_⟩,?_⟩⟩
 .show -(2 ^ 62)<=2+qh s 48271 (m - 1);omega
 .show 2+qh s 48271 (m - 1)<2 ^ 62;omega
 refine wq ((List.range (rG s m)).map λi=>D.int (0+(i:Nat))) (λpre δ M'=>M'=pz M r (.lst (((List.range pre.length).map (vL s)).map qy))/\∃x y,δ=[some (.int s),some (.int m),some (.ref r),x,y]) (λ_ _ _ _=>trivial) _ [] _ _ rfl ⟨rfl,none,none,rfl⟩ ?_ ?_
 .rintro pre d post e δ M' ⟨rfl,x,y,rfl⟩ nx WZ
  obtain⟨rfl,W1⟩:=BC e;generalize hi:pre.length=i at W1 WZ ⊢;have cm:CZ (17*(0+(i:Int))) (0+(i:Int)):=.inr ⟨by omega,by omega⟩;have c17:CZ 17 (0+(i:Int)):=.inl ⟨by decide,by decide⟩;have t5:wj [D.int 1,.int 1,.int 2,.int 2,.int 3] (qh (s+17*(0+(i:Int))*(0+(i:Int))) 16807 5)=some (.int (vL s i).2.1):=F9 (ts:=P') (qR (by decide)) (qF (by decide));have t6:wj [D.int 0,.int 1,.int 1,.int 2,.int 5,.int 9] (qh (s+17*(0+(i:Int))*(0+(i:Int))) 39373 6)=some (.int (vL s i).2.2):=F9 (ts:=P7) (qR (by decide)) (qF (by decide));refine⟨oW rfl,c17,cm,_,_,_,rfl,by decide,i' t5 ?_⟩;refine⟨by show(oJ _ r).isSome=true;rw[pA];rfl,s,_,rfl,oW rfl,c17,cm,_,_,_,rfl,by decide,i' t6 ⟨oW rfl,i' pA ⟨?_,?_⟩⟩⟩
  .rw[cV,cV,eE];omega
  .refine WZ _ _ ⟨?_,_,_,rfl⟩;rw[rA,cZ,hi];show pz M r (.lst (_++[qy (vL s i)]))=_;rw[BF];rfl
 .rintro δ M' ⟨rfl,x,y,rfl⟩
  refine⟨_,.refl,?_⟩;rw[cV,eE];exact q r hr
def Hd(G:Gl K mg a):Fq P w K mg base 3 a.bo Hf:=by
 refine fq G.bo.toDG uA (λr u=>⟨_,(oY (pG 2 uA (qV sR))
 (oY (uI ft rfl (wg rfl G.ab (pY (pD (qB G) r G.i (qY v0 pb pb)))) (sF 3 uA)
 (oY (pG 4 uA (pF (pJ (rK pf pf)) (pD (qB G) r G.i (qY (pR v0 (pR pb U3)) pb pb))))
 (o9 (pI (rH U2 (pY (pJ (qY (pD (IR G) r G.ah (rK v0 (pR pb U3))) v4 (pD (xT G) r G.R (qY U1 (pR v0 (pR pb U3)) pb))))))))))
 (o9 (pq U2)))),?_⟩)
 rintro ds M Q ⟨s,o,own,rfl,ho,Xd,h64,q⟩
 have hz:=dM;have d0:=qR (c:=s) (f:=69621) (m:=3) (by decide);have d1:=qF (c:=s) (f:=69621) (m:=3) (by decide);have nl:=wm (s:=s);refine⟨oW rfl,λr hr=>⟨s,_,_,rfl,by decide,rfl,⟨?_,?_⟩,?_⟩⟩
 .show -(2 ^ 62)<=qh s 69621 3;omega
 .show qh s 69621 3<2 ^ 62;omega
 have nor:o≠r:=λz=>by rw[z]at ho;unfold oJ at ho;rw[hr]at ho;cases ho
 refine wq ((List.range (vo s)).map λi=>D.int (0+(i:Nat))) (λpre δ M'=>M'=pz M r (.lst (((List.range pre.length).map (zF s own)).map qD))/\∃x y,δ=[some (.int s),some (.ref o),some (.ref r),x,y]) (λ_ _ _ _=>trivial) _ [] _ _ rfl ⟨rfl,none,none,rfl⟩ ?_ ?_
 .rintro pre d post e δ M' ⟨rfl,x,y,rfl⟩ nx WZ
  obtain⟨rfl,W1⟩:=BC e;generalize hi:pre.length=i at W1 WZ ⊢;have c5:CZ 5 (0+(i:Int)):=.inl ⟨by decide,by decide⟩;have c11:CZ 11 (0+(i:Int)):=.inl ⟨by decide,by decide⟩;have tm:wj [D.str "all",.str "turns"] (qh (s+5*(0+(i:Int))) 742938285 2)=some (.str (zF s own i).2.1):=Hg (row:=Pb) (qR (by decide)) (qF (by decide));have Xr:oJ (pz M r (.lst (((List.range i).map (zF s own)).map qD))) o=some (own.map D.str):=by unfold oJ;rw[tU nor];exact ho
  refine⟨oW rfl,c5,_,_,_,rfl,by decide,i' tm ?_⟩;refine⟨by show(oJ _ r).isSome=true;rw[pA];rfl,s,_,rfl,c11,o,_,_,own,rfl,Xr,Xd,by decide,h64,oW rfl,i' pA ⟨?_,?_⟩⟩
  .rw[cV,cV,eE];omega
  .refine WZ _ _ ⟨?_,_,_,rfl⟩;rw[rA,cZ,hi];show pz M r (.lst (_++[qD (zF s own i)]))=_;rw[BF];rfl
 .rintro δ M' ⟨rfl,x,y,rfl⟩
  refine⟨_,.refl,?_⟩;rw[cV,eE];exact q r hr
noncomputable def Jb(ns:List Int)(own nm:List Str)(i:Nat):uW:=(decide (0<qh (cell ns (1+(0+(i:Nat)))+31*(0+(i:Nat))*(0+(i:Nat))) 22695477 6),wc (cell ns (1+(0+(i:Nat)))+31*(0+(i:Nat))*(0+(i:Nat))) own nm)
noncomputable def wN(s:Int):Nat:=(qh s 950706376 11).toNat
noncomputable def BY(ns:List Int)(m:Int):pB:=
 let s:=cell ns 0;let own:=(qp s m).map (·.1);let gs:=qQ s own
 ⟨qp s m,gs,(List.range (wN s)).map (Jb ns own (own++gs.map (·.1)))⟩
def Mr:qX:=λds M Q=>Ca λns m=>ds=[.rl (ns.map D.int),.int m]/\2<=m/\m<=8/\∀r1 r2 r3 M',qx M M'->oJ M' r1=some ((BY ns m).mG.map qy)->oJ M' r2=some ((BY ns m).groups.map qD)->oJ M' r3=some ((BY ns m).mE.map uE)->Q (.tup [.ref r1,.ref r2,.ref r3]) M'
def Le(G:Gl K mg a):Fq P w K mg base 4 a.bq Mr:=by
 refine fq G.bq.toDG se (λr u=>⟨_,(oY (pG 2 se (pD (IM G) r G.M (rK v0 pb)))
 (oY (pG 3 se (pD (Hq G) r G.bn (rK U2 U1)))
 (oY (wJ (i:=4) se.nd rfl (Or.inl rfl) rfl (yb (ix:=[none]) (N':=["_law_phone"])) (qG U3) (qz 0) rS (pF v0 pb))
 (oY (pG 5 se (pD (Hd G) r G.bo (rK U2 v4)))
 (oY (pG 6 se (pR v4 (qC rfl (yb (ix:=[none]) (N':=["_law_group"])) (qG v5) (qz 0) rS (pF v0 pb))))
 (oY (pG 7 se (qV sR))
 (oY (uI ft rfl (wg rfl G.ab (pY (pD (qB G) r G.i (qY U2 pb pb)))) (sF 8 se)
 (oY (pG 9 se (pR (pD (IM G) r G.M (rK v0 (pR pb v8))) (pR (pR pb v8) v8)))
 (o9 (pI (rH v7 (pY (pJ (rK (qc u (pD (qB G) r G.i (qY v9 pb pb)) pb) (pD (Pd G) r G.bp (qY v9 v4 v6))))))))))
 (o9 (pq (pJ (qY U3 v5 v7))))))))))),?_⟩)
 rintro ds M Q ⟨ns,m,rfl,h2,h8,q⟩
 have hz:=dM;have pl:=yz (s:=cell ns 0) h2 (by omega);have p8:rG (cell ns 0) m<=8:=by have d1:=qF (c:=cell ns 0) (f:=48271) (m:=m - 1) (by omega);unfold rG;omega
 have gl:=wm (s:=cell ns 0);have lp:(qp (cell ns 0) m).length=rG (cell ns 0) m:=by unfold qp;rw[cV,eE]
 refine⟨ns,0,rfl,cell ns 0,m,rfl,h2,by omega,λr1 Xu=>?_⟩;have s1:=qx.new (c:=.lst ((qp (cell ns 0) m).map qy)) Xu;have a1:=@pA M r1 ((qp (cell ns 0) m).map qy);generalize pz M r1 (.lst ((qp (cell ns 0) m).map qy))=M1 at s1 a1 ⊢;refine i' a1 (rh (f:=CJ) a1 _ [] _ (by rw[cV];simp only[dN];omega) (λd hd k hk=>?_) λo ho=>?_)
 .obtain⟨x,_,rfl⟩:=dF.mp hd;exact hk
 rw[d9,ym];have s2:=s1.trans (qx.new (c:=.lst (((qp (cell ns 0) m).map (·.1)).map D.str)) ho);have b1:=(qx.new (c:=.lst (((qp (cell ns 0) m).map (·.1)).map D.str)) ho).lst a1;have bo:=@pA M1 o (((qp (cell ns 0) m).map (·.1)).map D.str);generalize pz M1 o (.lst (((qp (cell ns 0) m).map (·.1)).map D.str))=M2 at s2 b1 bo ⊢;have ol:((qp (cell ns 0) m).map (·.1)).length=rG (cell ns 0) m:=by rw[cV,lp]
 have one:(qp (cell ns 0) m).map (·.1)≠[]:=λz=>by rw[z]at ol;have:0=rG (cell ns 0) m:=ol;omega
 have W4:BY ns m=⟨qp (cell ns 0) m,qQ (cell ns 0) ((qp (cell ns 0) m).map (·.1)),(List.range (wN (cell ns 0))).map (Jb ns ((qp (cell ns 0) m).map (·.1)) ((qp (cell ns 0) m).map (·.1)++(qQ (cell ns 0) ((qp (cell ns 0) m).map (·.1))).map (·.1)))⟩:=rfl;rw[W4]at q;generalize (qp (cell ns 0) m).map (·.1)=own at bo ol one q ⊢;refine⟨cell ns 0,o,own,rfl,bo,one,by omega,λr2 Y5=>?_⟩;have t3:=qx.new (c:=.lst ((qQ (cell ns 0) own).map qD)) Y5;have c2:=@pA M2 r2 ((qQ (cell ns 0) own).map qD);have c1:=t3.lst b1;have co:=t3.lst bo;have s3:=s2.trans t3;generalize pz M2 r2 (.lst ((qQ (cell ns 0) own).map qD))=M3 at s3 c1 c2 co ⊢;have gll:(qQ (cell ns 0) own).length=vo (cell ns 0):=by unfold qQ;rw[cV,eE]
 refine i' c2 (rh (f:=CJ) c2 _ [] _ (by rw[cV];simp only[dN];omega) (λd hd k hk=>?_) λx4 hx4=>?_)
 .obtain⟨x,_,rfl⟩:=dF.mp hd;exact hk
 rw[d9,yt];have t4:=qx.new (c:=.lst (((qQ (cell ns 0) own).map (·.1)).map D.str)) hx4;refine i' (t4.lst co) (i' pA ⟨?_,λn hn=>?_⟩)
 .rw[cV,cV,cV];omega
 have en:own.map D.str++((qQ (cell ns 0) own).map (·.1)).map D.str=(own++(qQ (cell ns 0) own).map (·.1)).map D.str:=by rw[dQ]
 rw[en];have nl:(own++(qQ (cell ns 0) own).map (·.1)).length=rG (cell ns 0) m+vo (cell ns 0):=by rw[cZ,cV,ol,gll]
 have t5:=t4.trans (qx.new (c:=.lst ((own++(qQ (cell ns 0) own).map (·.1)).map D.str)) hn);have en5:=@pA (pz M3 x4 (.lst (((qQ (cell ns 0) own).map (·.1)).map D.str))) n ((own++(qQ (cell ns 0) own).map (·.1)).map D.str);have e1:=t5.lst c1;have e2:=t5.lst c2;have eo:=t5.lst co;have s5:=s3.trans t5;generalize pz (pz M3 x4 (.lst (((qQ (cell ns 0) own).map (·.1)).map D.str))) n (.lst ((own++(qQ (cell ns 0) own).map (·.1)).map D.str))=M5 at s5 e1 e2 eo en5 ⊢;generalize own++(qQ (cell ns 0) own).map (·.1)=nm at en5 nl q ⊢;have d0:=qR (c:=cell ns 0) (f:=950706376) (m:=11) (by decide);have d1:=qF (c:=cell ns 0) (f:=950706376) (m:=11) (by decide);refine⟨oW rfl,λr3 YO=>⟨_,_,_,rfl,by decide,rfl,⟨?_,?_⟩,?_⟩⟩
 .show -(2 ^ 62)<=qh (cell ns 0) 950706376 11;omega
 .show qh (cell ns 0) 950706376 11<2 ^ 62;omega
 have t6:=qx.new (c:=.lst []) YO;have g3:=@pA M5 r3 [];have no:o≠r3:=λz=>by have:=pW eo;rw[z,YO]at this;cases this
 have nn:n≠r3:=λz=>by have:=pW en5;rw[z,YO]at this;cases this
 have n1:r1≠r3:=λz=>by have:=pW e1;rw[z,YO]at this;cases this
 have n2:r2≠r3:=λz=>by have:=pW e2;rw[z,YO]at this;cases this
 have f1:=t6.lst e1;have f2:=t6.lst e2;have fo:=t6.lst eo;have fn:=t6.lst en5;have k6:qx M (pz M5 r3 (.lst [])):=s5.trans t6;have nr:M r3=none:=s5.none YO;generalize pz M5 r3 (.lst [])=M6 at f1 f2 fo fn k6 g3 ⊢;have wl:wN (cell ns 0)<=10:=by unfold wN;omega
 refine wq ((List.range (wN (cell ns 0))).map λi=>D.int (0+(i:Nat))) (λpre δ M'=>sr r3 M6 M'/\oJ M' r3=some (((List.range pre.length).map (Jb ns own nm)).map uE)/\∃x y,δ=[some (.rl (ns.map D.int)),some (.int m),some (.int (cell ns 0)),some (.ref r1),some (.ref o),some (.ref r2),some (.ref n),some (.ref r3),x,y]) (λp δ M' j=>trivial) _ [] _ _ rfl ⟨λ_ _ _ h=>h,g3,none,none,rfl⟩ ?_ ?_
 .rintro pre d post e δ M' ⟨kp,lr,x,y,rfl⟩ nx WZ
  obtain⟨rfl,W1⟩:=BC e;generalize hi:pre.length=i at W1 WZ lr ⊢;have c31:CZ 31 (0+(i:Int)):=.inl ⟨by decide,by decide⟩;have cm:CZ (31*(0+(i:Int))) (0+(i:Int)):=.inr ⟨by omega,by omega⟩;refine⟨ns,_,rfl,c31,cm,?_⟩;refine⟨by show(oJ M' r3).isSome=true;rw[lr];rfl,_,_,_,rfl,by decide,_,o,n,own,nm,rfl,kp.lst no fo,kp.lst nn fn,one,by omega,by omega,by omega,oW rfl,i' lr ⟨?_,?_⟩⟩
  .rw[cV,cV,eE];omega
  .refine WZ _ _ ⟨kp.trans .put,?_,_,_,rfl⟩;rw[pA,cZ,hi];show some (_++[uE (Jb ns own nm i)])=_;rw[BF];rfl
 .rintro δ M' ⟨kp,lr,x,y,rfl⟩
  rw[cV,eE]at lr;exact⟨oW rfl,M',.refl,q r1 r2 r3 M' (λb c h=>kp b c (λz=>by rw[z,nr]at h;cases h) (k6 b c h)) (kp.lst n1 f1) (kp.lst n2 f2) lr⟩
theorem B7(x:Array Nat):∀(n:Nat) (acc:Array Nat),((List.replicate n x).foldl (·++·) acc).toList=acc.toList++(List.replicate n x.toList).flatten
 | 0,acc=>by simp
 | n+1,acc=>by rw[eJ,fW,B7 x n (acc++x),eJ,fP,iY,fj]
theorem FK(c:Nat):∀n:Nat,(List.replicate n [c]).flatten=List.replicate n c
 | 0=>rfl
 | n+1=>by rw[eJ,fP,FK c n,eJ];rfl
def Du(i n:Int):(yr (tV i) n).cps.toList=List.replicate n.toNat (97+i.toNat):=by show((List.replicate n.toNat (tV i).cps).foldl (·++·) #[]:Array Nat).toList=_;rw[B7];show[]++(List.replicate n.toNat [97+i.toNat]).flatten=_;rw[d9,FK]
def xW(s v:Int):(xC s v).cps.toList=List.replicate (uh s).toNat (97+(s / 36 % 26).toNat)++(97+((s / 936+v) % 26).toNat)::List.replicate (size s - 1 - uh s).toNat (97+(s / 36 % 26).toNat):=by show((yr (tV (s / 36 % 26)) (uh s)).cps++(tV ((s / 936+v) % 26)).cps++(yr (tV (s / 36 % 26)) (size s - 1 - uh s)).cps).toList=_;rw[iY,iY,Du,Du];show _++[97+((s / 936+v) % 26).toNat]++_=_;rw[fj];rfl
def Bw(s v:Int):1<=(xC s v).length/\(xC s v).length<=6:=by
 have e:(xC s v).length=(xC s v).cps.toList.length:=by simp[Str.length]
 rw[e,xW,cZ,eB,iK,iK];have h1:=G7 s;have h2:=JC s;have h3:0<=uh s:=eQ _ (by omega);have h4:uh s<size s:=eM _ h1;omega
def MD{i:Int}(h0:0<=i)(h1:i<26):CN ⟨#[97+i.toNat]⟩ uj=true:=by
 obtain⟨n,rfl⟩:=eC h0;have hn:n<26:=by omega
 have key:∀n:_root_.Fin 26,CN ⟨#[97+n.val]⟩ uj=true:=by decide+kernel
 exact key ⟨n,hn⟩
def DZ(s v:Int):uc (xC s v)=true:=by
 obtain⟨h1,h2⟩:=Bw s v;unfold uc;rw[dZ (show(1:Int)<=(xC s v).length by omega),dZ (show((xC s v).length:Int)<=6 by omega),eL,eL,eF];intro c hc;rw[xW]at hc;have k1:=MD (eQ (s / 36) (show(26:Int)≠0 by decide)) (eM (s / 36) (by decide));have k2:=MD (eQ (s / 936+v) (show(26:Int)≠0 by decide)) (eM (s / 936+v) (by decide));rcases dU.mp hc with z|z
 .rw[jK z];exact k1
 .rcases dh.mp z with z|z
  .rw[z];exact k2
  .rw[jK z];exact k1
def BB{s u v:Int}(hu:0<=u)(hu':u<26)(hv:0<=v)(hv':v<26)(e:xC s u=xC s v):u=v:=by
 have e':(xC s u).cps.toList=(xC s v).cps.toList:=by rw[e]
 rw[xW,xW]at e';have:=(List.append_cancel_left e');have:=(gq this).1;have a1:=eQ (s / 936+u) (show(26:Int)≠0 by decide);have a2:=eQ (s / 936+v) (show(26:Int)≠0 by decide);have h:(s / 936+u) % 26=(s / 936+v) % 26:=by omega
 omega
def EJ{ss:List Str}{x:Str}(h:x∈ss):xu ss x:=gz.mpr ⟨x,h,by simp⟩
def Bi{row:List Str}{i:Int}(h0:0<=i)(h1:i<row.length):Cr row i∈row:=by
 obtain⟨n,rfl⟩:=eC h0;have hn:n<row.length:=by omega
 have:Cr row (n:Int)=row[n]:=by simp[Cr,hn]
 rw[this];exact h9 hn
def IC{row:List Str}{i j:Int}(nd:row.Nodup)(h0:0<=i)(h1:i<row.length)(g0:0<=j)(g1:j<row.length)(e:Cr row i=Cr row j):i=j:=by
 obtain⟨n,rfl⟩:=eC h0;obtain⟨k,rfl⟩:=eC g0;have hn:n<row.length:=by omega
 have hk:k<row.length:=by omega
 have e1:Cr row (n:Int)=row[n]:=by simp[Cr,hn]
 have e2:Cr row (k:Int)=row[k]:=by simp[Cr,hk]
 rw[e1,e2]at e;have pw:=jt.mp nd;rcases Nat.lt_trichotomy n k with z|z|z
 .exact absurd e (pw n k hn hk z)
 .rw[z]
 .exact absurd e.symm (pw k n hk hn z)
def zS{α:Type}(f:Nat->α)(n:Nat)(h:∀i j,i<n->j<n->f i=f j->i=j):((List.range n).map f).Nodup:=by refine jt.mpr λi j hi hj W1 e=>?_;rw[cV,eE]at hi hj;rw[lR,lR,kT,kT]at e;have:=h i j hi hj e;omega
def B1{row:List Str}{c m:Int}(hr:row≠[])(hm:0<m):1<=wX row c m/\(wX row c m:Int)<=m/\wX row c m<=row.length:=by
 have hl:0<row.length:=fB.mpr hr;have d0:=qR (c:=c) (f:=40692) (m:=if (row.length:Int)<m then(row.length:Int)else m) (by split<;>omega);have d1:=qF (c:=c) (f:=40692) (m:=if (row.length:Int)<m then(row.length:Int)else m) (by split<;>omega);unfold wX;by_cases h:(row.length:Int)<m
 .rw[dg h]at d0 d1 ⊢;omega
 .rw[de h]at d0 d1 ⊢;omega
def Bu{row:List Str}{c:Int}(hr:row≠[])(j:Nat):0<=(qh c 69621 row.length+(0+(j:Nat))) % (row.length:Int)/\(qh c 69621 row.length+(0+(j:Nat))) % (row.length:Int)<row.length:=by have hl:0<row.length:=fB.mpr hr;exact⟨eQ _ (by omega),eM _ (by omega)⟩
def JG{d n i j:Int}(hn:0<n)(hi:0<=i)(Yl:i<n)(hj:0<=j)(hj':j<n)(e:(d+i) % n=(d+j) % n):i=j:=by
 have h1:=j8 (d+i) n;have h2:=j8 (d+j) n;generalize (d+i) / n=a at h1;generalize (d+j) / n=b at h2;have h3:i - j=n*(a - b):=by rw[Int.mul_sub];omega
 rcases Int.lt_trichotomy (a - b) 0 with z|z|z
 .have:n*(a - b)<=n*(-1):=iV (by omega) (by omega);omega
 .rw[z]at h3;omega
 .have:n*1<=n*(a - b):=iV (by omega) (by omega);omega
def HB{row:List Str}{c m:Int}(nd:row.Nodup)(hr:row≠[])(hm:0<m):(vD row c m).Nodup:=by have hl:0<row.length:=fB.mpr hr;obtain⟨_,_,l3⟩:=B1 (c:=c) hr hm;refine zS _ _ λi j hi hj e=>?_;obtain⟨a0,a1⟩:=Bu (c:=c) hr i;obtain⟨b0,b1⟩:=Bu (c:=c) hr j;have e':=IC nd a0 a1 b0 b1 e;have:=JG (d:=qh c 69621 row.length) (n:=row.length) (i:=0+(i:Nat)) (j:=0+(j:Nat)) (by omega) (by omega) (by omega) (by omega) (by omega) e';omega
def xD{row:List Str}{c m k:Int}(nd:row.Nodup)(hr:row≠[])(hm:0<m)(hk:m<=k):sA (vD row c m) row k=true:=by
 obtain⟨l1,l2,l3⟩:=B1 (c:=c) hr hm;have el:(vD row c m).length=wX row c m:=by unfold vD;rw[cV,eE]
 unfold sA;rw[el,dZ (show(1:Int)<=wX row c m by omega),dZ (show(wX row c m:Int)<=k by omega),DH (HB nd hr hm),eL,eL,eL,eF];intro x hx;unfold vD at hx;obtain⟨j,_,rfl⟩:=dF.mp hx;obtain⟨a0,a1⟩:=Bu (c:=c) hr j;exact EJ (Bi a0 a1)
def B9{row:List Str}{c m:Int}(hr:row≠[])(hm:0<m)(h:m<=100):(vD row c m).length<4000:=by
 obtain⟨l1,l2,l3⟩:=B1 (c:=c) hr hm;have el:(vD row c m).length=wX row c m:=by unfold vD;rw[cV,eE]
 omega
def PY{c:Int}{own all:List Str}(no:own.Nodup)(na:all.Nodup)(ho:own≠[])(ha:2<=all.length):Bz own all (wc c own all):=by
 have hl:(0:Int)<own.length:=by have:=fB.mpr ho;omega
 have ha0:all≠[]:=λz=>by rw[z]at ha;simp at ha
 have hx:=EJ (Bi (qR (c:=c) (f:=16807) hl) (qF (c:=c) (f:=16807) hl));have p0:=qR (c:=c) (f:=39373) (m:=all.length) (by omega);have p1:=qF (c:=c) (f:=39373) (m:=all.length) (by omega);have e0:=qR (c:=c) (f:=742938285) (m:=(all.length:Int) - 1) (by omega);have e1:=qF (c:=c) (f:=742938285) (m:=(all.length:Int) - 1) (by omega);have z0:=eQ (qh c 39373 all.length+1+qh c 742938285 ((all.length:Int) - 1)) (show(all.length:Int)≠0 by omega);have z1:=eM (qh c 39373 all.length+1+qh c 742938285 ((all.length:Int) - 1)) (show(0:Int)<all.length by omega);have hy:=EJ (Bi p0 p1);have hzz:=EJ (Bi z0 z1);have ne:Cr all (qh c 39373 all.length)≠Cr all ((qh c 39373 all.length+1+qh c 742938285 ((all.length:Int) - 1)) % all.length):=λz=>by
  have q:=IC na p0 p1 z0 z1 z;have q2:(qh c 39373 all.length+0) % (all.length:Int)=(qh c 39373 all.length+(1+qh c 742938285 ((all.length:Int) - 1))) % (all.length:Int):=by rw[Int.add_zero,Int.emod_eq_of_lt p0 p1,<-Int.add_assoc];exact q
  have:=JG (by omega) (by omega) (by omega) (by omega) (by omega) q2;omega
 have f0:=qR (c:=c) (f:=22695477) (m:=24) (by decide);have f1:=qF (c:=c) (f:=22695477) (m:=24) (by decide);have g0:=qR (c:=c) (f:=48271) (m:=23) (by decide);have g1:=qF (c:=c) (f:=48271) (m:=23) (by decide);have t0:=qR (c:=c) (f:=950706376) (m:=5) (by decide);have t1:=qF (c:=c) (f:=950706376) (m:=5) (by decide);unfold wc;simp only;split
 .exact⟨hx,B9 ha0 (by decide) (by decide),xD na ha0 (by decide) (by decide)⟩
 .split
  .exact⟨hy,B9 ho (by decide) (by decide),xD no ho (by decide) (by decide)⟩
  .split
   .exact⟨hy,hzz,ne⟩
   .split
    .refine⟨hy,hzz,ne,⟨f0,by omega⟩,⟨eQ _ (by decide),?_⟩,?_⟩
     .have:=eM (qh c 22695477 24+1+qh c 48271 23) (show(0:Int)<24 by decide);omega
     .omega
    .split
     .exact⟨hy,hzz,ne⟩
     .split
      .refine⟨hy,hzz,ne,?_⟩;generalize qh c 950706376 5=d at t0 t1;have:d=0\/d=1\/d=2\/d=3\/d=4:=by omega
       rcases this with z|z|z|z|z<;>(subst z;decide)
      .split
       .exact hx
       .exact hx
def Nb(s:Int)(i:Nat):Ey (vL s i):=by
 have t0:=qR (c:=s+17*(0+(i:Nat))*(0+(i:Nat))) (f:=16807) (m:=5) (by decide);have t1:=qF (c:=s+17*(0+(i:Nat))*(0+(i:Nat))) (f:=16807) (m:=5) (by decide);have u0:=qR (c:=s+17*(0+(i:Nat))*(0+(i:Nat))) (f:=39373) (m:=6) (by decide);have u1:=qF (c:=s+17*(0+(i:Nat))*(0+(i:Nat))) (f:=39373) (m:=6) (by decide);have a:1<=(vL s i).2.1/\(vL s i).2.1<=3:=by
  show 1<=Gc P' (qh (s+17*(0+(i:Nat))*(0+(i:Nat))) 16807 5)/\Gc P' (qh (s+17*(0+(i:Nat))*(0+(i:Nat))) 16807 5)<=3;generalize qh (s+17*(0+(i:Nat))*(0+(i:Nat))) 16807 5=d at t0 t1;have:d=0\/d=1\/d=2\/d=3\/d=4:=by omega
  rcases this with z|z|z|z|z<;>(subst z;decide)
 have b:0<=(vL s i).2.2/\(vL s i).2.2<=9:=by
  show 0<=Gc P7 (qh (s+17*(0+(i:Nat))*(0+(i:Nat))) 39373 6)/\Gc P7 (qh (s+17*(0+(i:Nat))*(0+(i:Nat))) 39373 6)<=9;generalize qh (s+17*(0+(i:Nat))*(0+(i:Nat))) 39373 6=d at u0 u1;have:d=0\/d=1\/d=2\/d=3\/d=4\/d=5:=by omega
  rcases this with z|z|z|z|z|z<;>(subst z;decide)
 exact⟨dX (Bw s (0+(i:Nat))).2 (by decide),DZ _ _,a.1,a.2,b.1,b.2⟩
def Nl{s:Int}{own:List Str}(nd:own.Nodup)(hr:own≠[])(i:Nat):Fy own (zF s own i):=by
 have t0:=qR (c:=s+5*(0+(i:Nat))) (f:=742938285) (m:=2) (by decide);have t1:=qF (c:=s+5*(0+(i:Nat))) (f:=742938285) (m:=2) (by decide);refine⟨dX (Bw s (8+(0+(i:Nat)))).2 (by decide),DZ _ _,?_,B9 hr (by decide) (by decide),xD nd hr (by decide) (by decide)⟩;show Cr Pb (qh (s+5*(0+(i:Nat))) 742938285 2)="all"\/Cr Pb (qh (s+5*(0+(i:Nat))) 742938285 2)="turns";generalize qh (s+5*(0+(i:Nat))) 742938285 2=d at t0 t1;have:d=0\/d=1:=by omega
 rcases this with z|z
 .subst z;exact .inl rfl
 .subst z;exact .inr rfl
def MZ(s m:Int):(qp s m).map (·.1)=(List.range (rG s m)).map λi=>xC s (0+(i:Nat)):=by unfold qp;rw[d6];rfl
def GG{s m:Int}(h2:2<=m)(h8:m<=8):((qp s m).map (·.1)).Nodup/\∀own,((qp s m).map (·.1)++(qQ s own).map (·.1)).Nodup:=by
 have d1:=qF (c:=s) (f:=48271) (m:=m - 1) (by omega);have d0:=qR (c:=s) (f:=48271) (m:=m - 1) (by omega);have p8:rG s m<=8:=by unfold rG;omega
 have g3:=wm (s:=s);have a:((qp s m).map (·.1)).Nodup:=by rw[MZ];refine zS _ _ λi j hi hj e=>?_;have:=BB (by omega) (by omega) (by omega) (by omega) e;omega
 refine⟨a,λown=>?_⟩;have ge:(qQ s own).map (·.1)=(List.range (vo s)).map λi=>xC s (8+(0+(i:Nat))):=by unfold qQ;rw[d6];rfl
 rw[gm];refine⟨a,?_,λx hx y hy e=>?_⟩
 .rw[ge];refine zS _ _ λi j hi hj e=>?_;have:=BB (by omega) (by omega) (by omega) (by omega) e;omega
 .rw[MZ]at hx;rw[ge]at hy;obtain⟨i,hi,rfl⟩:=dF.mp hx;obtain⟨j,hj,rfl⟩:=dF.mp hy;have hi:=gg.mp hi;have hj:=gg.mp hj;have:=BB (by omega) (by omega) (by omega) (by omega) e;omega
def PH{ns:List Int}{m:Int}(h2:2<=m)(h8:m<=8):qW (BY ns m):=by
 obtain⟨n1,n2⟩:=GG (s:=cell ns 0) h2 h8;have pl:=yz (s:=cell ns 0) h2 (by omega);have p8:rG (cell ns 0) m<=8:=by have d1:=qF (c:=cell ns 0) (f:=48271) (m:=m - 1) (by omega);unfold rG;omega
 have lp:(qp (cell ns 0) m).length=rG (cell ns 0) m:=by unfold qp;rw[cV,eE]
 have ol:((qp (cell ns 0) m).map (·.1)).length=rG (cell ns 0) m:=by rw[cV,lp]
 have one:(qp (cell ns 0) m).map (·.1)≠[]:=λz=>by rw[z]at ol;have:0=rG (cell ns 0) m:=ol;omega
 have gl:(qQ (cell ns 0) ((qp (cell ns 0) m).map (·.1))).length=vo (cell ns 0):=by unfold qQ;rw[cV,eE]
 refine⟨?_,?_,λp hp=>?_,?_,λg hg=>?_,n2 _,?_,λv hv=>?_⟩
 .show 1<=(qp (cell ns 0) m).length;omega
 .show(qp (cell ns 0) m).length<=8;omega
 .obtain⟨i,_,rfl⟩:=dF.mp hp;exact Nb _ i
 .show(qQ (cell ns 0) ((qp (cell ns 0) m).map (·.1))).length<=3;rw[gl];exact wm
 .obtain⟨i,_,rfl⟩:=dF.mp hg;exact Nl n1 one i
 .show((List.range (wN (cell ns 0))).map _).length<=16;rw[cV,eE];have d1:=qF (c:=cell ns 0) (f:=950706376) (m:=11) (by decide);unfold wN;omega
 .obtain⟨i,hi,rfl⟩:=dF.mp hv;refine PY n1 (n2 _) one ?_;show 2<=((qp (cell ns 0) m).map (·.1)++_).length;rw[cZ,ol];omega
structure pj where
 st:Str
 cr:Str
 way:List Str
 at_:List Str
 ms:List Str
 hd:Option Str
 si:Int
 wd:Option Str
structure rQ where
 i:Nat
 f:Str
 g:Str
 y:Str
inductive Ev
 | new (n:Nat) (x:Str)
 | leg (v:rQ)
 | asks (i:Nat) (z:Str) (ns:List Nat)
 | next (z:Str) (n:Int)
 | merge (i j:Nat) (ms:List Str)
 | turn
 | sw (b:Bool) (i:Nat)
 | rings (i:Nat) (ps:List Str)
 | quiet (i:Nat)
 | waits (i:Nat) (x:Str)
 | talks (i:Nat) (ms:List Str)
 | held (i:Nat) (x:Str)
 | leaves (i:Nat) (x:Str)
 | over (i:Nat) (w:Str)
structure qd where
 p:Addr
 h:Int
 t:Int
 calls:List pj
 mT:List rQ
 ps:List (Str×Int)
 on:List Bool
 log:List Ev
 fo:List Addr
noncomputable def vZ(ns:List Nat):D:=.tup (ns.map λn=>D.int (n:Nat))
noncomputable def rQ.d(v:rQ):D:=.tup [.int (v.i:Nat),.str v.f,.str v.g,.str v.y]
noncomputable def UJ(b:Bool):Str:=if b=true then "on" else "off"
noncomputable def Ev.d:Ev->D
 | .new n x=>.tup [.str "new",.int (n:Nat),.str x]
 | .leg v=>.tup [.str "leg",.int (v.i:Nat),.str v.f,.str v.g,.str v.y]
 | .asks i z ns=>.tup [.str "asks",.int (i:Nat),.str z,vZ ns]
 | .next z n=>.tup [.str "next",.str z,.int n]
 | .merge i j ms=>.tup [.str "merge",.int (i:Nat),.int (j:Nat),names ms]
 | .turn=>.tup [.str "turn"]
 | .sw b i=>.tup [.str (UJ b),.int (i:Nat)]
 | .rings i ps=>.tup [.str "rings",.int (i:Nat),names ps]
 | .quiet i=>.tup [.str "quiet",.int (i:Nat)]
 | .waits i x=>.tup [.str "waits",.int (i:Nat),.str x]
 | .talks i ms=>.tup [.str "talks",.int (i:Nat),names ms]
 | .held i x=>.tup [.str "held",.int (i:Nat),.str x]
 | .leaves i x=>.tup [.str "leaves",.int (i:Nat),.str x]
 | .over i w=>.tup [.str "over",.int (i:Nat),.str w]
noncomputable def hasS(ss:List Str)(x:Str):Bool:=ss.any (·==x)
noncomputable def rC(ss:List Str)(x:Str):List Str:=ss.filter λy=>!(y==x)
noncomputable def yx(x:Str):pj:=⟨"rings",x,[],[],[],none,0,none⟩
noncomputable def pj.over(c:pj)(w:Str):pj:={c with st:="over",wd:=some w,at_:=[],ms:=[],hd:=none}
noncomputable def pj.drop(c:pj)(x:Str):pj:={c with at_:=rC c.at_ x,ms:=rC c.ms x}
noncomputable def pj.ring(c:pj)(ps:List Str):pj:={c with st:="rings",at_:=ps,si:=0}
noncomputable def pj.ny(c:pj)(ms:List Str):pj:={c with st:="talks",ms:=ms,at_:=[],hd:=none}
noncomputable def pj.wait(c:pj)(x:Str):pj:={c with st:="waits",at_:=[x]}
noncomputable def pj.hold(c:pj)(x:Str):pj:={c with st:="held",hd:=some x}
noncomputable def pj.nA(c:pj):pj:={c with at_:=[]}
noncomputable def pj.mem(c:pj)(ms:List Str):pj:={c with ms:=ms}
noncomputable def pj.go(c:pj)(g:Str):pj:={c with way:=c.way++[g]}
noncomputable def pj.tick(c:pj):pj:=if (c.st=="rings")=true then{c with si:=c.si+1}else c
noncomputable def rQ.to(m k:Nat)(v:rQ):rQ:=if v.i=m then{v with i:=k}else v
noncomputable def Cv(ps:List (Str×Int))(z:Str)(n:Int):List (Str×Int):=if ps.any (λp=>decide (p.1=z))=true then ps.map (λp=>if p.1=z then(p.1,n)else p)else ps++[(z,n)]
noncomputable def xE(V:qd)(i:Nat)(f:pj->pj):qd:={V with calls:=V.calls.modify i f}
noncomputable def qE(V:qd)(e:Ev):qd:={V with log:=V.log++[e]}
noncomputable def Ux(V:qd):Ev->qd
 | .new _ x=>{V with calls:=V.calls++[yx x]}
 | .leg v=>{V with mT:=V.mT++[v],calls:=V.calls.modify v.i (·.go v.g)}
 | .asks _ _ _=>V
 | .next z n=>{V with ps:=Cv V.ps z n}
 | .merge i j ms=>{V with calls:=(V.calls.modify i (·.over "merged")).modify j (·.mem ms),mT:=V.mT.map (rQ.to i j)}
 | .turn=>{V with t:=V.t+1,calls:=V.calls.map pj.tick}
 | .sw b i=>{V with on:=V.on.set i b}
 | .rings i ps=>xE V i (·.ring ps)
 | .quiet i=>xE V i pj.nA
 | .waits i x=>xE V i (·.wait x)
 | .talks i ms=>xE V i (·.ny ms)
 | .held i x=>xE V i (·.hold x)
 | .leaves i x=>xE V i (·.drop x)
 | .over i w=>xE V i (·.over w)
noncomputable def pS(V:qd)(e:Ev):qd:=Ux (qE V e) e
noncomputable def qk(V:qd)(es:List Ev):qd:=es.foldl pS V
def Ev.ok(V:qd):Ev->Prop
 | .new _ _=>True
 | .leg v=>v.i<V.calls.length
 | .asks _ _ _=>True
 | .next _ _=>True
 | .merge i j ms=>i<V.calls.length/\j<V.calls.length/\i≠j/\ms.length<=100
 | .turn=>True
 | .sw _ i=>i<V.on.length
 | .rings i ps=>i<V.calls.length/\ps.length<=100
 | .quiet i=>i<V.calls.length
 | .waits i _=>i<V.calls.length
 | .talks i ms=>i<V.calls.length/\ms.length<=100
 | .held i _=>i<V.calls.length
 | .leaves i _=>i<V.calls.length
 | .over i _=>i<V.calls.length
def C7:qd->List Ev->Prop
 | _,[]=>True
 | V,e::r=>e.ok V/\C7 (pS V e) r
def rc(V:qd)(es fs:List Ev):qk V (es++fs)=qk (qk V es) fs:=lb ..
theorem wn:∀{V:qd} {es fs:List Ev},C7 V es->C7 (qk V es) fs->C7 V (es++fs)
 | _,[],_,_,h=>h
 | _,_::_,_,h,g=>⟨h.1,wn h.2 g⟩
theorem yV:∀(es:List Ev) (V:qd),(qk V es).log=V.log++es
 | [],V=>(eO _).symm
 | e::r,V=>by
  show(qk (pS V e) r).log=_;rw[yV r];have:(pS V e).log=V.log++[e]:=by cases e<;>rfl
  rw[this,fj];rfl
noncomputable def pj.mP(c:pj)(x:Str):Bool:=(c.st=="talks")&&hasS c.ms x
noncomputable def pj.hasB(c:pj)(x:Str):Bool:=if (c.st=="rings")=true then(x==c.cr)||hasS c.at_ x else if (c.st=="waits")=true then x==c.cr else(c.st=="talks"||c.st=="held")&&hasS c.ms x
noncomputable def pj.mZ(c:pj)(x:Str):Bool:=if (c.st=="held")=true then hasS c.ms x&&!((c.hd==some x))else c.mP x
noncomputable def pj.mQ(c:pj)(x:Str):Bool:=(c.st=="rings"||c.st=="waits")&&(x==c.cr)
noncomputable def pj.mK(c:pj)(x:Str):Bool:=(c.st=="waits")&&hasS c.at_ x
noncomputable def pj.nk(c:pj)(x:Str):Bool:=c.mQ x||(hasS c.at_ x||hasS c.ms x)
noncomputable def pj.mS(c:pj)(x:Str):Bool:=c.mP x&&(c.ms.length==2)
noncomputable def uP(V:qd)(x:Str):Nat:=(V.calls.filter (·.hasB x)).length
noncomputable def wH(l:pB)(x:Str):Int:=(l.mX x).elim 0 λv=>v.2.1
noncomputable def vp(l:pB)(x:Str):Int:=(l.mX x).elim 0 λv=>v.2.2
noncomputable def tM(l:pB)(V:qd)(x:Str):Bool:=decide ((uP V x:Int)<wH l x)
noncomputable def ug(l:pB)(V:qd)(c z:Str):List Str:=(l.mD z).filter λx=>!(x==c)&&tM l V x
noncomputable def xt(l:pB)(V:qd)(c z:Str):Bool:=(ug l V c z).isEmpty
noncomputable def vv(V:qd)(x:Str):Option Nat:=V.calls.findIdx? (·.mP x)
noncomputable def Es(V:qd)(x:Str):Option Nat:=V.calls.findIdx? (·.mZ x)
noncomputable def JK(V:qd)(x:Str):Option Nat:=V.calls.findIdx? (·.mQ x)
noncomputable def Aj(V:qd)(x:Str):Bool:=V.calls.any (·.mK x)
noncomputable def OE:Option Nat->D
 | none=>.mH
 | some j=>.int (j:Nat)
noncomputable def Ew(f l h:Int):Bool:=if f<l then decide (f<=h)&&decide (h<l)else decide (h>=f)||decide (h<l)
noncomputable def Ht(l:pB)(x:Str)(ms:List Str):Bool:=ms.all λm=>decide (vp l m<vp l x)
noncomputable def HV(l:pB)(V:qd)(x c z:Str):Bool:=if (!(c==x)||(z==x))=true then false else if (!(hasS l.pn z)||!(xt l V c z))=true then false else((vv V z).bind (V.calls[·]?)).elim false λk=>(k.ms.length==2)&&Ht l x k.ms
noncomputable def AS(l:pB)(V:qd)(c z:Str):Wi->Bool
 | .bar x ns=>(c==x)&&hasS ns z
 | .shut x ns=>(z==x)&&hasS ns c
 | .always x _=>z==x
 | .night x _ f m=>(z==x)&&Ew f m ((V.h+V.t) % 24)
 | .busy x _=>(z==x)&&xt l V c z
 | .silent _ _ _=>false
 | .wait x=>if (!(z==x)||(c==x))=true then false else xt l V c z&&!(Aj V z)
 | .breaks x=>HV l V x c z
noncomputable def GQ(c:pj):Wi->Bool
 | .silent x _ n=>(c.way.getLast?==some x)&&decide (n<=c.si)
 | _=>false
noncomputable def HE(l:pB)(V:qd)(f:Wi->Bool):List Nat:=(List.range V.on.length).filter λi=>V.on.getD i false&&(l.mE[i]?).elim false λw=>f w.2
noncomputable def DD(l:pB)(V:qd)(c z:Str):List Nat:=HE l V (AS l V c z)
noncomputable def uO(ms:List Str)(n:Nat):List Str:=ms.drop n++ms.take n
noncomputable def zA(V:qd)(z:Str):Nat:=((V.ps.find? λp=>decide (p.1=z)).elim 0 λp=>p.2).toNat
noncomputable def xA(l:pB)(V:qd)(c z:Str):List Str:=if (l.mL z=="turns")=true then((uO (l.mD z) (zA V z)).filter λx=>hasS (ug l V c z) x).take 1 else ug l V c z
inductive vi
 | engaged (z:Str)
 | rings (z:Str) (ps:List Str)
 | waits (z:Str)
 | breaks (z:Str)
 | barred
 | ring (ns:List Str)
noncomputable def vi.d:vi->D
 | .engaged z=>.tup [.str "engaged",.str z]
 | .rings z ps=>.tup [.str "rings",.str z,names ps]
 | .waits z=>.tup [.str "waits",.str z]
 | .breaks z=>.tup [.str "breaks",.str z]
 | .barred=>.tup [.str "barred"]
 | .ring ns=>.tup [.str "ring",names ns]
noncomputable def HR(l:pB)(V:qd)(c z:Str):vi:=match xA l V c z with
 | []=>.engaged z
 | x::r=>.rings z (x::r)
noncomputable def JI(z:Str):Wi->Sum vi Str
 | .bar _ _=>.inl .barred
 | .shut _ _=>.inl .barred
 | .always _ y=>.inr y
 | .night _ y _ _=>.inr y
 | .busy _ y=>.inr y
 | .silent _ y _=>.inr y
 | .wait _=>.inl (.waits z)
 | .breaks _=>.inl (.breaks z)
abbrev sQ:=List (Str×List Nat)
noncomputable def wz(l:pB)(V:qd)(c:Str):Nat->Str->List Str->sQ->vi×sQ
 | 0,_,_,st=>(.barred,st)
 | n+1,z,way,st=>if hasS way z=true then(.ring (way.drop (way.findIdx (·==z))),st)else
  match DD l V c z with
  | []=>(HR l V c z,st++[(z,[])])
  | i::r=>(l.mE[i]?).elim (.barred,st) λw=>match JI z w.2 with
   | .inl e=>(e,st++[(z,i::r)])
   | .inr y=>wz l V c n y (way++[z]) (st++[(z,i::r)])
noncomputable def uo(l:pB)(V:qd)(c z:Str)(way:List Str):vi×sQ:=wz l V c (l.nm.length+1) z way []
noncomputable def rg(i:Nat):Option Str->sQ->List Ev
 | _,[]=>[]
 | none,(z,fs)::r=>.asks i z fs::rg i (some z) r
 | some y,(z,fs)::r=>.leg ⟨i,y,z,y⟩::.asks i z fs::rg i (some z) r
noncomputable def NS(ms:List Str)(x:Str):Int:=((ms.findIdx (·==x):Nat)+1) % (ms.length:Int)
noncomputable def rR(l:pB)(V:qd)(i:Nat):vi->List Ev
 | .rings z ps=>(if (l.mL z=="turns")=true then[.next z (NS (l.mD z) (ps.headD Str.empty))]else[])++[.rings i ps]
 | .waits z=>[.waits i z]
 | .breaks z=>match vv V z,V.calls[i]? with
  | some j,some c=>[.merge i j ((V.calls[j]?).elim [] (·.ms)++[c.cr])]
  | _,_=>[]
 | .engaged _=>[.over i "engaged"]
 | .barred=>[.over i "barred"]
 | .ring _=>[.over i "ring"]
noncomputable def sV(i:Nat)(st:sQ):vi->List Ev
 | .ring ns=>(st.getLast?).elim [] λs=>[.leg ⟨i,s.1,ns.headD Str.empty,s.1⟩]
 | _=>[]
noncomputable def uK(l:pB)(V:qd)(i:Nat):List Ev:=(V.calls[i]?).elim [] λc=>
 let r:=uo l V c.cr (c.way.getLastD Str.empty) c.way.dropLast
 rg i none r.2++(sV i r.2 r.1++rR l V i r.1)
noncomputable def E9(l:pB)(V:qd)(y z:Str):List Ev:=
 let es:=[Ev.new V.calls.length y,.leg ⟨V.calls.length,y,z,y⟩]
 es++uK l (qk V es) V.calls.length
noncomputable def uS(V:qd)(x:Str)(i:Nat):List Ev:=(V.calls[i]?).elim [] λc=>if c.mQ x=true then[.over i "left"]else if hasS c.at_ x=true then .leaves i x::(if rC c.at_ x=[]then[.over i "refused"]else[])else if 2<c.ms.length then[.leaves i x]else[.over i "done"]
noncomputable def sJ(l:pB)(V:qd)(i:Nat)(fs:List Nat):List Ev:=match fs.head?.bind (l.mE[·]?)with
 | some (_,.silent x y _)=>
  let es:=[Ev.asks i x fs,.quiet i,.leg ⟨i,x,y,x⟩]
  es++uK l (qk V es) i
 | _=>[]
noncomputable def x9(l:pB)(V:qd)(i:Nat):List Nat:=(V.calls[i]?).elim [] λc=>if (c.st=="rings")=true then HE l V (GQ c)else[]
noncomputable def qP(l:pB):List Nat->qd->List Ev
 | [],_=>[]
 | i::r,V=>sJ l V i (x9 l V i)++qP l r (qk V (sJ l V i (x9 l V i)))
noncomputable def Eh(l:pB)(V:qd):List Ev:=.turn::qP l (List.range V.calls.length) (pS V .turn)
inductive tR
 | call (y z:Str)
 | num (w x:Str) (ns:List Int)
 | turn
 | sw (b:Bool) (i:Int)
noncomputable def tR.d:tR->D
 | .call y z=>.tup [.str "call",.str y,.str z]
 | .num w x ns=>.tup (.str w::.str x::ns.map D.int)
 | .turn=>.tup [.str "turn"]
 | .sw b i=>.tup [.str (UJ b),.int i]
def tR.ng:tR->Prop
 | .num w _ ns=>((w="answer"\/w="hang"\/w="hold"\/w="back")/\ns.length=1)\/((w="hand"\/w="join")/\ns.length=2)
 | _=>True
noncomputable def um(V:qd)(x:Str):Option Str:=if (Es V x).isSome=true then some "bound" else if (JK V x).isSome=true then some "calls" else none
noncomputable def y9(n:Nat)(i:Int):Bool:=decide (0<=i)&&decide (i<(n:Int))
noncomputable def IE(w x:Str):List pj->Bool
 | []=>false
 | c::r=>if (w=="answer")=true then hasS c.at_ x else if (w=="hang")=true then c.nk x else if (w=="hold")=true then c.mS x else if (w=="back")=true then c.hd==some x else(c.hd==some x)&&(r.head?.elim false λd=>d.mS x)
noncomputable def tE(V:qd)(ns:List Int):List pj:=ns.filterMap λi=>V.calls[i.toNat]?
noncomputable def Gj(l:pB)(V:qd)(y z:Str):Option Str:=if hasS l.nm z=false then some "name" else if ((um V y).isNone&&!(tM l V y))=true then some "full" else um V y
noncomputable def LK(l:pB)(V:qd)(w x:Str)(ns:List Int):Option Str:=if ns.all (y9 V.calls.length)=false then some "call" else if IE w x (tE V ns)=false then some "call" else if (w=="answer"||w=="back")=false then none else
 if ((um V x).isNone&&((tE V ns).head?.elim false (λc=>c.mK x)&&!(tM l V x)))=true then some "full" else um V x
noncomputable def Qd(V:qd)(b:Bool)(i:Int):Option Str:=if y9 V.on.length i=false then some "wish" else if (V.on.getD i.toNat false==b)=true then some "wish" else none
noncomputable def w9(l:pB)(V:qd):tR->Option Str
 | .turn=>none
 | .sw b i=>Qd V b i
 | .call y z=>if hasS l.pn y=false then some "name" else Gj l V y z
 | .num w x ns=>if hasS l.pn x=false then some "name" else LK l V w x ns
noncomputable def qv(c:pj)(x:Str):Str:=(rC c.ms x).headD Str.empty
noncomputable def AJ(V:qd)(w x:Str)(i:Nat):Ev:=(V.calls[i]?).elim .turn λc=>if (w=="answer")=true then .talks i [c.cr,x]else if (w=="hold")=true then .held i x else .talks i c.ms
noncomputable def DO(V:qd)(w x:Str)(i j:Nat):Ev:=(V.calls[i]?).elim .turn λc=>(V.calls[j]?).elim .turn λd=>.merge i j (if (w=="hand")=true then[qv c x,qv d x]else[x,qv c x,qv d x])
noncomputable def rO(l:pB)(V:qd):tR->List Ev
 | .call y z=>E9 l V y z
 | .num w x [i]=>if (w=="hang")=true then uS V x i.toNat else[AJ V w x i.toNat]
 | .num w x [i,j]=>[DO V w x i.toNat j.toNat]
 | .num _ _ _=>[]
 | .turn=>Eh l V
 | .sw b i=>[.sw b i.toNat]
structure rm where
 p:Addr
 wy:Addr
structure tW where
 b:Addr
 ca:Addr
 le:Addr
 nx:Addr
 on:Addr
 lo:Addr
 cs:List rm
noncomputable def CB:Option Str->D
 | none=>.mH
 | some x=>.str x
noncomputable def qZ(c:pj)(wy ad md:Addr):List (Str×D):=[("state",.str c.st),("caller",.str c.cr),("way",.ref wy),("at",.ref ad),("members",.ref md),("holder",CB c.hd),("since",.int c.si),("word",CB c.wd)]
noncomputable def tL(p:D)(h t:Int)(ca le nx on lo:Addr):List (Str×D):=[("plan",p),("hour",.int h),("turn",.int t),("calls",.ref ca),("legs",.ref le),("nexts",.ref nx),("on",.ref on),("log",.ref lo)]
noncomputable def sZ(ps:List (Str×Int)):List (qS×D):=ps.map λp=>((Sum.inr p.1:qS),D.int p.2)
noncomputable def tW.lists(A:tW):List Addr:=A.ca::A.le::A.on::A.lo::A.cs.map (·.wy)
noncomputable def tW.foot(A:tW):List Addr:=A.b::A.nx::(A.lists++A.cs.map (·.p))
def rF(a:Ad)(M:Mp)(L:List Addr)(k:rm)(c:pj):Prop:=Ca λad md=>M k.p=some (.ins a.e (qZ c k.wy ad md))/\oJ M k.wy=some (c.way.map D.str)/\oJ M ad=some (c.at_.map D.str)/\oJ M md=some (c.ms.map D.str)/\ad∉L/\md∉L
structure pH(a:Ad)(M:Mp)(A:tW)(V:qd):Prop where
 at_:M A.b=some (.ins a.c (tL (.ref V.p) V.h V.t A.ca A.le A.nx A.on A.lo))
 ca:oJ M A.ca=some (A.cs.map λk=>D.ref k.p)
 le:oJ M A.le=some (V.mT.map rQ.d)
 nx:zt M A.nx=some (sZ V.ps)
 on:oJ M A.on=some (V.on.map D.bl)
 lo:oJ M A.lo=some (V.log.map Ev.d)
 len:A.cs.length=V.calls.length
 cs:∀(i:Nat) k c,A.cs[i]?=some k->V.calls[i]?=some c->rF a M (A.lists++V.fo) k c
 nl:A.lists.Nodup
 np:(A.b::A.cs.map (·.p)).Nodup
 fo:∀x∈V.fo,∃c,M x=some c
def wM{F:List Addr}{M:Mp}{p:Addr}{c:uT}(h:∀x∈F,∃c,M x=some c):∀x∈F,∃d,pz M p c x=some d:=λx hx=>by
 by_cases z:x=p
 .exact⟨c,by rw[z];exact pL⟩
 .obtain⟨d,e⟩:=h x hx;exact⟨d,sr.put x d z e⟩
def rF.sub{a:Ad}{M M':Mp}{L:List Addr}{k:rm}{c:pj}(h:rF a M L k c)(s:qx M M'):rF a M' L k c:=by obtain⟨ad,md,h1,h2,h3,h4,h5⟩:=h;exact⟨ad,md,s _ _ h1,s.lst h2,s.lst h3,s.lst h4,h5⟩
def pH.sub{a:Ad}{M M':Mp}{A:tW}{V:qd}(h:pH a M A V)(s:qx M M'):pH a M' A V:=⟨s _ _ h.at_,s.lst h.ca,s.lst h.le,s.dk h.nx,s.lst h.on,s.lst h.lo,h.len,λi k c e1 e2=>(h.cs i k c e1 e2).sub s,h.nl,h.np,λx hx=>(h.fo x hx).imp λc e=>s x c e⟩
def rF.nO{a:Ad}{M M':Mp}{L:List Addr}{k:rm}{c:pj}{x:Addr}{ds:List D}(h:rF a M L k c)(kp:sr x M M')(hl:oJ M x=some ds)(hx:x∈L)(hn:k.wy≠x):rF a M' L k c:=by obtain⟨ad,md,h1,h2,h3,h4,h5,h6⟩:=h;exact⟨ad,md,kp _ _ (λz=>by rw[z,pW hl]at h1;cases h1) h1,kp.lst hn h2,kp.lst (λz=>h5 (z ▸ hx)) h3,kp.lst (λz=>h6 (z ▸ hx)) h4,h5,h6⟩
def rF.nU{a:Ad}{M M':Mp}{L:List Addr}{k:rm}{c:pj}{x C:Addr}{fs:List (Str×D)}(h:rF a M L k c)(kp:sr x M M')(hi:M x=some (.ins C fs))(hn:k.p≠x):rF a M' L k c:=by obtain⟨ad,md,h1,h2,h3,h4,h5⟩:=h;exact⟨ad,md,kp _ _ hn h1,kp.lst (pO h2 hi) h2,kp.lst (pO h3 hi) h3,kp.lst (pO h4 hi) h4,h5⟩
def uF{M:Mp}{a p:Addr}{ds:List (qS×D)}{es:List D}(h:zt M a=some ds)(hp:oJ M p=some es):a≠p:=λz=>by subst z;unfold zt at h;rw[pW hp]at h;cases h
def rF.oP{a:Ad}{M M':Mp}{L:List Addr}{k:rm}{c:pj}{x:Addr}{ds:List (qS×D)}(h:rF a M L k c)(kp:sr x M M')(hd:zt M x=some ds):rF a M' L k c:=by obtain⟨ad,md,h1,h2,h3,h4,h5⟩:=h;exact⟨ad,md,kp _ _ (λz=>by rw[z,xM hd]at h1;cases h1) h1,kp.lst (dO (uF hd h2)) h2,kp.lst (dO (uF hd h3)) h3,kp.lst (dO (uF hd h4)) h4,h5⟩
def qN{α:Type}{l:List α}{i:Nat}{x:α}(h:l[i]?=some x):x∈l:=fk h
def pH.ne{a:Ad}{M:Mp}{A:tW}{V:qd}(h:pH a M A V):A.ca≠A.le/\A.ca≠A.on/\A.ca≠A.lo/\A.le≠A.on/\A.le≠A.lo/\A.on≠A.lo/\∀k∈A.cs,k.wy≠A.ca/\k.wy≠A.le/\k.wy≠A.on/\k.wy≠A.lo:=by
 have n:=h.nl;unfold tW.lists at n;obtain⟨n1,n⟩:=dS.mp n;obtain⟨n2,n⟩:=dS.mp n;obtain⟨n3,n⟩:=dS.mp n;obtain⟨n4,n⟩:=dS.mp n;have w:∀k∈A.cs,k.wy∈A.cs.map (·.wy):=λk hk=>dF.mpr ⟨k,hk,rfl⟩;refine⟨λz=>n1 (z ▸ by simp),λz=>n1 (z ▸ by simp),λz=>n1 (z ▸ by simp),λz=>n2 (z ▸ by simp),λz=>n2 (z ▸ by simp),λz=>n3 (z ▸ by simp),λk hk=>⟨λz=>n1 ?_,λz=>n2 ?_,λz=>n3 ?_,λz=>n4 ?_⟩⟩
 .rw[<-z];exact dC _ (dC _ (dC _ (w k hk)))
 .rw[<-z];exact dC _ (dC _ (w k hk))
 .rw[<-z];exact dC _ (w k hk)
 .rw[<-z];exact w k hk
def pH.nZ{a:Ad}{M:Mp}{A:tW}{V:qd}(_:pH a M A V):A.ca∈A.lists/\A.le∈A.lists/\A.lo∈A.lists/\(∀k∈A.cs,k.wy∈A.lists)/\A.on∈A.lists:=by unfold tW.lists;refine⟨by simp,by simp,by simp,?_,by simp⟩;exact λk hk=>by simp;exact .inr (.inr (.inr (.inr ⟨k,hk,rfl⟩)))
def pH.oK{a:Ad}{M:Mp}{A:tW}{V:qd}(h:pH a M A V):A.ca∈A.lists++V.fo/\A.le∈A.lists++V.fo/\A.lo∈A.lists++V.fo/\(∀k∈A.cs,k.wy∈A.lists++V.fo)/\A.on∈A.lists++V.fo:=by obtain⟨h1,h2,h3,h4,h5⟩:=h.nZ;exact⟨fD _ h1,fD _ h2,fD _ h3,λk hk=>fD _ (h4 k hk),fD _ h5⟩
def qO(A:tW)(M:Mp)(A':tW)(M':Mp):Prop:=(∀x c,x∉A.foot->M x=some c->M' x=some c)/\(∀x∈A'.foot,x∈A.foot\/M x=none)/\(∀(i:Nat) k,A.cs[i]?=some k->A'.cs[i]?=some k)/\∀x c,M x=some c->∃d,M' x=some d
def E1{M:Mp}{p y:Addr}{c d:uT}(h:M y=some d):∃e,pz M p c y=some e:=by
 by_cases z:y=p
 .exact⟨c,by rw[z];exact pL⟩
 .exact⟨d,sr.put y d z h⟩
def qO.refl{A:tW}{M:Mp}:qO A M A M:=⟨λ_ _ _ h=>h,λ_ h=>.inl h,λ_ _ h=>h,λ_ c h=>⟨c,h⟩⟩
def qO.trans{A A1 A2:tW}{M M1 M2:Mp}(s:qO A M A1 M1)(u:qO A1 M1 A2 M2):qO A M A2 M2:=by
 refine⟨λx c n h=>u.1 x c (λz=>?_) (s.1 x c n h),λx hx=>?_,λi k h=>u.2.2.1 i k (s.2.2.1 i k h),λx c h=>(s.2.2.2 x c h).elim λd e=>u.2.2.2 x d e⟩
 .rcases s.2.1 x z with y|y
  .exact n y
  .rw[y]at h;cases h
 .rcases u.2.1 x hx with z|z
  .exact s.2.1 x z
  .by_cases y:x∈A.foot
   .exact .inl y
   .refine .inr ?_;cases e:M x with
    | none=>rfl
    | some c=>rw[s.1 x c y e]at z;cases z
def qO.keep{A:tW}{M:Mp}{x:Addr}{c:uT}(h:x∈A.foot)(k:sr x M (pz M x c)):qO A M A (pz M x c):=⟨λy c n e=>k y c (λz=>n (z ▸ h)) e,λ_ h=>.inl h,λ_ _ h=>h,λ_ _ h=>E1 h⟩
def qO.sub{A:tW}{M M':Mp}(s:qx M M'):qO A M A M':=⟨λy c _ e=>s y c e,λ_ h=>.inl h,λ_ _ h=>h,λx c h=>⟨c,s x c h⟩⟩
def tW.mR(A:tW):A.b∈A.foot/\A.nx∈A.foot/\A.ca∈A.foot/\A.le∈A.foot/\A.lo∈A.foot/\(∀k∈A.cs,k.p∈A.foot)/\∀k∈A.cs,k.wy∈A.foot:=by unfold tW.foot tW.lists;exact⟨by simp,by simp,by simp,by simp,by simp,λk hk=>by simp;exact .inr (.inr (.inr (.inr (.inr (.inr (.inr ⟨k,hk,rfl⟩)))))),λk hk=>by simp;exact .inr (.inr (.inr (.inr (.inr (.inr (.inl ⟨k,hk,rfl⟩))))))⟩
def tW.nB(A:tW){x:Addr}(h:x∈A.lists):x∈A.foot:=by unfold tW.foot;exact dC _ (dC _ (dU.mpr (.inl h)))
variable {M M1:Mp}{A:tW}{V:qd}
def FG{α:Type}{l:List α}{i j:Nat}{x y:α}(h:(l.set i x)[j]?=some y):(j=i/\y=x/\i<l.length)\/(j≠i/\l[j]?=some y):=by
 by_cases z:j=i
 .subst z;by_cases hl:j<l.length
  .rw[fF hl]at h;exact .inl ⟨rfl,(dn h).symm,hl⟩
  .rw[g9 (by rw[ij];omega)]at h;cases h
 .rw[fE (dO z)]at h;exact .inr ⟨z,h⟩
def NF{α β:Type}{f:α->β}{l:List α}{i j:Nat}{x y:α}(nd:(l.map f).Nodup)(h1:l[i]?=some x)(h2:l[j]?=some y)(e:f x=f y):i=j:=by
 have e1:(l.map f)[i]?=some (f x):=by rw[dD,h1];rfl
 have e2:(l.map f)[j]?=some (f y):=by rw[dD,h2];rfl
 obtain⟨l1,q1⟩:=cX.mp e1;obtain⟨l2,q2⟩:=cX.mp e2;exact(lD nd).mp (q1.trans (e.trans q2.symm))
def pH.nw(h:pH a M A V):(A.cs.map (·.wy)).Nodup:=(dS.mp (dS.mp (dS.mp (dS.mp h.nl).2).2).2).2
def pH.oO(h:pH a M A V):(A.cs.map (·.p)).Nodup/\∀k∈A.cs,k.p≠A.b:=⟨(dS.mp h.np).2,λk hk z=>(dS.mp h.np).1 (z ▸ dF.mpr ⟨k,hk,rfl⟩)⟩
def pH.oq(h:pH a M A V){es:List Ev}:pH a (pz M A.lo (.lst (es.map Ev.d))) A {V with log:=es}/\qO A M A (pz M A.lo (.lst (es.map Ev.d))):=by have kp:sr A.lo M (pz M A.lo (.lst (es.map Ev.d))):=.put;obtain⟨n1,n2,n3,n4,n5,n6,nw⟩:=h.ne;exact⟨⟨kp _ _ (dO (pO h.lo h.at_)) h.at_,kp.lst n3 h.ca,kp.lst n5 h.le,kp.dk (uF h.nx h.lo) h.nx,kp.lst n6 h.on,pA,h.len,λi k c e1 e2=>(h.cs i k c e1 e2).nO kp h.lo h.oK.2.2.1 (nw k (qN e1)).2.2.2,h.nl,h.np,wM h.fo⟩,.keep A.mR.2.2.2.2.1 kp⟩
def pH.oh(h:pH a M A V){es:List rQ}:pH a (pz M A.le (.lst (es.map rQ.d))) A {V with mT:=es}/\qO A M A (pz M A.le (.lst (es.map rQ.d))):=by have kp:sr A.le M (pz M A.le (.lst (es.map rQ.d))):=.put;obtain⟨n1,n2,n3,n4,n5,n6,nw⟩:=h.ne;exact⟨⟨kp _ _ (dO (pO h.le h.at_)) h.at_,kp.lst n1 h.ca,pA,kp.dk (uF h.nx h.le) h.nx,kp.lst (dO n4) h.on,kp.lst (dO n5) h.lo,h.len,λi k c e1 e2=>(h.cs i k c e1 e2).nO kp h.le h.oK.2.1 (nw k (qN e1)).2.1,h.nl,h.np,wM h.fo⟩,.keep A.mR.2.2.2.1 kp⟩
def pH.oQ(h:pH a M A V){bs:List Bool}:pH a (pz M A.on (.lst (bs.map D.bl))) A {V with on:=bs}/\qO A M A (pz M A.on (.lst (bs.map D.bl))):=by have kp:sr A.on M (pz M A.on (.lst (bs.map D.bl))):=.put;obtain⟨n1,n2,n3,n4,n5,n6,nw⟩:=h.ne;exact⟨⟨kp _ _ (dO (pO h.on h.at_)) h.at_,kp.lst n2 h.ca,kp.lst n4 h.le,kp.dk (uF h.nx h.on) h.nx,pA,kp.lst (dO n6) h.lo,h.len,λi k c e1 e2=>(h.cs i k c e1 e2).nO kp h.on h.oK.2.2.2.2 (nw k (qN e1)).2.2.1,h.nl,h.np,wM h.fo⟩,.keep (A.nB h.nZ.2.2.2.2) kp⟩
def pH.oE(h:pH a M A V){ps:List (Str×Int)}:pH a (pz M A.nx (.dk (sZ ps))) A {V with ps:=ps}/\qO A M A (pz M A.nx (.dk (sZ ps))):=by have kp:sr A.nx M (pz M A.nx (.dk (sZ ps))):=.put;exact⟨⟨kp _ _ (dO (BA h.nx h.at_)) h.at_,kp.lst (dO (uF h.nx h.ca)) h.ca,kp.lst (dO (uF h.nx h.le)) h.le,Cf pL,kp.lst (dO (uF h.nx h.on)) h.on,kp.lst (dO (uF h.nx h.lo)) h.lo,h.len,λi k c e1 e2=>(h.cs i k c e1 e2).oP kp h.nx,h.nl,h.np,wM h.fo⟩,.keep A.mR.2.1 kp⟩
def pH.putT(h:pH a M A V){t:Int}:pH a (pz M A.b (.ins a.c (tL (.ref V.p) V.h t A.ca A.le A.nx A.on A.lo))) A {V with t:=t}/\qO A M A (pz M A.b (.ins a.c (tL (.ref V.p) V.h t A.ca A.le A.nx A.on A.lo))):=by have kp:sr A.b M (pz M A.b (.ins a.c (tL (.ref V.p) V.h t A.ca A.le A.nx A.on A.lo))):=.put;exact⟨⟨pL,kp.lst (pO h.ca h.at_) h.ca,kp.lst (pO h.le h.at_) h.le,kp.dk (BA h.nx h.at_) h.nx,kp.lst (pO h.on h.at_) h.on,kp.lst (pO h.lo h.at_) h.lo,h.len,λi k c e1 e2=>(h.cs i k c e1 e2).nU kp h.at_ (h.oO.2 k (qN e1)),h.nl,h.np,wM h.fo⟩,.keep A.mR.1 kp⟩
def pH.n9(h:pH a M A V){i:Nat}{k:rm}{c c':pj}{ad md:Addr}(e1:A.cs[i]?=some k)(e2:V.calls[i]?=some c)(ew:c'.way=c.way)(la:oJ M ad=some (c'.at_.map D.str))(lm:oJ M md=some (c'.ms.map D.str))(na:ad∉A.lists++V.fo)(nm:md∉A.lists++V.fo):
  pH a (pz M k.p (.ins a.e (qZ c' k.wy ad md))) A {V with calls:=V.calls.set i c'}/\qO A M A (pz M k.p (.ins a.e (qZ c' k.wy ad md))):=by
 have kp:sr k.p M (pz M k.p (.ins a.e (qZ c' k.wy ad md))):=.put;obtain⟨_,_,h1,h2,_⟩:=h.cs i k c e1 e2;refine⟨⟨kp _ _ (dO (h.oO.2 k (qN e1))) h.at_,kp.lst (pO h.ca h1) h.ca,kp.lst (pO h.le h1) h.le,kp.dk (BA h.nx h1) h.nx,kp.lst (pO h.on h1) h.on,kp.lst (pO h.lo h1) h.lo,by rw[h.len,ij],λj k' d f1 f2=>?_,h.nl,h.np,wM h.fo⟩,.keep (A.mR.2.2.2.2.2.1 k (qN e1)) kp⟩;rcases FG f2 with⟨rfl,rfl,_⟩|⟨hj,f2⟩
 .rw[e1]at f1;cases f1;exact⟨ad,md,pL,by rw[ew];exact kp.lst (pO h2 h1) h2,kp.lst (pO la h1) la,kp.lst (pO lm h1) lm,na,nm⟩
 .exact(h.cs j k' d f1 f2).nU kp h1 λz=>hj (NF h.oO.1 f1 e1 z)
def pH.oA(h:pH a M A V){i:Nat}{k:rm}{c:pj}{ws:List Str}(e1:A.cs[i]?=some k)(e2:V.calls[i]?=some c):
  pH a (pz M k.wy (.lst (ws.map D.str))) A {V with calls:=V.calls.set i {c with way:=ws}}/\qO A M A (pz M k.wy (.lst (ws.map D.str))):=by
 have kp:sr k.wy M (pz M k.wy (.lst (ws.map D.str))):=.put;obtain⟨ad,md,h1,h2,h3,h4,h5,h6⟩:=h.cs i k c e1 e2;obtain⟨n1,n2,n3,n4,n5,n6,nw⟩:=h.ne;obtain⟨w1,w2,w3,w4⟩:=nw k (qN e1);have kL:=h.oK.2.2.2.1 k (qN e1);refine⟨⟨kp _ _ (dO (pO h2 h.at_)) h.at_,kp.lst (dO w1) h.ca,kp.lst (dO w2) h.le,kp.dk (uF h.nx h2) h.nx,kp.lst (dO w3) h.on,kp.lst (dO w4) h.lo,by rw[h.len,ij],λj k' d f1 f2=>?_,h.nl,h.np,wM h.fo⟩,.keep (A.mR.2.2.2.2.2.2 k (qN e1)) kp⟩;rcases FG f2 with⟨rfl,rfl,_⟩|⟨hj,f2⟩
 .rw[e1]at f1;cases f1;exact⟨ad,md,kp _ _ (dO (pO h2 h1)) h1,pA,kp.lst (λz=>h5 (z ▸ kL)) h3,kp.lst (λz=>h6 (z ▸ kL)) h4,h5,h6⟩
 .exact(h.cs j k' d f1 f2).nO kp h2 kL λz=>hj (NF h.nw f1 e1 z)
noncomputable def tW.add(A:tW)(k:rm):tW:={A with cs:=A.cs++[k]}
def zZ(A:tW)(k:rm):(A.add k).lists=A.lists++[k.wy]:=by unfold tW.add tW.lists;rw[dQ];rfl
def pH.dom(h:pH a M A V):(∀x∈A.lists,∃ds,oJ M x=some ds)/\∀x∈A.foot,∃c,M x=some c:=by
 have hc:∀k∈A.cs,(∃ds,oJ M k.wy=some ds)/\∃c,M k.p=some c:=λk hk=>by
  obtain⟨i,hi,e⟩:=gM hk;have e1:A.cs[i]?=some k:=by rw[cY hi,e]
  have XG:i<V.calls.length:=by rw[<-h.len];exact hi
  have e2:V.calls[i]?=some V.calls[i]:=cY XG;obtain⟨ad,md,h1,h2,_⟩:=h.cs i k _ e1 e2;exact⟨⟨_,h2⟩,_,h1⟩
 have hl:∀x∈A.lists,∃ds,oJ M x=some ds:=λx hx=>by
  unfold tW.lists at hx;simp only[dh,dF]at hx;rcases hx with rfl|rfl|rfl|rfl|⟨k,hk,rfl⟩
  .exact⟨_,h.ca⟩
  .exact⟨_,h.le⟩
  .exact⟨_,h.on⟩
  .exact⟨_,h.lo⟩
  .exact(hc k hk).1
 refine⟨hl,λx hx=>?_⟩;unfold tW.foot at hx;simp only[dh,dU,dF]at hx;rcases hx with rfl|rfl|hx|⟨k,hk,rfl⟩
 .exact⟨_,h.at_⟩
 .exact⟨_,xM h.nx⟩
 .obtain⟨ds,e⟩:=hl x hx;exact⟨_,pW e⟩
 .exact(hc k hk).2
def pH.nV(h:pH a M A V){x:Addr}(hx:M x=none):x∉A.lists:=λz=>by obtain⟨ds,e⟩:=h.dom.1 x z;have:=pW e;rw[hx]at this;cases this
def pH.ni(h:pH a M A V){x:Addr}(hx:M x=none):x∉A.lists++V.fo:=λz=>by
 rcases dU.mp z with z|z
 .exact h.nV hx z
 .obtain⟨c,e⟩:=h.fo x z;rw[hx]at e;cases e
def pH.nQ(h:pH a M A V){x:Addr}(hx:M x=none):x∉A.foot:=λz=>by obtain⟨ds,e⟩:=h.dom.2 x z;rw[hx]at e;cases e
def pH.nY(h:pH a M A V)(s:qx M M1){p wy ad md:Addr}{c:pj}(hp:M p=none)(hw:M wy=none)(ha:M ad=none)(hm:M md=none)(h1:M1 p=some (.ins a.e (qZ c wy ad md)))(h2:oJ M1 wy=some (c.way.map D.str))(h3:oJ M1 ad=some (c.at_.map D.str))(h4:oJ M1 md=some (c.ms.map D.str))(n1:ad≠wy)(n2:md≠wy):
  pH a (pz M1 A.ca (.lst ((A.cs.map λk=>D.ref k.p)++[.ref p]))) (A.add ⟨p,wy⟩) {V with calls:=V.calls++[c]}/\qO A M (A.add ⟨p,wy⟩) (pz M1 A.ca (.lst ((A.cs.map λk=>D.ref k.p)++[.ref p]))):=by
 have h':=h.sub s;have kp:sr A.ca M1 (pz M1 A.ca (.lst ((A.cs.map λk=>D.ref k.p)++[.ref p]))):=.put;obtain⟨m1,m2,m3,m4,m5,m6,nw⟩:=h.ne;have wL:wy∉A.lists:=h.nV hw;have cL:=h.oK.1;have nl':∀x,x∉A.lists++V.fo->x≠wy->x∉(A.add ⟨p,wy⟩).lists++V.fo:=λx h1 h2=>by
  rw[zZ,dU,dU,dv]
  rintro ((z|z)|z)
  .exact h1 (fD _ z)
  .exact h2 z
  .exact h1 (eD _ z)
 have old:∀x c,M x=some c->x≠wy:=λx c e z=>by rw[z,hw]at e;cases e
 refine⟨⟨kp _ _ (dO (pO h'.ca h'.at_)) h'.at_,?_,kp.lst (dO m1) h'.le,kp.dk (uF h'.nx h'.ca) h'.nx,kp.lst (dO m2) h'.on,kp.lst (dO m3) h'.lo,?_,λi k d e1 e2=>?_,?_,?_,wM h'.fo⟩,λx d n e=>kp x d (λz=>n (z ▸ A.mR.2.2.1)) (s x d e),λx hx=>?_,λi k e=>by show(A.cs++[(⟨p,wy⟩:rm)])[i]?=some k;rw[eZ (cX.mp e).1];exact e,λx d e=>E1 (s x d e)⟩
 .show oJ _ A.ca=some ((A.cs++[(⟨p,wy⟩:rm)]).map λk=>D.ref k.p);rw[dQ];exact pA
 .show(A.cs++[(⟨p,wy⟩:rm)]).length=(V.calls++[c]).length;rw[cZ,cZ,h.len];rfl
 .have e1:(A.cs++[(⟨p,wy⟩:rm)])[i]?=some k:=e1;have e2:(V.calls++[c])[i]?=some d:=e2;by_cases hi:i<A.cs.length
  .rw[eZ hi]at e1;rw[eZ (by rw[<-h.len];exact hi)]at e2;obtain⟨ad',md',g1,g2,g3,g4,g5,g6⟩:=(h.cs i k d e1 e2);refine⟨ad',md',kp _ _ (λz=>by have:=s _ _ g1;rw[z,pW h'.ca]at this;cases this) (s _ _ g1),kp.lst (nw k (qN e1)).1 (s.lst g2),kp.lst (λz=>g5 (z ▸ cL)) (s.lst g3),kp.lst (λz=>g6 (z ▸ cL)) (s.lst g4),nl' _ g5 (old _ _ (pW g3)),nl' _ g6 (old _ _ (pW g4))⟩
  .have Yl:i=A.cs.length:=by have:=(cX.mp e1).1;rw[cZ,dP]at this;omega
   subst Yl;rw[eV (dw _)]at e1;rw[h.len,eV (dw _)]at e2;simp only[hU,iD,jn]at e1 e2;subst e1 e2;have q1:p≠A.ca:=λz=>by rw[z,pW h'.ca]at h1;cases h1
   have q2:wy≠A.ca:=λz=>wL (z ▸ h.nZ.1);exact⟨ad,md,kp p _ q1 h1,kp.lst (a:=wy) q2 h2,kp.lst (λz=>h.ni ha (z ▸ cL)) h3,kp.lst (λz=>h.ni hm (z ▸ cL)) h4,nl' _ (h.ni ha) n1,nl' _ (h.ni hm) n2⟩
 .rw[zZ];refine gm.mpr ⟨h.nl,dS.mpr ⟨dE,eK⟩,λx hx y hy=>?_⟩;rw[dv]at hy;subst hy;exact λz=>wL (z ▸ hx)
 .show(A.b::(A.cs++[(⟨p,wy⟩:rm)]).map (·.p)).Nodup;rw[dQ,<-List.cons_append];refine gm.mpr ⟨h.np,dS.mpr ⟨dE,eK⟩,λx hx y hy=>?_⟩;rw[dY,iO,dv]at hy;subst hy;refine λz=>h.nQ hp (z ▸ ?_);rcases dh.mp hx with y|y
  .rw[y];exact A.mR.1
  .obtain⟨k,hk,rfl⟩:=dF.mp y;exact A.mR.2.2.2.2.2.1 k hk
 .unfold tW.foot at hx;rw[zZ]at hx;have hx:x∈A.b::A.nx::(A.lists++[wy]++(A.cs++[(⟨p,wy⟩:rm)]).map (·.p)):=hx;simp only[dh,dU,dQ,dY,iO,dE,eP]at hx;unfold tW.foot;simp only[dh,dU];rcases hx with z|z|(z|z)|(z|z)
  .exact .inl (.inl z)
  .exact .inl (.inr (.inl z))
  .exact .inl (.inr (.inr (.inl z)))
  .exact .inr (by rw[z];exact hw)
  .exact .inl (.inr (.inr (.inr z)))
  .exact .inr (by rw[z];exact hp)
def pH.om{a:Ad}{M:Mp}{A:tW}{V:qd}{p:Addr}{es:List rQ}(h:pH a M A V)(hp:M p=none):
  pH a (pz (pz M p (.lst (es.map rQ.d))) A.b (.ins a.c (tL (.ref V.p) V.h V.t A.ca p A.nx A.on A.lo))) {A with le:=p} {V with mT:=es}/\qO A M {A with le:=p} (pz (pz M p (.lst (es.map rQ.d))) A.b (.ins a.c (tL (.ref V.p) V.h V.t A.ca p A.nx A.on A.lo))):=by
 have t:=qx.new (c:=.lst (es.map rQ.d)) hp;have lp:=@pA M p (es.map rQ.d);have h1:=h.sub t;have np:p∉A.lists:=h.nV hp;have nf:p∉A.foot:=h.nQ hp;have old:∀x c,M x=some c->x≠p:=λx c e z=>by rw[z,hp]at e;cases e
 generalize pz M p (.lst (es.map rQ.d))=M1 at t lp h1 ⊢;have kp:sr A.b M1 (pz M1 A.b (.ins a.c (tL (.ref V.p) V.h V.t A.ca p A.nx A.on A.lo))):=.put;have sub:∀x,x∉A.lists++V.fo->x≠p->x∉({A with le:=p}:tW).lists++V.fo:=λx h1 h2 z=>by
  rcases dU.mp z with z|z
  rotate_left
  .exact h1 (eD _ z)
  have h1:x∉A.lists:=λy=>h1 (fD _ y);unfold tW.lists at h1 z;simp only[dh,fM]at h1 z;rcases z with z|z|z|z|z
  .exact h1.1 z
  .exact h2 z
  .exact h1.2.2.1 z
  .exact h1.2.2.2.1 z
  .exact h1.2.2.2.2 z
 refine⟨⟨pL,kp.lst (pO h1.ca h1.at_) h1.ca,kp.lst (pO lp h1.at_) lp,kp.dk (BA h1.nx h1.at_) h1.nx,kp.lst (pO h1.on h1.at_) h1.on,kp.lst (pO h1.lo h1.at_) h1.lo,h.len,λi k c e1 e2=>?_,?_,h.np,wM h1.fo⟩,λx c n e=>kp x c (λz=>n (z ▸ A.mR.1)) (t x c e),λx hx=>?_,λi k e=>e,λx d e=>E1 (t x d e)⟩
 .obtain⟨ad,md,g1,g2,g3,g4,g5,g6⟩:=(h.cs i k c e1 e2);obtain⟨ad',md',f1,f2,f3,f4,f5⟩:=((h.cs i k c e1 e2).sub t).nU kp h1.at_ (h.oO.2 k (qN e1));have q1:=kp _ _ (λz=>h.oO.2 k (qN e1) z) (t _ _ g1);exact⟨ad,md,q1,f2,kp.lst (pO (t.lst g3) h1.at_) (t.lst g3),kp.lst (pO (t.lst g4) h1.at_) (t.lst g4),sub _ g5 (old _ _ (pW g3)),sub _ g6 (old _ _ (pW g4))⟩
 .have n:=h.nl;unfold tW.lists at n np ⊢;simp only[dh,fM]at np;simp only[dS,dh,fM]at n ⊢;exact⟨⟨λz=>np.1 z.symm,n.1.2⟩,⟨np.2.2.1,np.2.2.2.1,np.2.2.2.2⟩,n.2.2⟩
 .by_cases z:x=p
  .exact .inr (z ▸ hp)
  .refine .inl ?_;unfold tW.foot tW.lists at hx ⊢;simp only[dh,dU]at hx ⊢;rcases hx with y|y|(y|y|y|y|y)|y
   .exact .inl y
   .exact .inr (.inl y)
   .exact .inr (.inr (.inl (.inl y)))
   .exact absurd y z
   .exact .inr (.inr (.inl (.inr (.inr (.inl y)))))
   .exact .inr (.inr (.inl (.inr (.inr (.inr (.inl y))))))
   .exact .inr (.inr (.inl (.inr (.inr (.inr (.inr y))))))
   .exact .inr (.inr (.inr y))
def pH.frame{a:Ad}{M M':Mp}{A A1 A2:tW}{V:qd}(h:pH a M A V)(st:qO A1 M A2 M')(h1:∀x∈A1.foot,x∉A.foot)(h2:∀x∈A1.foot,x∈V.fo\/M x=none):pH a M' A V:=by
 have hf:∀x∈A.foot,∀c,M x=some c->M' x=some c:=λx hx c e=>st.1 x c (λz=>h1 x z hx) e;have hl:∀{x:Addr} {ds:List D},x∈A.foot->oJ M x=some ds->oJ M' x=some ds:=λhx e=>rT (hf _ hx _ (pW e));have ho:∀{x:Addr} {ds:List D},x∉A.lists++V.fo->oJ M x=some ds->oJ M' x=some ds:=λ{x ds} hx e=>rT (st.1 x _ (λz=>(h2 x z).elim (λy=>hx (eD _ y)) λy=>by rw[pW e]at y;cases y) (pW e));obtain⟨f1,f2,f3,f4,f5,f6,f7⟩:=A.mR;exact⟨hf _ f1 _ h.at_,hl f3 h.ca,hl f4 h.le,Cf (hf _ f2 _ (xM h.nx)),hl (A.nB h.nZ.2.2.2.2) h.on,hl f5 h.lo,h.len,λi k c e1 e2=>by
  obtain⟨ad,md,g1,g2,g3,g4,g5,g6⟩:=h.cs i k c e1 e2;exact⟨ad,md,hf _ (f6 k (qN e1)) _ g1,hl (f7 k (qN e1)) g2,ho g5 g3,ho g6 g4,g5,g6⟩,h.nl,h.np,λx hx=>(h.fo x hx).elim λc e=>st.2.2.2 x c e⟩
def yZ(x:D)(l:List D):wj (x::l) 0=some x:=by
 unfold wj;have:FY (x::l).length 0=some 0:=by unfold FY;rw[eB];simp
 rw[this];rfl
def xJ(f:pj->Str->Bool)(a:Ad):qX:=λds M Q=>CC λL k c x=>ds=[.ref k.p,.str x]/\rF a M L k c/\Q (.bl (f c x)) M
abbrev HN:=xJ pj.hasB
abbrev zm:=xJ pj.mP
abbrev Ej:=xJ pj.mZ
abbrev yD:=xJ pj.mQ
abbrev vB:=xJ pj.mK
abbrev Ed:=xJ pj.mS
abbrev wZ:=xJ pj.nk
noncomputable def Ob(x:Str):D->Bool
 | .str y=>!(y==x)
 | _=>false
def ze(a:Ad):qX:=λds M Q=>Iz λL k c x y r=>ds=[.ref k.p,.str x]/\rF a M L k c/\c.ms.length<=100/\rC c.ms x=y::r/\Q (.str y) M
def Cg(ss:List Str)(x:Str):[]++(List.filter (Ob x) (ss.map D.str)).map id=(rC ss x).map D.str:=by rw[d9,jb,gR];rfl
def DN{M:Mp}{k:Addr}{ks:List Str}{c:Str}{K:DK}(hk:oJ M k=some (ks.map D.str))(h:K (.bl (hasS ks c)) M):RZ false (.str c) (.ref k) M K:=by refine i' hk ⟨rfl,qr ks,?_⟩;show K (.bl (inD (.str c) (ks.map D.str))) M;rw[sy];exact h
def Wj(w x y:Str):inD (.str w) [.str x,.str y]=(w==x||w==y):=by rw[show[D.str x,D.str y]=[x,y].map D.str from rfl,sy,gk];simp only[gb,List.any_nil,ku,gQ,fg];exact⟨λh=>h.imp ma ma,λh=>h.imp ma ma⟩
def SG(G:Gl K mg a):Fq P w K mg base 1 a.bJ (HN a):=by
 refine fq G.bJ.toDG G0 (λr u=>⟨_,(oY (pM (pC u (pk v0) pf)
 (o9 (pq (Iv (qc u U1 (pk v0)) (sH (qc u U1 (pk v0))))))
 pE)
 (oY (pM (pC u (pk v0) pf)
 (o9 (pq (qc u U1 (pk v0))))
 pE)
 (o9 (pq (sS (qc u (pk v0) (pJ (rK pf pf))) (sH (qc u U1 (pk v0)))))))),?_⟩)
 rintro ds M Q ⟨L,k,c,x,rfl,⟨ad,md,h1,h2,h3,h4,_⟩,q⟩
 unfold pj.hasB at q;refine oZ h1 (i' rfl ?_);refine qA (c:=c.st=="rings") (λg=>?_) (λg=>?_)
 .rw[dg g]at q;refine oZ h1 (i' rfl (qA (c:=x==c.cr) (λg2=>?_) (λg2=>?_)))
  .rw[g2]at q;exact⟨M,.refl,q⟩
  .rw[show(x==c.cr)=false from dI.mpr g2,fO]at q;exact oZ h1 (i' rfl (DN h3 ⟨M,.refl,q⟩))
 .rw[de g]at q;refine oZ h1 (i' rfl ?_);refine qA (c:=c.st=="waits") (λg2=>?_) (λg2=>?_)
  .rw[dg g2]at q;exact oZ h1 (i' rfl ⟨M,.refl,q⟩)
  .rw[de g2]at q;refine oZ h1 (i' rfl ⟨oW rfl,rfl,rfl,?_⟩);show if inD (.str c.st) [.str "talks",.str "held"]=true then _ else _
   rw[Wj];refine qA (λg3=>?_) (λg3=>?_)
   .rw[g3,eL]at q;exact oZ h1 (i' rfl (DN h4 ⟨M,.refl,q⟩))
   .rw[show(c.st=="talks"||c.st=="held")=false from dI.mpr g3,eR]at q;exact⟨M,.refl,q⟩
def vF(G:Gl K mg a):Fq P w K mg base 1 a.X (zm a):=by
 refine fq G.X.toDG yw (λr u=>⟨_,(o9 (pq (sS (qc u (pk v0) pf) (sH (qc u U1 (pk v0)))))),?_⟩)
 rintro ds M Q ⟨L,k,c,x,rfl,⟨ad,md,h1,h2,h3,h4,_⟩,q⟩
 unfold pj.mP at q;refine oZ h1 (i' rfl (qA (c:=c.st=="talks") (λg=>?_) (λg=>?_)))
 .rw[g,eL]at q;exact oZ h1 (i' rfl (DN h4 ⟨M,.refl,q⟩))
 .rw[show(c.st=="talks")=false from dI.mpr g,eR]at q;exact⟨M,.refl,q⟩
def Nx(G:Gl K mg a):Fq P w K mg base 2 a.bI (Ej a):=by
 refine fq G.bI.toDG De (λr u=>⟨_,(oY (pM (pC u (pk v0) pf)
 (o9 (pq (sS (qc u U1 (pk v0)) (sH (qc u U1 (pk v0))))))
 pE)
 (o9 (pq (pQ v0 G.e.toCls G.X (vF G) r (pY U1))))),?_⟩)
 rintro ds M Q ⟨L,k,c,x,rfl,hc,q⟩
 obtain⟨ad,md,h1,h2,h3,h4,_⟩:=id hc;unfold pj.mZ at q;refine oZ h1 (i' rfl ?_);refine qA (c:=c.st=="held") (λg=>?_) (λg=>?_)
 .rw[dg g]at q;refine oZ h1 (i' rfl (i' h4 ⟨rfl,qr c.ms,?_⟩));show if inD (.str x) (c.ms.map D.str)=true then _ else _
  rw[sy];refine qA (c:=hasS c.ms x) (λg2=>?_) (λg2=>?_)
  .rw[g2,eL]at q;refine oZ h1 (i' rfl ?_);cases e:c.hd with
   | none=>rw[e]at q;exact⟨M,.refl,q⟩
   | some y=>
    rw[e]at q;refine⟨M,.refl,?_⟩;rw[show(!(some y==some x))=!(x==y)from by
     show(!(y==x))=_;rw[me]]at q
    exact q
  .rw[show hasS c.ms x=false from dI.mpr g2,eR]at q;exact⟨M,.refl,q⟩
 .rw[de g]at q;exact oZ h1 ⟨rfl,_,⟨rfl,rfl⟩,L,k,c,x,rfl,hc,M,.refl,q⟩
def Bq(G:Gl K mg a):Fq P w K mg base 1 a.U (yD a):=by
 refine fq G.U.toDG xZ (λr u=>⟨_,(o9 (pq (sS (qc u (pk v0) (pJ (rK pf pf))) (sH (qc u U1 (pk v0)))))),?_⟩)
 rintro ds M Q ⟨L,k,c,x,rfl,⟨ad,md,h1,h2,h3,h4,_⟩,q⟩
 unfold pj.mQ at q;refine oZ h1 (i' rfl ⟨oW rfl,rfl,rfl,?_⟩);show if inD (.str c.st) [.str "rings",.str "waits"]=true then _ else _
 rw[Wj];refine qA (λg3=>?_) (λg3=>?_)
 .rw[g3,eL]at q;exact oZ h1 (i' rfl ⟨M,.refl,q⟩)
 .rw[show(c.st=="rings"||c.st=="waits")=false from dI.mpr g3,eR]at q;exact⟨M,.refl,q⟩
def Gv(G:Gl K mg a):Fq P w K mg base 1 a.aw (vB a):=by
 refine fq G.aw.toDG yl (λr u=>⟨_,(o9 (pq (sS (qc u (pk v0) pf) (sH (qc u U1 (pk v0)))))),?_⟩)
 rintro ds M Q ⟨L,k,c,x,rfl,⟨ad,md,h1,h2,h3,h4,_⟩,q⟩
 unfold pj.mK at q;refine oZ h1 (i' rfl (qA (c:=c.st=="waits") (λg=>?_) (λg=>?_)))
 .rw[g,eL]at q;exact oZ h1 (i' rfl (DN h3 ⟨M,.refl,q⟩))
 .rw[show(c.st=="waits")=false from dI.mpr g,eR]at q;exact⟨M,.refl,q⟩
def Mf(G:Gl K mg a):Fq P w K mg base 2 a.bH (wZ a):=by
 refine fq G.bH.toDG wA (λr u=>⟨_,(o9 (pq (Iv (pQ v0 G.e.toCls G.U (Bq G) r (pY U1)) (Iv (qc u U1 (pk v0)) (sH (qc u U1 (pk v0))))))),?_⟩)
 rintro ds M Q ⟨L,k,c,x,rfl,hc,q⟩
 obtain⟨ad,md,h1,h2,h3,h4,_⟩:=id hc;unfold pj.nk at q;refine oZ h1 ⟨rfl,_,⟨rfl,rfl⟩,L,k,c,x,rfl,hc,qA (c:=c.mQ x) (λg=>?_) (λg=>?_)⟩
 .rw[g]at q;exact⟨M,.refl,q⟩
 .rw[show c.mQ x=false from dI.mpr g,fO]at q;refine oZ h1 (i' rfl (i' h3 ⟨rfl,qr c.at_,?_⟩));show if inD (.str x) (c.at_.map D.str)=true then _ else _
  rw[sy];refine qA (c:=hasS c.at_ x) (λg2=>?_) (λg2=>?_)
  .rw[g2]at q;exact⟨M,.refl,q⟩
  .rw[show hasS c.at_ x=false from dI.mpr g2,fO]at q;exact oZ h1 (i' rfl (DN h4 ⟨M,.refl,q⟩))
def Gy(G:Gl K mg a):Fq P w K mg base 2 a.ay (Ed a):=by
 refine fq G.ay.toDG Df (λr u=>⟨_,(o9 (pq (sS (pQ v0 G.e.toCls G.X (vF G) r (pY U1)) (sH (qc u (pN qu rfl G.g qm (pY (pk v0))) pb))))),?_⟩)
 rintro ds M Q ⟨L,k,c,x,rfl,hc,q⟩
 obtain⟨ad,md,h1,h2,h3,h4,_⟩:=id hc;unfold pj.mS at q;refine oZ h1 ⟨rfl,_,⟨rfl,rfl⟩,L,k,c,x,rfl,hc,qA (c:=c.mP x) (λg=>?_) (λg=>?_)⟩
 .rw[g,eL]at q;refine oZ h1 (i' rfl (i' h4 ⟨M,.refl,?_⟩));rw[cV];have:(((c.ms.length:Nat):Int)==2)=(c.ms.length==2):=by rw[gk,fg,fg];omega
  show Q (.bl (((c.ms.length:Nat):Int)==2)) M;rw[this];exact q
 .rw[show c.mP x=false from dI.mpr g,eR]at q;exact⟨M,.refl,q⟩
def FT(G:Gl K mg a):Fq P w K mg base 1 a.ax (ze a):=by
 refine fq G.ax.toDG yI (λr u=>⟨_,(o9 (pq (pF (qC rfl (yb (ix:=[none,some 1]) (N':=["member","phone"])) (qG (pk v0)) (qz 0) (vJ (pC u v0 U1)) v0) pb))),?_⟩)
 rintro ds M Q ⟨L,k,c,x,y,r,rfl,hc,hl,e,q⟩
 have hz:=dM;obtain⟨ad,md,h1,h2,h3,h4,_⟩:=id hc;refine oZ h1 (i' rfl (i' h4 (tH (f:=id) (t:=Ob x) h4 _ [] _ (by rw[cV];simp only[dN];omega) (λd hd k0 hk=>?_) (λd hd _ k0 hk=>?_) λp hp=>?_)))
 .obtain⟨y,hy,rfl⟩:=dF.mp hd;exact hk
 .obtain⟨y,hy,rfl⟩:=dF.mp hd;exact hk
 rw[Cg,e];exact i' pA (i' (yZ _ _) ⟨M,.new hp,q⟩)
theorem Ck:∀bs:List Bool,AM (.bl true) (bs.map D.bl)=bs.findIdx? id
 | []=>rfl
 | b::r=>by rw[dY,List.findIdx?_cons];unfold AM;rw[Ck r];cases b<;>rfl
theorem MA(x:D):∀ds:List D,(AM x ds).isSome=ds.any λd=>PJ d x
 | []=>rfl
 | d::r=>by
  unfold AM;rw[gb];by_cases h:PJ d x=true
  .rw[dg h,h];rfl
  .rw[de h,jm,MA x r,show PJ d x=false from dI.mpr h,fO]
theorem BN:∀bs:List Bool,(bs.map D.bl).all uL=true
 | []=>rfl
 | _::r=>by rw[dY,eW,BN r];rfl
structure Rd(a:Ad)(M:Mp)(A:tW)(V:qd)(l:pB):Prop where
 bd:pH a M A V
 k:V.calls.length<=1000000
 pl:sP a M V.p l
 ok:qW l
 on:V.on.length=l.mE.length
 ms:∀c∈V.calls,(∀x∈c.ms,x∈l.pn)/\c.ms.length<=100
def Rd.sub{a:Ad}{M M':Mp}{A:tW}{V:qd}{l:pB}(h:Rd a M A V l)(s:qx M M'):Rd a M' A V l:=⟨h.bd.sub s,h.k,h.pl.sub s,h.ok,h.on,h.ms⟩
def Nv:qX:=λds M Q=>Ca λr bs=>ds=[.ref r]/\oJ M r=some (List.map D.bl bs)/\Q (OE (bs.findIdx? id)) M
def Ke(f:qd->Str->D)(a:Ad):qX:=λds M Q=>CK λA V x=>ds=[.ref A.b,.str x]/\pH a M A V/\V.calls.length<=1000000/\Q (f V x) M
noncomputable def TX(V:qd)(x:Str):D:=.int (uP V x:Nat)
noncomputable def KZ(V:qd)(x:Str):D:=OE (Es V x)
noncomputable def Ak(V:qd)(x:Str):D:=OE (vv V x)
noncomputable def UN(V:qd)(x:Str):D:=OE (JK V x)
noncomputable def T1(V:qd)(x:Str):D:=.bl (Aj V x)
abbrev Fb:=Ke TX
abbrev CP:=Ke KZ
abbrev AG:=Ke Ak
abbrev Ax:=Ke UN
abbrev zH:=Ke T1
def wW(a:Ad):qX:=λds M Q=>CC λA V l x=>ds=[.ref A.b,.str x]/\Rd a M A V l/\x∈l.pn/\Q (.bl (tM l V x)) M
def zQ(a:Ad):qX:=λds M Q=>FJ λA V l c z=>ds=[.ref A.b,.str c,.str z]/\Rd a M A V l/\z∈l.nm/\∀q M',qx M M'->M q=none->oJ M' q=some ((ug l V c z).map D.str)->Q (.ref q) M'
def zN(a:Ad):qX:=λds M Q=>Ca λA V=>ds=[.ref A.b]/\pH a M A V/\Q (.int ((V.h+V.t) % 24)) M
def NN(a:Ad):qX:=λds M Q=>FJ λA V l c z=>ds=[.ref A.b,.str c,.str z]/\Rd a M A V l/\z∈l.nm/\Q (.bl (xt l V c z)) M
def EB{a:Ad}{M:Mp}{A:tW}{V:qd}(h:pH a M A V){pre post:List D}{d:D}(e:pre++d::post=A.cs.map λk=>D.ref k.p):∃k c,A.cs[pre.length]?=some k/\V.calls[pre.length]?=some c/\d=.ref k.p/\rF a M (A.lists++V.fo) k c/\V.calls.take (pre.length+1)=V.calls.take pre.length++[c]:=by
 have h1:(A.cs.map λk=>D.ref k.p)[pre.length]?=some d:=by rw[<-e];simp
 rw[dD]at h1;cases z:A.cs[pre.length]? with
 | none=>rw[z]at h1;cases h1
 | some k=>
  rw[z]at h1;have hi:pre.length<V.calls.length:=by rw[<-h.len];exact(cX.mp z).1
  have e2:V.calls[pre.length]?=some V.calls[pre.length]:=cY hi;refine⟨k,_,rfl,e2,(dn h1).symm,h.cs _ _ _ z e2,?_⟩;rw[gW,e2];rfl
def yy{l:pB}{x:Str}(h:x∈l.pn):∃v,l.mX x=some v:=by
 obtain⟨p,hp,rfl⟩:=dF.mp h;unfold pB.mX;cases e:l.mG.find? λq=>decide (q.1=p.1)with
 | some v=>exact⟨v,rfl⟩
 | none=>exact absurd (gS.mp e p hp) (by simp)
def qL{ss:List Str}{x:Str}:hasS ss x=true↔x∈ss:=by unfold hasS;rw[gz];exact⟨λ⟨y,hy,e⟩=>eq_of_beq e ▸ hy,λh=>⟨x,h,fz _⟩⟩
def KJ{ss:List Str}(h:wu ss=true):ss.Nodup:=by
 have h:(sN ss).length=ss.length:=by unfold wu at h;have:=fg.mp h;omega
 suffices key:∀r:List Str,(sN r.reverse).length=r.reverse.length->r.reverse.Nodup by have:=key ss.reverse;rw[List.reverse_reverse]at this;exact this h
 intro r;induction r with
 | nil=>intro _;exact eK
 | cons k r ih=>
  intro h;rw[List.reverse_cons]at h ⊢;generalize r.reverse=l at ih h ⊢;rw[xV]at h;split at h
  .have:=IA l;rw[cZ,dP]at h;omega
  .rename_i hk;rw[cZ,cZ,dP]at h;have h1:=ih (by omega);rw[K2]at hk;refine gm.mpr ⟨h1,by simp,λx hx y hy=>?_⟩;rw[dv.mp hy];exact λz=>hk (z ▸ hx)
def HX{cs ks:List Str}{m:Int}(h:sA cs ks m=true):cs≠[]/\(cs.length:Int)<=m/\cs.Nodup/\∀x∈cs,x∈ks:=by unfold sA at h;simp only[dW,eA,eF]at h;obtain⟨h1,h2,h3,h4⟩:=h;refine⟨λz=>by rw[z]at h1;exact absurd h1 (by decide),h2,KJ h3,λx hx=>qL.mp (h4 x hx)⟩
def qW.of{l:pB}(ok:qW l){z:Str}(hz:z∈l.nm):(l.mD z≠[]/\(l.mD z).length<=4/\(l.mD z).Nodup/\∀x∈l.mD z,x∈l.pn)/\(z∈l.pn->l.mD z=[z]/\l.mL z="one"):=by
 have hd:=gm.mp ok.nd;have h1:z∈l.pn->l.group z=none:=λh=>gS.mpr λg hg e=>hd.2.2 z h g.1 (dF.mpr ⟨g,hg,rfl⟩) (by simpa using e:g.1=z).symm;refine⟨?_,λh=>by unfold pB.mD pB.mL;rw[h1 h];exact⟨rfl,rfl⟩⟩;unfold pB.mD;cases e:l.group z with
 | none=>
  have hp:z∈l.pn:=by
   rcases dU.mp hz with h|h
   .exact h
   .obtain⟨g,hg,rfl⟩:=dF.mp h;exact absurd (gS.mp e g hg) (by simp)
  exact⟨fA _ _,by show 1<=4;decide,dS.mpr ⟨dE,eK⟩,λx hx=>by rw[dv.mp hx];exact hp⟩
 | some g=>obtain⟨c1,c2,c3,c4⟩:=HX (ok.go g (gh e)).mem;exact⟨c1,by show g.2.2.length<=4;omega,c3,c4⟩
def xK{a:Ad}{M:Mp}{A:tW}{V:qd}{f:pj->Str->Bool}{m x:Str}{Q:DK}{ok:Mp->Prop}(bd:pH a M A V)(hk:V.calls.length<=1000000)(mO:ok M)(hm:∀c wy ad md,(qZ c wy ad md).lookup m=none)(q:∀p,M p=none->Q (.ref p) (pz M p (.lst ((V.calls.map λc=>f c x).map D.bl)))):
  uQ (uG 0) BM (Ah m (λC s=>C=a.e/\s=xJ f a) (v3 0) (uY (v3 1) xj)) ok Q (A.cs.map λk=>D.ref k.p) [] [none,some (.str x)] M:=by
 have hz:=dM;refine Bb (A.cs.map λk=>D.ref k.p) (λpre acc δ M'=>M=M'/\acc=((V.calls.take pre.length).map λc=>f c x).map D.bl/\∃y,δ=[y,some (.str x)]) (λ_ _ _ M' j=>by rw[<-j.1];exact mO) _ [] [] _ _ rfl ?_ ⟨rfl,rfl,none,rfl⟩ ?_ ?_
 .rw[cV,bd.len];simp only[dN];omega
 .rintro pre d post e acc δ M' ⟨rfl,rfl,y,rfl⟩ k hk
  obtain⟨ka,c,e1,e2,rfl,hc,et⟩:=EB bd e;obtain⟨_,_,g1,_⟩:=id hc;refine oZ g1 ⟨hm _ _ _ _,_,⟨rfl,rfl⟩,_,ka,c,x,rfl,hc,hk _ _ _ ⟨rfl,?_,_,rfl⟩⟩;rw[cZ,dP,et,dQ,dQ];rfl
 .rintro acc δ M' ⟨rfl,rfl,y,rfl⟩ p hp
  rw[cV,bd.len,fG];exact q p hp
def BV(G:Gl K mg a):Fq P w K mg base 1 a.O Nv:=by
 refine fq G.O.toDG Aa (λr u=>⟨_,(oY (pM (pC u xk v0)
 (o9 (pq (xw v0 (pY xk))))
 pE)
 (o9 (pq rL))),?_⟩)
 rintro ds M Q ⟨r,bs,rfl,hr,q⟩
 have ei:inD (.bl true) (bs.map D.bl)=(bs.findIdx? id).isSome:=by rw[<-Ck];exact(MA _ _).symm
 refine i' hr ⟨rfl,BN bs,?_⟩;show if inD (.bl true) (bs.map D.bl)=true then _ else _
 rw[ei];cases e:bs.findIdx? id with
 | none=>rw[e]at q;exact⟨M,.refl,q⟩
 | some j=>rw[e]at q;exact NY ⟨by show(oJ M r).isSome=true;rw[hr];rfl,i' hr ⟨rfl,BN bs,i' ((Ck bs).trans e) ⟨M,.refl,q⟩⟩⟩
def OV(G:Gl K mg a):Fq P w K mg base 2 a.bF (Fb a):=by
 refine fq G.bF.toDG C5 (λr u=>⟨_,(o9 (pq (pN qu rfl G.g qm (pY (qC rfl (yb (ix:=[none,some 1]) (N':=["call","phone"])) (qG (pk v0)) (qz 0) (vJ (uM (pQ v0 G.e.toCls G.bJ (SG G) r (pY U1)))) v0))))),?_⟩)
 rintro ds M Q ⟨A,V,x,rfl,bd,Xg,q⟩
 have hz:=dM;refine oZ bd.at_ (i' rfl (i' bd.ca ?_));refine xN (A.cs.map λk=>D.ref k.p) (λpre acc δ M'=>M=M'/\acc.length=((V.calls.take pre.length).filter (·.hasB x)).length/\∃y,δ=[y,some (.str x)]) (λ_ _ _ M' j=>by rw[<-j.1];exact bd.ca) _ [] [] _ _ rfl ?_ ⟨rfl,rfl,none,rfl⟩ ?_ ?_
 .rw[cV,bd.len];simp only[dN];omega
 .rintro pre d post e acc δ M' ⟨rfl,ha,y,rfl⟩ k k2 hk YQ
  obtain⟨ka,c,e1,e2,rfl,hc,et⟩:=EB bd e;rw[cZ,dP,et,jg]at hk YQ;obtain⟨_,_,g1,_⟩:=id hc;refine oZ g1 ⟨rfl,_,⟨rfl,rfl⟩,_,ka,c,x,rfl,hc,?_⟩;refine qA (c:=c.hasB x) (λg=>?_) (λg=>?_)
  .refine hk _ _ _ ⟨rfl,?_,_,rfl⟩;rw[cZ,cZ,ha,iB (by exact g)];rfl
  .refine YQ _ _ ⟨rfl,?_,_,rfl⟩;rw[cZ,ha,iC (by exact g)];rfl
 .rintro acc δ M' ⟨rfl,ha,y,rfl⟩ p hp
  refine i' pA ⟨M,.new hp,?_⟩;rw[cV,bd.len,fG]at ha;rw[ha];exact q
def Mb(G:Gl K mg a):Fq P w K mg base 3 a.bD (CP a):=by
 refine fq G.bD.toDG BI (λr u=>⟨_,(o9 (pq (pD (BV G) r G.O (pY (qC rfl (yb (ix:=[none,some 1]) (N':=["call","phone"])) (qG (pk v0)) (qz 0) rS (pQ v0 G.e.toCls G.bI (Nx G) r (pY U1))))))),?_⟩)
 rintro ds M Q ⟨A,V,x,rfl,bd,Xg,q⟩
 refine oZ bd.at_ (i' rfl (i' bd.ca (xK bd Xg bd.ca (λ_ _ _ _=>rfl) λp hp=>⟨p,_,rfl,pA,M,.new hp,?_⟩)));rw[gY];exact q
def HI(G:Gl K mg a):Fq P w K mg base 3 a.bE (Ax a):=by
 refine fq G.bE.toDG zP (λr u=>⟨_,(o9 (pq (pD (BV G) r G.O (pY (qC rfl (yb (ix:=[none,some 1]) (N':=["call","phone"])) (qG (pk v0)) (qz 0) rS (pQ v0 G.e.toCls G.U (Bq G) r (pY U1))))))),?_⟩)
 rintro ds M Q ⟨A,V,x,rfl,bd,Xg,q⟩
 refine oZ bd.at_ (i' rfl (i' bd.ca (xK bd Xg bd.ca (λ_ _ _ _=>rfl) λp hp=>⟨p,_,rfl,pA,M,.new hp,?_⟩)));rw[gY];exact q
def yu(G:Gl K mg a):Fq P w K mg base 3 a.V (AG a):=by
 refine fq G.V.toDG zG (λr u=>⟨_,(o9 (pq (pD (BV G) r G.O (pY (qC rfl (yb (ix:=[none,some 1]) (N':=["call","phone"])) (qG (pk v0)) (qz 0) rS (pQ v0 G.e.toCls G.X (vF G) r (pY U1))))))),?_⟩)
 rintro ds M Q ⟨A,V,x,rfl,bd,Xg,q⟩
 refine oZ bd.at_ (i' rfl (i' bd.ca (xK bd Xg bd.ca (λ_ _ _ _=>rfl) λp hp=>⟨p,_,rfl,pA,M,.new hp,?_⟩)));rw[gY];exact q
def GC(G:Gl K mg a):Fq P w K mg base 3 a.bM (zH a):=by
 refine fq G.bM.toDG zg (λr u=>⟨_,(o9 (pq (pN (Rf rfl) rfl G.cI Sr (pY (qC rfl (yb (ix:=[none,some 1]) (N':=["call","phone"])) (qG (pk v0)) (qz 0) rS (pQ v0 G.e.toCls G.aw (Gv G) r (pY U1))))))),?_⟩)
 rintro ds M Q ⟨A,V,x,rfl,bd,Xg,q⟩
 refine oZ bd.at_ (i' rfl (i' bd.ca (xK bd Xg bd.ca (λ_ _ _ _=>rfl) λp hp=>i' pA ?_)));rw[d6];refine i' (xR _ _) ⟨M,.new hp,?_⟩;rw[jJ];exact q
def Gi(G:Gl K mg a):Fq P w K mg base 1 a.bL (zN a):=by
 refine fq G.bL.toDG zb (λr u=>⟨_,(o9 (pq (pR (pR (pk v0) (pk v0)) pb))),?_⟩)
 rintro ds M Q ⟨A,V,rfl,bd,q⟩
 exact oZ bd.at_ (i' rfl (oZ bd.at_ (i' rfl ⟨by decide,M,.refl,q⟩)))
def Ny{l:pB}{x:Str}{v:uu}(h:l.mX x=some v):wH l x=v.2.1:=by unfold wH;rw[h];rfl
def yH(G:Gl K mg a):Fq P w K mg base 3 a.T (wW a):=by
 refine fq G.T.toDG zK (λr u=>⟨_,(o9 (pq (qc u (pQ v0 G.c.toCls G.bF (OV G) r (pY U1)) (pQ (pk v0) G.h.toCls G.bG (Dd G) r (pY U1))))),?_⟩)
 rintro ds M Q ⟨A,V,l,x,rfl,rd,hx,q⟩
 obtain⟨ph,gr,ws,Yf,pr,gd,rs,i1,_⟩:=rd.pl;obtain⟨v,hv⟩:=yy hx;refine oZ rd.bd.at_ ⟨rfl,_,⟨rfl,rfl⟩,A,V,x,rfl,rd.bd,rd.k,?_⟩;refine oZ rd.bd.at_ (i' rfl (oZ i1 ⟨rfl,_,⟨rfl,rfl⟩,V.p,x,v,l,rfl,rd.pl,hv,?_⟩));unfold tM at q;rw[Ny hv]at q;exact⟨M,.refl,q⟩
def An(G:Gl K mg a):Fq P w K mg base 4 a.aN (zQ a):=by
 refine fq G.aN.toDG zy (λr u=>⟨_,(o9 (pq (qC rfl (yb (ix:=[none,some 1,some 0]) (N':=["phone","caller","self"])) (qG (pQ (pk v0) G.h.toCls G.Y (uk G) r (pY U2))) (qz 0) (vJ (W3.b3 (yG (pC u v0 U1) (xQ (uM (pQ U2 G.c.toCls G.T (yH G) r (pY v0))))))) v0))),?_⟩)
 rintro ds M Q ⟨A,V,l,c,z,rfl,rd,XS,q⟩
 obtain⟨ph,gr,ws,Yf,pr,gd,rs,i1,_⟩:=rd.pl;obtain⟨⟨_,p4,_,pin⟩,_⟩:=rd.ok.of XS;refine oZ rd.bd.at_ (i' rfl (oZ i1 ⟨rfl,_,⟨rfl,rfl⟩,V.p,z,l,rfl,rd.pl,λq1 XH=>i' pA ?_⟩));have s1:=qx.new (c:=.lst (List.map D.str (l.mD z))) XH;have c1:=@pA M q1 (List.map D.str (l.mD z));generalize pz M q1 (.lst (List.map D.str (l.mD z)))=M1 at s1 c1 ⊢;have hz:=dM;have YC:=rd.sub s1;refine tH (f:=id) (t:=λd=>match d with|.str x=>!(x==c)&&tM l V x|_=>false) c1 _ [] _ (by rw[cV];simp only[dN];omega) (λd hd k hk=>?_) (λd hd _ k hk=>?_) λq2 YB=>?_
 .obtain⟨x,hx,rfl⟩:=dF.mp hd;have hk:k (!(x==c)&&tM l V x) M1:=hk;cases e:x==c with
  | true=>rw[e]at hk;refine Lg (c:=!(x==c)) (by rw[e];rfl) hk
  | false=>rw[e]at hk;refine Ac (c:=!(x==c)) (by rw[e];rfl) (oZ YC.bd.at_ ⟨rfl,_,⟨rfl,rfl⟩,A,V,l,x,rfl,YC,pin x hx,hk⟩)
 .obtain⟨x,hx,rfl⟩:=dF.mp hd;exact hk
 .have ef:[]++(List.filter (λd=>match d with|.str x=>!(x==c)&&tM l V x|_=>false) ((l.mD z).map D.str)).map id=(ug l V c z).map D.str:=by rw[d9,jb,gR];rfl
  rw[ef];have t2:=qx.new (c:=.lst ((ug l V c z).map D.str)) YB;exact⟨_,.refl,q q2 _ (s1.trans t2) (s1.none YB) pA⟩
def Fl(G:Gl K mg a):Fq P w K mg base 5 a.P (NN a):=by
 refine fq G.P.toDG Hz (λr u=>⟨_,(o9 (pq (qc u (pN qu rfl G.g qm (pY (pQ v0 G.c.toCls G.aN (An G) r (rK U1 U2)))) pb))),?_⟩)
 rintro ds M Q ⟨A,V,l,c,z,rfl,rd,tg,q⟩
 refine oZ rd.bd.at_ ⟨rfl,_,⟨rfl,rfl⟩,A,V,l,c,z,rfl,rd,tg,λq1 M1 s1 XH e1=>i' e1 ⟨M,s1,?_⟩⟩;have e:((((ug l V c z).map D.str).length:Int)==0)=xt l V c z:=by unfold xt;rw[cV,gk,fg,List.isEmpty_iff,<-gu];omega
 show Q (.bl ((((ug l V c z).map D.str).length:Int)==0)) M;rw[e];exact q
def ww(a:Ad)(v:Wi):qX:=λds M Q=>Iz λp A V l c z=>ds=[.ref p,.ref A.b,.str c,.str z]/\M p=some (.ins (v.cls a) v.nC)/\Rd a M A V l/\z∈l.nm/\Bz l.pn l.nm v/\Q (.bl (AS l V c z v)) M
def QH(a:Ad)(v:Wi):qX:=λds M Q=>CC λp L k c=>ds=[.ref p,.ref (rm.p k)]/\M p=some (.ins (v.cls a) v.nC)/\rF a M L k c/\Q (.bl (GQ c v)) M
def GT:qX:=λds M Q=>Ca λx y=>ds=[x,y]/\Q (.bl false) M
def Nf(a:Ad):Addr->qX->Prop:=λC sp=>∃v:Wi,C=v.cls a/\sp=ww a v
noncomputable def LW(a:Ad):Wi->qX
 | .silent x y n=>QH a (.silent x y n)
 | _=>GT
def G8(a:Ad):Addr->qX->Prop:=λC sp=>∃v:Wi,C=v.cls a/\sp=LW a v
def Ab(a:Ad):qX:=λds M Q=>Iz λp x y f l h=>ds=[.ref p,.int h]/\M p=some (.ins a.n (Wi.night x y f l).nC)/\Q (.bl (Ew f l h)) M
def zd(a:Ad):qX:=λds M Q=>Iz λp x q l r ms=>ds=[.ref p,.ref q,.ref r]/\M p=some (.ins a.o (Wi.breaks x).nC)/\sP a M q l/\oJ M r=some (List.map D.str ms)/\ms.length<=100/\x∈l.pn/\(∀m∈ms,m∈l.pn)/\Q (.bl (Ht l x ms)) M
def Jl{l:pB}{x:Str}{v:uu}(h:l.mX x=some v):vp l x=v.2.2:=by unfold vp;rw[h];rfl
def ra{ks:List rm}{i:Nat}{k:rm}(h:ks[i]?=some k):wj (ks.map λk=>D.ref k.p) (i:Nat)=some (.ref k.p):=uV (by rw[dD,h];rfl)
def Lq(ds:List D):L3.uD ds (some (-1:Int)) none=ds.drop (ds.length - 1):=by
 unfold L3.uD;have e:HT.sY ds.length 0 (some (-1:Int))=ds.length - 1:=by show(if (-1:Int)<0 then((-1:Int)+(ds.length:Int)).toNat else min (-1:Int).toNat ds.length)=ds.length - 1;rw[dg (by decide)];omega
 rw[e];show(ds.drop (ds.length - 1)).take (ds.length - (ds.length - 1))=_;exact iG (by rw[gx];exact dw _)
theorem DB{α:Type}:∀w:List α,w.drop (w.length - 1)=w.getLast?.toList
 | []=>rfl
 | [_]=>rfl
 | _::z::r=>by rw[List.getLast?_cons_cons,<-DB (z::r)];rfl
def Ov{M:Mp}{p q:Addr}{w:List Str}{x:Str}(h1:oJ M p=some ((w.map D.str).drop ((w.map D.str).length - 1)))(h2:oJ M q=some [D.str x]):yc M 9 (.ref p) (.ref q)=some (w.getLast?==some x):=by
 have e:(w.map D.str).drop ((w.map D.str).length - 1)=(w.getLast?.toList).map D.str:=by rw[cV,<-kz];rw[DB]
 rw[e]at h1;show(oJ M p).bind (λi=>(oJ M q).bind λj=>if i.length=j.length then sI (yc M 8) i j else some false)=_;rw[h1,h2];cases w.getLast? with
 | none=>rfl
 | some y=>show((some (y==x)).bind λp=>(some true).map λq=>p&&q)=some (some y==some x);show some ((y==x)&&true)=_;rw[Bool.and_true];rfl
def Lo(G:Gl K mg a)(x:Str)(ns:List Str):Fq P w K mg base 6 a.aE (ww a (.bar x ns)):=by
 refine fq G.aE.toDG FZ (λr u=>⟨_,(o9 (pq (sS (qc u U2 (pk v0)) (sH (qc u U3 (pk v0)))))),?_⟩)
 rintro ds M Q ⟨p,A,V,l,c,z,rfl,hp,_,_,_,q⟩
 refine oZ hp ?_;refine qA (c:=c==x) (λg=>oZ hp ⟨rfl,qr ns,M,.refl,?_⟩) (λg=>⟨M,.refl,?_⟩)
 .show Q (.bl (inD (.str z) (ns.map D.str))) M;rw[sy];dsimp only[AS]at q;rw[g,eL]at q;exact q
 .dsimp only[AS]at q;rw[show(c==x)=false from dI.mpr g,eR]at q;exact q
def Na(G:Gl K mg a)(x:Str)(ns:List Str):Fq P w K mg base 6 a.aF (ww a (.shut x ns)):=by
 refine fq G.aF.toDG E2 (λr u=>⟨_,(o9 (pq (sS (qc u U3 (pk v0)) (sH (qc u U2 (pk v0)))))),?_⟩)
 rintro ds M Q ⟨p,A,V,l,c,z,rfl,hp,_,_,_,q⟩
 refine oZ hp ?_;refine qA (c:=z==x) (λg=>oZ hp ⟨rfl,qr ns,M,.refl,?_⟩) (λg=>⟨M,.refl,?_⟩)
 .show Q (.bl (inD (.str c) (ns.map D.str))) M;rw[sy];dsimp only[AS]at q;rw[g,eL]at q;exact q
 .dsimp only[AS]at q;rw[show(z==x)=false from dI.mpr g,eR]at q;exact q
def NA(G:Gl K mg a)(x y:Str):Fq P w K mg base 6 a.aG (ww a (.always x y)):=by
 refine fq G.aG.toDG Bt (λr u=>⟨_,(o9 (pq (qc u U3 (pk v0)))),?_⟩)
 rintro ds M Q ⟨p,A,V,l,c,z,rfl,hp,_,_,_,q⟩
 exact oZ hp ⟨M,.refl,q⟩
def Gz(G:Gl K mg a):Fq P w K mg base 1 a.bK (Ab a):=by
 refine fq G.bK.toDG zu (λr u=>⟨_,(oY (pM (pC u (pk v0) (pk v0))
 (o9 (pq (ub u (pk v0) U1 (pk v0))))
 pE)
 (o9 (pq (Iv (qc u U1 (pk v0)) (sH (qc u U1 (pk v0))))))),?_⟩)
 rintro ds M Q ⟨p,x,y,f,l,h,rfl,hp,q⟩
 refine oZ hp (oZ hp ?_);show if (decide (f<l))=true then _ else _
 unfold Ew at q;by_cases z:f<l
 .rw[dg z]at q;refine Ac (dZ z) (oZ hp ?_);refine qA (c:=decide (f<=h)) (λg=>?_) (λg=>?_)
  .rw[g,eL]at q;exact oZ hp ⟨M,.refl,q⟩
  .rw[show decide (f<=h)=false from dI.mpr g,eR]at q;exact⟨M,.refl,q⟩
 .rw[de z]at q;refine Lg (eN z) (oZ hp ?_);refine qA (c:=decide (h>=f)) (λg=>?_) (λg=>?_)
  .rw[g,gZ]at q;exact⟨M,.refl,q⟩
  .rw[show decide (h>=f)=false from dI.mpr g,fO]at q;exact oZ hp ⟨M,.refl,q⟩
def La(G:Gl K mg a)(x y:Str)(f m:Int):Fq P w K mg base 6 a.aH (ww a (.night x y f m)):=by
 refine fq G.aH.toDG Dh (λr u=>⟨_,(o9 (pq (sS (qc u U3 (pk v0)) (sH (pQ v0 G.n.toCls G.bK (Gz G) r (pY (vC U1 G.c.toCls G.bL (Gi G) r))))))),?_⟩)
 rintro ds M Q ⟨p,A,V,l,c,z,rfl,hp,rd,_,_,q⟩
 dsimp only[AS]at q;refine oZ hp ?_;refine qA (c:=z==x) (λg=>?_) (λg=>?_)
 .rw[g,eL]at q;exact oZ hp ⟨rfl,_,⟨rfl,rfl⟩,oZ rd.bd.at_ ⟨rfl,_,⟨rfl,rfl⟩,A,V,rfl,rd.bd,p,x,y,f,m,_,rfl,hp,M,.refl,q⟩⟩
 .rw[show(z==x)=false from dI.mpr g,eR]at q;exact⟨M,.refl,q⟩
def KY(G:Gl K mg a)(x y:Str):Fq P w K mg base 6 a.aI (ww a (.busy x y)):=by
 refine fq G.aI.toDG Fo (λr u=>⟨_,(o9 (pq (sS (qc u U3 (pk v0)) (sH (pD (Fl G) r G.P (qY U1 U2 U3)))))),?_⟩)
 rintro ds M Q ⟨p,A,V,l,c,z,rfl,hp,rd,hz,_,q⟩
 dsimp only[AS]at q;refine oZ hp ?_;refine qA (c:=z==x) (λg=>?_) (λg=>?_)
 .rw[g,eL]at q;exact⟨A,V,l,c,z,rfl,rd,hz,M,.refl,q⟩
 .rw[show(z==x)=false from dI.mpr g,eR]at q;exact⟨M,.refl,q⟩
def Me(G:Gl K mg a)(x y:Str)(n:Int):Fq P w K mg base 6 a.aJ (ww a (.silent x y n)):=by
 refine fq G.aJ.toDG BS (λr u=>⟨_,(o9 (pq xk)),?_⟩)
 rintro ds M Q ⟨p,A,V,l,c,z,rfl,hp,rd,hz,_,q⟩
 exact⟨M,.refl,q⟩
def Lr(G:Gl K mg a)(x:Str):Fq P w K mg base 6 a.aK (ww a (.wait x)):=by
 refine fq G.aK.toDG EL (λr u=>⟨_,(oY (pM (W3.b3 (vn (pC u U3 (pk v0)) (vK (pC u U2 (pk v0)))))
 (o9 (pq xk))
 pE)
 (o9 (pq (sS (pD (Fl G) r G.P (qY U1 U2 U3)) (sH (RS (pQ U1 G.c.toCls G.bM (GC G) r (pY U3)))))))),?_⟩)
 rintro ds M Q ⟨p,A,V,l,c,z,rfl,hp,rd,hz,_,q⟩
 dsimp only[AS]at q;refine oZ hp ?_;refine qA (c:=!(z==x)) (λg=>?_) (λg=>?_)
 .rw[g,gZ]at q;exact⟨M,.refl,q⟩
 rw[show(!(z==x))=false from dI.mpr g,fO]at q;refine oZ hp ?_;refine qA (c:=c==x) (λg=>?_) (λg=>?_)
 .rw[g]at q;exact⟨M,.refl,q⟩
 rw[de g]at q;refine⟨A,V,l,c,z,rfl,rd,hz,?_⟩;refine qA (c:=xt l V c z) (λg=>?_) (λg=>?_)
 .rw[g,eL]at q;exact oZ rd.bd.at_ ⟨rfl,_,⟨rfl,rfl⟩,A,V,z,rfl,rd.bd,rd.k,M,.refl,q⟩
 .rw[show xt l V c z=false from dI.mpr g,eR]at q;exact⟨M,.refl,q⟩
def FS(G:Gl K mg a):Fq P w K mg base 2 a.bN (zd a):=by
 refine fq G.bN.toDG vf (λr u=>⟨_,(oY (pG 3 vf (pQ U1 G.h.toCls G.aO (zc G) r (pY (pk v0))))
 (o9 (pq (pN (Fh rfl) rfl G.bP D4 (pY (qC rfl (yb (ix:=[none,some 1,some 3]) (N':=["member","plan","rank"])) (qG U2) (qz 0) rS (qc u (pQ U1 G.h.toCls G.aO (zc G) r (pY v0)) U2))))))),?_⟩)
 rintro ds M Q ⟨p,x,q,l,r,ms,rfl,hp,pl,lr,h100,hx,hm,k⟩
 have hz:=dM;obtain⟨v,hv⟩:=yy hx;obtain⟨ph,gr,ws,Yf,pr,gd,rs,i1,_⟩:=id pl;refine oZ i1 ⟨rfl,_,⟨rfl,rfl⟩,oZ hp (i' rfl ⟨q,x,v,l,rfl,pl,hv,?_⟩)⟩;refine i' lr (rh (f:=λd=>match d with|.str m=>.bl (decide (vp l m<vp l x))|_=>.mH) lr _ [] _ (by rw[cV];show 0+ms.length<=sizeLine;omega) (λd hd k0 hk=>?_) λp1 Ye=>?_)
 .obtain⟨m,hmm,rfl⟩:=dF.mp hd;obtain⟨u,hu⟩:=yy (hm m hmm);have hk:k0 (.bl (decide (vp l m<vp l x))) M:=hk;rw[Jl hu,Jl hv]at hk;exact oZ i1 ⟨rfl,_,⟨rfl,rfl⟩,q,m,u,l,rfl,pl,hu,hk⟩
 .have em:[]++(ms.map D.str).map (λd=>match d with|.str m=>.bl (decide (vp l m<vp l x))|_=>.mH)=ms.map λm=>D.bl (decide (vp l m<vp l x)):=by rw[d9,d6];rfl
  rw[em];refine i' pA (i' (xR (λm=>decide (vp l m<vp l x)) ms) ⟨M,.new Ye,?_⟩);unfold Ht at k;rw[yX];exact k
def Mt(G:Gl K mg a)(x:Str):Fq P w K mg base 6 a.aL (ww a (.breaks x)):=by
 refine fq G.aL.toDG vc (λr u=>⟨_,(oY (pM (W3.b3 (vn (pC u U2 (pk v0)) (vK (pC u U3 (pk v0)))))
 (o9 (pq xk))
 pE)
 (oY (pM (W3.b3 (vn (pC u U3 (vC (pk U1) G.h.toCls G.N (sv G) r)) (vK (wC (uM (pD (Fl G) r G.P (qY U1 U2 U3)))))))
 (o9 (pq xk))
 pE)
 (oY (pG 4 vc (pQ U1 G.c.toCls G.V (yu G) r (pY U3)))
 (oY (pM (pC u v4 rL)
 (o9 (pq xk))
 pE)
 (oY (pG 5 vc (pk (pF (pk U1) v4)))
 (o9 (pq (sS (qc u (pN qu rfl G.g qm (pY v5)) pb) (sH (pQ v0 G.o.toCls G.bN (FS G) r (rK (pk U1) v5))))))))))),?_⟩)
 rintro ds M Q ⟨p,A,V,l,c,z,rfl,hp,rd,XS,hx,q⟩
 have hx:x∈l.pn:=qL.mp hx;obtain⟨ph,gr,ws,Yf,pr,gd,rs,i1,_⟩:=rd.pl;have p8:=rd.ok.p8;dsimp only[AS,HV]at q;refine oZ hp ?_;refine qA (c:=!(c==x)) (λh1=>?_) (λh1=>?_)
 .rw[h1,gZ]at q;exact⟨M,.refl,q⟩
 rw[show(!(c==x))=false from dI.mpr h1,fO]at q;refine oZ hp ?_;refine qA (c:=z==x) (λh2=>?_) (λh2=>?_)
 .rw[h2]at q;exact⟨M,.refl,q⟩
 rw[de h2]at q;refine oZ rd.bd.at_ (i' rfl (oZ i1 ⟨rfl,_,⟨rfl,rfl⟩,V.p,l,rfl,rd.pl,by omega,λq1 XH=>i' pA ⟨rfl,qr _,?_⟩⟩));have t:=qx.new (c:=.lst (l.pn.map D.str)) XH;have Xk:=rd.sub t;generalize pz M q1 (.lst (l.pn.map D.str))=M1 at t Xk ⊢;show if (!(inD (.str z) (l.pn.map D.str)))=true then _ else _
 rw[sy];refine qA (c:=!(hasS l.pn z)) (λh3=>?_) (λh3=>?_)
 .rw[h3,gZ]at q;exact⟨M,t,q⟩
 rw[show(!(hasS l.pn z))=false from dI.mpr h3,fO]at q;refine⟨A,V,l,c,z,rfl,Xk,XS,?_⟩;refine qA (c:=!(xt l V c z)) (λh4=>?_) (λh4=>?_)
 .rw[h4]at q;exact⟨M,t,q⟩
 rw[de h4]at q;refine oZ Xk.bd.at_ ⟨rfl,_,⟨rfl,rfl⟩,A,V,z,rfl,Xk.bd,Xk.k,?_⟩;cases e:vv V z with
 | none=>rw[e]at q;rw[show Ak V z=.mH from by unfold Ak;rw[e];rfl];exact⟨M,t,q⟩
 | some j=>
  rw[show Ak V z=.int (j:Nat)from by unfold Ak;rw[e];rfl];have hj:j<V.calls.length:=(iH.mp e).1;have e2:V.calls[j]?=some V.calls[j]:=cY hj;rw[e]at q;generalize V.calls[j]=k at e2;have q:Q (.bl (((V.calls[j]?).elim false λk=>(k.ms.length==2)&&Ht l x k.ms))) M:=q;rw[e2]at q;have hj:j<A.cs.length:=by rw[rd.bd.len];exact hj
  have ek:A.cs[j]?=some A.cs[j]:=cY hj;obtain⟨ad,md,f1,f2,f3,f4,_⟩:=Xk.bd.cs j _ k ek e2;refine oZ Xk.bd.at_ (i' rfl (i' rfl (i' Xk.bd.ca (i' (ra ek) (oZ f1 (i' rfl ?_))))));refine i' f4 ?_;have el:((((k.ms.map D.str).length:Nat):Int)==2)=(k.ms.length==2):=by rw[cV,gk,fg,fg];omega
  show if ((((k.ms.map D.str).length:Nat):Int)==2)=true then _ else _
  rw[el];have q:Q (.bl ((k.ms.length==2)&&Ht l x k.ms)) M:=q;refine qA (c:=k.ms.length==2) (λh5=>?_) (λh5=>?_)
  .rw[h5,eL]at q;have hm:=rd.ms k (qN e2);refine oZ (t _ _ hp) ⟨rfl,_,⟨rfl,rfl⟩,oZ Xk.bd.at_ (i' rfl ⟨p,x,V.p,l,md,k.ms,rfl,t _ _ hp,Xk.pl,f4,hm.2,hx,hm.1,M,t,q⟩)⟩
  .rw[show(k.ms.length==2)=false from dI.mpr h5,eR]at q;exact⟨M,t,q⟩
def Lw(G:Gl K mg a):Fq P w K mg base 1 a.r GT:=by
 refine fq G.r.toDG Ce (λr u=>⟨_,(o9 (pq xk)),?_⟩)
 rintro ds M Q ⟨x,y,rfl,q⟩
 exact⟨M,.refl,q⟩
def SK(G:Gl K mg a)(x y:Str)(n:Int):Fq P w K mg base 1 a.az (QH a (.silent x y n)):=by
 refine fq G.az.toDG zJ (λr u=>⟨_,(o9 (pq (sS (qc u (r6 (pk U1) (sU (D8 pb)) sT) (qV (pY (pk v0)))) (sH (qc u (pk v0) (pk U1)))))),?_⟩)
 rintro ds M Q ⟨p,L,k,c,rfl,hp,⟨ad,md,h1,h2,h3,h4,_⟩,q⟩
 refine oZ h1 (i' rfl (i' h2 λp1 Ye=>?_));have t1:=qx.new (c:=.lst (L3.uD (c.way.map D.str) (some (-1:Int)) none)) Ye;have l1:oJ (pz M p1 (.lst (L3.uD (c.way.map D.str) (some (-1:Int)) none))) p1=some ((c.way.map D.str).drop ((c.way.map D.str).length - 1)):=by rw[pA,Lq]
 show zU (pz M p1 (.lst (L3.uD (c.way.map D.str) (some (-1:Int)) none)) p) _;generalize pz M p1 (.lst (L3.uD (c.way.map D.str) (some (-1:Int)) none))=M1 at t1 l1 ⊢;refine oZ (t1 _ _ hp) ⟨oW rfl,λp2 WY=>?_⟩;have t2:=qx.new (c:=.lst [D.str x]) WY;have l2:=@pA M1 p2 [D.str x];show Option.elim (yc (pz M1 p2 (.lst [D.str x])) 9 (.ref p1) (.ref p2)) False _;generalize pz M1 p2 (.lst [D.str x])=M2 at t2 l2 ⊢;have s2:=t1.trans t2;refine i' (Ov (t2.lst l1) l2) ?_;dsimp only[GQ]at q;refine qA (c:=c.way.getLast?==some x) (λg=>?_) (λg=>?_)
 .rw[g,eL]at q;exact oZ (s2 _ _ hp) (oZ (s2 _ _ h1) ⟨M,s2,q⟩)
 .rw[show(c.way.getLast?==some x)=false from dI.mpr g,eR]at q;exact⟨M,s2,q⟩
def Ru(G:Gl K mg a):∀C sp,Nf a C sp->xo P w K mg base 6 "fits" C (NK K sp):=by
 rintro C sp ⟨v,rfl,rfl⟩
 cases v with
 | bar x ns=>exact⟨G.u.toCls,_,_,_,G.aE.m9,Lo G x ns,G.aE.b⟩
 | shut x ns=>exact⟨G.v.toCls,_,_,_,G.aF.m9,Na G x ns,G.aF.b⟩
 | always x y=>exact⟨G.y.toCls,_,_,_,G.aG.m9,NA G x y,G.aG.b⟩
 | night x y f m=>exact⟨G.n.toCls,_,_,_,G.aH.m9,La G x y f m,G.aH.b⟩
 | busy x y=>exact⟨G.z.toCls,_,_,_,G.aI.m9,KY G x y,G.aI.b⟩
 | silent x y n=>exact⟨G.w.toCls,_,_,_,G.aJ.m9,Me G x y n,G.aJ.b⟩
 | wait x=>exact⟨G.x.toCls,_,_,_,G.aK.m9,Lr G x,G.aK.b⟩
 | breaks x=>exact⟨G.o.toCls,_,_,_,G.aL.m9,Mt G x,G.aL.b⟩
def Uw(G:Gl K mg a):∀C sp,G8 a C sp->xo P w K mg base 1 "is_due" C (NK K sp):=by
 rintro C sp ⟨v,rfl,rfl⟩
 have F:=Lw (P:=P) (w:=w) (base:=base) G;cases v with
 | silent x y n=>exact⟨G.w.toCls,_,_,_,G.az.m9,SK G x y n,G.az.b⟩
 | bar _ _=>exact⟨G.u.toCls,_,_,_,G.ck,F,G.r.b⟩
 | shut _ _=>exact⟨G.v.toCls,_,_,_,G.cl,F,G.r.b⟩
 | always _ _=>exact⟨G.y.toCls,_,_,_,G.cm,F,G.r.b⟩
 | night _ _ _ _=>exact⟨G.n.toCls,_,_,_,G.cn,F,G.r.b⟩
 | busy _ _=>exact⟨G.z.toCls,_,_,_,G.co,F,G.r.b⟩
 | wait _=>exact⟨G.x.toCls,_,_,_,G.cp,F,G.r.b⟩
 | breaks _=>exact⟨G.o.toCls,_,_,_,G.cq,F,G.r.b⟩
def IW{es pre post:List D}{d:D}(e:pre++d::post=ul 0 es):∃x,es[pre.length]?=some x/\d=.tup [.int (pre.length:Nat),x]:=by
 have h:(ul 0 es)[pre.length]?=some d:=by rw[<-e];simp
 rw[zj]at h;cases q:es[pre.length]? with
 | none=>rw[q]at h;cases h
 | some x=>rw[q]at h;refine⟨x,rfl,?_⟩;have:=(dn h).symm;rw[mq]at this;exact this
def vg(n:Nat):∀es:List D,(ul n es).length=es.length:=λes=>by
 have h:∀i:Nat,(ul n es)[i]?=none↔es[i]?=none:=λi=>by rw[zj];cases es[i]?<;>simp
 have a:=(h es.length).mpr (g9 (dw _));have b:=(h (ul n es).length).mp (g9 (dw _));rw[List.getElem?_eq_none_iff]at a b;omega
def IS{l:pB}{V:qd}{f:Wi->Bool}{tt:Ae}{ok:Mp->Prop}{Q:DK}{M:Mp}{rest:List (Option D)}(hl:V.on.length=l.mE.length)(h16:l.mE.length<=16)(mO:ok M) (ht:∀(i:Nat) (w:uW),l.mE[i]?=some w->∀(y:Option D) (k:Bool->Mp->Prop),k (f w.2) M->tt (some (.int (i:Nat))::y::rest) M k) (q:∀p,M p=none->Q (.ref p) (pz M p (.lst ((HE l V f).map λn=>D.int (n:Nat))))):
  uQ (QK 2 (Fm (uG 0) (Fm (uG 1) Lx))) (OD (b3 (v3 1)) tt) (v3 0) ok Q (ul 0 (V.on.map D.bl)) [] (none::none::rest) M:=by
 have hz:=dM;refine xN (ul 0 (V.on.map D.bl)) (λpre acc δ M'=>M=M'/\acc=((List.range pre.length).filter λi=>V.on.getD i false&&(l.mE[i]?).elim false λw=>f w.2).map (λn=>D.int (n:Nat))/\∃y1 y2,δ=y1::y2::rest) (λ_ _ _ M' j=>by rw[<-j.1];exact mO) _ [] [] _ _ rfl ?_ ⟨rfl,rfl,none,none,rfl⟩ ?_ ?_
 .rw[vg,cV,hl];simp only[dN];omega
 .rintro pre d post e acc δ M' ⟨rfl,rfl,y1,y2,rfl⟩ k k2 hk YQ
  obtain⟨x,hx,rfl⟩:=IW e;rw[cZ,dP,iS,jg]at hk YQ;rw[dD]at hx;cases eo:V.on[pre.length]? with
  | none=>rw[eo]at hx;cases hx
  | some b=>
   rw[eo]at hx;have hx:D.bl b=x:=dn hx;subst hx;have hi:pre.length<l.mE.length:=by rw[<-hl];exact(cX.mp eo).1
   have ew:l.mE[pre.length]?=some l.mE[pre.length]:=cY hi;generalize l.mE[pre.length]=w0 at ew;have eg:V.on.getD pre.length false=b:=by rw[gc,eo];rfl
   have no:(b&&f w0.2)=false->k2 (some (.int (pre.length:Nat))::some (.bl b)::rest) M:=λg=>by refine YQ _ _ ⟨rfl,?_,_,_,rfl⟩;rw[iC (by rw[eg,ew];show ¬(b&&f w0.2)=true;rw[g];exact dB),iT,eO]
   refine⟨rfl,?_⟩;show if b=true then _ else _
   cases b with
   | false=>exact Cm (no rfl)
   | true=>
    refine NY (ht _ _ ew _ _ ?_);cases g:f w0.2 with
    | false=>exact Cm (no (by rw[g];rfl))
    | true=>refine NY (hk _ _ _ ⟨rfl,?_,_,_,rfl⟩);rw[iB (by rw[eg,ew];show(true&&f w0.2)=true;rw[g];rfl),iT,dQ];rfl
 .rintro acc δ M' ⟨rfl,rfl,y1,y2,rfl⟩ p hp
  rw[vg,cV];exact q p hp
def Bg{a:Ad}{M:Mp}{rs:List Addr}{ws:List uW}(h:sC a M rs ws){i:Nat}{w:uW}(e:ws[i]?=some w):∃r,wj (rs.map D.ref) (i:Nat)=some (.ref r)/\M r=some (.ins (w.2.cls a) w.2.nC):=by
 have hi:i<rs.length:=by rw[h.1];exact(cX.mp e).1
 exact⟨rs[i],uV (by rw[dD,cY hi];rfl),h.2 i _ w (cY hi) e⟩
def Im(ds:List D)(m:Nat):L3.uD ds none (some (m:Int))=ds.take m:=by
 unfold L3.uD;rw[HT.Co,HT.JF,j7,kO];by_cases h:m<=ds.length
 .rw[lZ h]
 .rw[Nat.min_eq_right (by omega),fG,iG (by omega)]
def Io(ds:List D)(m:Nat)(h:m<=ds.length):L3.uD ds (some (m:Int)) none=ds.drop m:=by unfold L3.uD;rw[HT.Co,HT.JF,lZ h];exact iG (by rw[gx];exact dw _)
def uf(l:pB)(V:qd):Prop:=∀z∈l.nm,(l.mL z=="turns")=true->∃v,V.ps.find? (λp=>decide (p.1=z))=some v/\0<=v.2/\v.2<=((l.mD z).length:Int)
def MW{l:pB}{V:qd}(h:uf l V){z:Str}(hz:z∈l.nm)(e:(l.mL z=="turns")=true):vk (sZ V.ps) (.inr z)=some (.int (zA V z:Nat))/\zA V z<=(l.mD z).length:=by
 obtain⟨v,e1,e2,e3⟩:=h z hz e;have h1:zA V z=v.2.toNat:=by unfold zA;rw[e1];rfl
 have h2:vk (sZ V.ps) (.inr z)=(V.ps.find? λp=>decide (p.1=z)).map λp=>D.int p.2:=xS (λp:Str×Int=>p.1) (λp=>D.int p.2) z V.ps;rw[h2,e1,h1];exact⟨by show some (D.int v.2)=some (.int (v.2.toNat:Nat));rw[Int.toNat_of_nonneg e2],by omega⟩
def HZ(a:Ad):qX:=λds M Q=>FJ λA V l c z=>ds=[.ref A.b,.str c,.str z]/\Rd a M A V l/\z∈l.nm/\Q (vZ (DD l V c z)) M
def Pa(a:Ad):qX:=λds M Q=>FJ λA V l c z=>ds=[.ref A.b,.str c,.str z]/\Rd a M A V l/\z∈l.nm/\uf l V/\Q (names (xA l V c z)) M
def Nz(a:Ad):qX:=λds M Q=>FJ λA V l c z=>ds=[.ref A.b,.str c,.str z]/\Rd a M A V l/\z∈l.nm/\uf l V/\Q (HR l V c z).d M
def JW:qX:=λds M Q=>CK λx r z=>ds=[.tup (.str x::r),.str z]/\Q (if (x=="wait")=true then(vi.waits z).d else if (x=="break")=true then(vi.breaks z).d else vi.barred.d) M
noncomputable def rb(st:sQ):List D:=st.map λs=>.tup [.str s.1,vZ s.2]
def K3(a:Ad):qX:=λds M Q=>S5 λA V l c z r way=>ds=[.ref A.b,.str c,.str z,.ref r]/\Rd a M A V l/\z∈l.nm/\uf l V/\oJ M r=some (List.map D.str way)/\way.length<=8000000/\∀q M',qx M M'->M q=none->oJ M' q=some (rb (uo l V c z way).2)->Q (.tup [(uo l V c z way).1.d,.ref q]) M'
def EV{l:pB}{V:qd}{f:Wi->Bool}{i:Nat}(h:i∈HE l V f):∃w,l.mE[i]?=some w/\f w.2=true:=by
 have h:=(fJ.mp h).2;rw[dW]at h;cases e:l.mE[i]? with
 | none=>rw[e]at h;cases h.2
 | some w=>rw[e]at h;exact⟨w,rfl,h.2⟩
noncomputable def Iy(l:pB)(way:List Str):Nat:=(l.nm.filter λx=>!(hasS way x)).length
def Bf{l:pB}{way:List Str}{z:Str}(hz:z∈l.nm)(h:hasS way z=false):Iy l (way++[z])<Iy l way:=by
 unfold Iy;have e:(l.nm.filter λx=>!(hasS (way++[z]) x))=(l.nm.filter λx=>!(hasS way x)).filter λx=>!(x==z):=by rw[List.filter_filter];refine List.filter_congr λx _=>?_;unfold hasS;rw[lY];show(!(way.any (·==x)||((z==x)||false)))=_;rw[ku,Bool.not_or,Bool.and_comm,me]
 rw[e];refine Nat.lt_of_le_of_ne (gD _ _) λg=>?_;have:=kD.mp (List.Sublist.eq_of_length fY g) z (fJ.mpr ⟨hz,by rw[h];rfl⟩);simp at this
def Bs{l:pB}(ok:qW l){w:uW}(hw:w∈l.mE){z y:Str}(h:JI z w.2=.inr y):y∈l.nm:=by
 have o:=ok.wo w hw;cases e:w.2 with
 | bar _ _=>rw[e]at h;cases h
 | shut _ _=>rw[e]at h;cases h
 | always x u=>rw[e]at h o;cases h;exact qL.mp o.2.1
 | night x u f m=>rw[e]at h o;cases h;exact qL.mp o.2.1
 | busy x u=>rw[e]at h o;cases h;exact qL.mp o.2.1
 | silent x u n=>rw[e]at h o;cases h;exact qL.mp o.2.1
 | wait _=>rw[e]at h;cases h
 | breaks _=>rw[e]at h;cases h
theorem EA(x:Str):∀ss:List Str,x∈ss->AM (.str x) (ss.map D.str)=some (ss.findIdx (·==x))
 | [],h=>by cases h
 | y::r,h=>by
  rw[dY,List.findIdx_cons];unfold AM;show(if (y==x)=true then some 0 else(AM (.str x) (r.map D.str)).map (·+1))=_;cases e:y==x with
  | true=>rfl
  | false=>
   rw[de dB];have hr:x∈r:=by
    rcases dh.mp h with g|g
    .rw[g,fz]at e;cases e
    .exact g
   rw[EA x r hr];rfl
def Hv(G:Gl K mg a):Fq P w K mg base 7 a.aV (HZ a):=by
 refine fq G.aV.toDG B0 (λr u=>⟨_,(oY (pG 3 B0 (pk (pk v0)))
 (o9 (pq (pP sf rfl G.A sj (pY (qC rfl (yb (ix:=[none,none,some 3,some 0,some 1,some 2]) (N':=["i","on","wishes","board","caller","target"])) (wI rfl G.bV (pY (pk v0))) (vN (n:=2) rfl (qI (qz 0) (qI (qz 1) uB))) (vJ (W3.b3 (yG (uM U1) (xQ (uM (ER (R:=Nf a) (pF U2 v0) (Ru G) (r.mono (by first|decide|omega)) (qY U3 v4 v5))))))) v0)))))),?_⟩)
 rintro ds M Q ⟨A,V,l,c,z,rfl,rd,hz,q⟩
 obtain⟨ph,gr,ws,Yf,pr,gd,rs,i1,i2,i3,i4,i5,i6,i7,i8⟩:=rd.pl;refine oZ rd.bd.at_ (i' rfl (oZ i1 (i' rfl ?_)));refine oZ rd.bd.at_ (i' rfl (i' rd.bd.on ?_));refine IS (rest:=[some (.ref ws),some (.ref A.b),some (.str c),some (.str z)]) rd.on rd.ok.w16 rd.bd.on (λi w0 ew y k hk=>?_) λp hp=>i' pA ⟨M,.new hp,q⟩;obtain⟨r,e1,e2⟩:=Bg i8 ew;refine i' i4 (i' e1 (oZ e2 ⟨by cases w0.2<;>rfl,_,⟨w0.2,rfl,rfl⟩,r,A,V,l,c,z,rfl,e2,rd,hz,rd.ok.wo w0 (qN ew),hk⟩))
def Qk(G:Gl K mg a):Fq P w K mg base 5 a.aW (Pa a):=by
 refine fq G.aW.toDG tw (λr u=>⟨_,(oY (pG 3 tw (pQ v0 G.c.toCls G.aN (An G) r (rK U1 U2)))
 (oY (pM (pC u (pQ (pk v0) G.h.toCls G.aM (xi G) r (pY U2)) pf)
 (o9 (pq (pP sf rfl G.A sj (pY U3))))
 pE)
 (oY (pG 4 tw (pQ (pk v0) G.h.toCls G.Y (uk G) r (pY U2)))
 (oY (pG 5 tw (yS u (pk v0) U2))
 (oY (wJ (i:=6) tw.nd rfl (Or.inl rfl) rfl (yb (ix:=[none,some 3]) (N':=["phone","free"])) (qG (pR (r6 v4 (sU v5) sT) (r6 v4 sT (sU v5)))) (qz 0) (vJ (pC u v0 U1)) v0)
 (o9 (pq (pP sf rfl G.A sj (pY (r6 v6 sT (sU pb))))))))))),?_⟩)
 rintro ds M Q ⟨A,V,l,c,z,rfl,rd,XS,nx,q⟩
 have hz:=dM;have bd:=rd.bd;have pl:=rd.pl;obtain⟨ph,gr,ws,Yf,pr,gd,rs,i1,_⟩:=rd.pl;obtain⟨⟨_,tf,_⟩,_⟩:=rd.ok.of XS;refine oZ bd.at_ ⟨rfl,_,⟨rfl,rfl⟩,A,V,l,c,z,rfl,rd,XS,λq1 M1 s1 XH e1=>?_⟩;refine oZ (s1 _ _ bd.at_) (i' rfl (oZ (s1 _ _ i1) ⟨rfl,_,⟨rfl,rfl⟩,V.p,z,l,rfl,pl.sub s1,?_⟩));unfold xA at q;cases e:l.mL z=="turns" with
 | false=>rw[e]at q;exact Ac (c:=!(l.mL z=="turns")) (by rw[e];rfl) (i' e1 ⟨M,s1,q⟩)
 | true=>
  obtain⟨hn,nl⟩:=MW nx XS e;generalize zA V z=n at hn nl q;rw[e,dg rfl]at q;refine Lg (c:=!(l.mL z=="turns")) (by rw[e];rfl) ?_;refine oZ (s1 _ _ bd.at_) (i' rfl (oZ (s1 _ _ i1) ⟨rfl,_,⟨rfl,rfl⟩,V.p,z,l,rfl,pl.sub s1,λq2 YB=>?_⟩));have s2:=s1.trans (qx.new (c:=.lst ((l.mD z).map D.str)) YB);have c2:=@pA M1 q2 ((l.mD z).map D.str);have e2:=(qx.new (c:=.lst ((l.mD z).map D.str)) YB).lst e1;generalize pz M1 q2 (.lst ((l.mD z).map D.str))=M2 at s2 c2 e2 ⊢;refine oZ (s2 _ _ bd.at_) (i' rfl (i' rfl (i' (s2.dk bd.nx) (i' hn ?_))));refine i' c2 λq3 hq3=>?_;rw[Io _ n (by rw[cV];exact nl),<-kz];have t3:=qx.new (c:=.lst (((l.mD z).drop n).map D.str)) hq3;have c3':=@pA M2 q3 (((l.mD z).drop n).map D.str);generalize pz M2 q3 (.lst (((l.mD z).drop n).map D.str))=M3 at t3 c3' ⊢;refine i' (t3.lst c2) λq4 hq4=>?_;rw[Im,<-mf];have t4:=qx.new (c:=.lst (((l.mD z).take n).map D.str)) hq4;have c4:=@pA M3 q4 (((l.mD z).take n).map D.str);generalize pz M3 q4 (.lst (((l.mD z).take n).map D.str))=M4 at t4 c4 ⊢;refine i' (t4.lst c3') (i' c4 ?_);refine⟨by rw[cV,cV,gx,fS];omega,λq5 hq5=>i' pA ?_⟩;rw[<-dQ];have t5:=qx.new (c:=.lst ((uO (l.mD z) n).map D.str)) hq5;have c5:=@pA M4 q5 ((uO (l.mD z) n).map D.str);show uQ _ _ _ _ _ ((uO (l.mD z) n).map D.str) _ _ (pz M4 q5 (.lst ((uO (l.mD z) n).map D.str)));generalize pz M4 q5 (.lst ((uO (l.mD z) n).map D.str))=M5 at t5 c5 ⊢;have s5:=t3.trans (t4.trans t5);have e5:=s5.lst e2;have tl:(uO (l.mD z) n).length<=200:=by unfold uO;rw[cZ,gx,fS];omega
  refine tH (f:=id) (t:=λd=>inD d ((ug l V c z).map D.str)) c5 _ [] _ (by rw[cV];simp only[dN];omega) (λd hd k hk=>?_) (λd hd _ k hk=>?_) λq6 hq6=>?_
  .obtain⟨x,hx,rfl⟩:=dF.mp hd;exact i' e5 ⟨rfl,qr _,hk⟩
  .obtain⟨x,hx,rfl⟩:=dF.mp hd;exact hk
  .have ef:[]++(List.filter (λd=>inD d ((ug l V c z).map D.str)) ((uO (l.mD z) n).map D.str)).map id=((uO (l.mD z) n).filter λx=>hasS (ug l V c z) x).map D.str:=by
    rw[d9,jb,gR];have:((λd=>inD d ((ug l V c z).map D.str))∘D.str)=λx=>hasS (ug l V c z) x:=by funext x;exact sy _ _
    rw[this]
   rw[ef];refine i' pA λq7 hq7=>i' pA ?_;rw[show L3.uD (((uO (l.mD z) n).filter λx=>hasS (ug l V c z) x).map D.str) none (some (1:Int))=(((uO (l.mD z) n).filter λx=>hasS (ug l V c z) x).take 1).map D.str from(Im _ 1).trans (mf).symm];exact⟨M,s2.trans (s5.trans ((qx.new hq6).trans (.new hq7))),q⟩
def LI(G:Gl K mg a):Fq P w K mg base 6 a.aX (Nz a):=by
 refine fq G.aX.toDG uN (λr u=>⟨_,(oY (pG 3 uN (pD (Qk G) r G.aW (qY v0 U1 U2)))
 (oY (pM (pC u (pN qu rfl G.g qm (pY U3)) pb)
 (o9 (pq (pJ (rK pf U2))))
 pE)
 (o9 (pq (pJ (qY pf U2 U3)))))),?_⟩)
 rintro ds M Q ⟨A,V,l,c,z,rfl,rd,hz,nx,q⟩
 refine⟨A,V,l,c,z,rfl,rd,hz,nx,?_⟩;unfold HR at q;cases e:xA l V c z with
 | nil=>rw[e]at q;exact⟨oW rfl,M,.refl,q⟩
 | cons x r=>rw[e]at q;exact⟨oW rfl,M,.refl,q⟩
def JM(G:Gl K mg a):Fq P w K mg base 1 a.aY JW:=by
 refine fq G.aY.toDG zV (λr u=>⟨_,(oY (pM (pC u (pF v0 pb) pf)
 (o9 (pq (pJ (rK pf U1))))
 pE)
 (oY (pM (pC u (pF v0 pb) pf)
 (o9 (pq (pJ (rK pf U1))))
 pE)
 (o9 (pq (pJ (pY pf)))))),?_⟩)
 rintro ds M Q ⟨x,r,z,rfl,q⟩
 refine i' (yZ _ _) (qA (c:=x=="wait") (λg=>?_) (λg=>?_))
 .rw[dg g]at q;exact⟨oW rfl,M,.refl,q⟩
 rw[de g]at q;refine i' (yZ _ _) (qA (c:=x=="break") (λg=>?_) (λg=>?_))
 .rw[dg g]at q;exact⟨oW rfl,M,.refl,q⟩
 rw[de g]at q;exact⟨oW rfl,M,.refl,q⟩
def Mh(G:Gl K mg a):Fq P w K mg base 8 a.aZ (K3 a):=by
 refine fq G.aZ.toDG vY (λr u=>⟨_,(oY (pG 4 vY (pP rZ rfl G.q rN (pY U3)))
 (oY (pG 5 vY (qV sR))
 (oY (Nm ft (pC u U2 v4)
 (oY (pI (rH v4 (pY U2)))
 (oY (pG 6 vY (pD (Hv G) r G.aV (qY v0 U1 U2)))
 (oY (pI (rH v5 (pY (pJ (rK U2 v6)))))
 (oY (pM (pC u (pN qu rfl G.g qm (pY v6)) pb)
 (o9 (pq (pJ (rK (pD (LI G) r G.aX (qY v0 U1 U2)) v5))))
 pE)
 (oY (pG 7 vY (Bp (R:=Je a) (pF (pk (pk v0)) (pF v6 pb)) (PB G) (r.mono (by first|decide|omega))))
 (oY (pM (pC u (pF v7 pb) pf)
 (o9 (pq (pJ (rK (pD (JM G) r G.aY (rK v7 U2)) v5))))
 pE)
 (o9 (pG 2 vY (pF v7 pb))))))))))
 (o9 (pq (pJ (rK (pJ (rK pf (pP sf rfl G.A sj (pY (r6 v4 (sU (xw v4 (pY U2))) sT))))) v5))))))),?_⟩)
 rintro ds M Q ⟨A,V,l,c,z0,r,X8,rfl,rd,hz0,nx,ZT,hw0,q⟩
 have hz:=dM;have p8:=rd.ok.p8;have g3:=rd.ok.g3;have nl:l.nm.length<=11:=by unfold pB.nm pB.pn pB.gn;rw[cZ,cV,cV];omega
 refine i' ZT λp1 Ye=>⟨oW rfl,λp2 WY=>?_⟩;have t1:=qx.new (c:=.lst (X8.map D.str)) Ye;have t2:=qx.new (c:=.lst []) WY;have c1:oJ (pz (pz M p1 (.lst (X8.map D.str))) p2 (.lst [])) p1=some (X8.map D.str):=t2.lst pA;have c2:=@pA (pz M p1 (.lst (X8.map D.str))) p2 [];have n12:p2≠p1:=λy=>by rw[y,pL]at WY;cases WY
 have m2:M p2=none:=t1.none WY;have s2:=t1.trans t2;generalize pz (pz M p1 (.lst (X8.map D.str))) p2 (.lst [])=M2 at c1 c2 s2 ⊢;refine⟨λm δ M'=>∃z way st,qx M M'/\oJ M' p1=some (List.map D.str way)/\oJ M' p2=some (rb st)/\z∈l.nm/\Iy l way<m/\way.length+m<=8000012/\st.length+m<=100/\wz l V c m z way st=uo l V c z0 X8/\∃y6 y7,δ=[some (.ref A.b),some (.str c),some (.str z),some (.ref r),some (.ref p1),some (.ref p2),y6,y7],⟨l.nm.length+1,z0,X8,[],s2,c1,c2,hz0,Nat.lt_succ_of_le (gD _ _),by omega,by show 0+(l.nm.length+1)<=100;omega,rfl,none,none,rfl⟩,?_⟩
 rintro m δ M' ⟨z,way,st,sM,l1,l2,XS,W1,hwl,hsl,er,y6,y7,rfl⟩
 obtain⟨m,rfl⟩:∃k,m=k+1:=⟨m - 1,by omega⟩;have q2:∀WS,qx M WS->oJ WS p2=some (rb (wz l V c (m+1) z way st).2)->Q (.tup [(wz l V c (m+1) z way st).1.d,.ref p2]) WS:=λWS s ll=>by rw[er]at ll ⊢;exact q p2 WS s m2 ll
 clear q;unfold wz at er q2;refine i' l1 ⟨rfl,qr way,?_⟩;show if (!(inD (.str z) (way.map D.str)))=true then _ else _
 rw[sy];refine qA (c:=!(hasS way z)) (λh1=>?_) (λh1=>?_)
 rotate_left
 .
  have h1:hasS way z=true:=by simpa using h1
  rw[dg h1]at q2;refine⟨by show(oJ M' p1).isSome=true;rw[l1];rfl,i' l1 ⟨rfl,qr _,i' (EA z way (qL.mp h1)) (i' l1 λp3 hp3=>?_)⟩⟩;have hle:way.findIdx (·==z)<=(way.map D.str).length:=by rw[cV];exact List.findIdx_le_length
  rw[Io _ _ hle,<-kz];refine i' pA ⟨oW rfl,oW rfl,_,.refl,q2 _ (sM.trans (.new hp3)) ((qx.new hp3).lst l2)⟩
 have h1:hasS way z=false:=by simpa using h1
 rw[h1,de dB]at er q2;refine⟨by show(oJ M' p1).isSome=true;rw[l1];rfl,i' l1 ⟨by rw[cV];omega,?_⟩⟩;have k3:sr p1 M' (pz M' p1 (.lst (way.map D.str++[D.str z]))):=.put;have s3:qx M (pz M' p1 (.lst (way.map D.str++[D.str z]))):=λx d hx=>by rw[tU (S4 hx Ye)];exact sM x d hx
 have c3:=k3.lst n12 l2;have l3:oJ (pz M' p1 (.lst (way.map D.str++[D.str z]))) p1=some ((way++[z]).map D.str):=by rw[pA,dQ];rfl
 generalize pz M' p1 (.lst (way.map D.str++[D.str z]))=M3 at s3 c3 l3 ⊢;refine⟨A,V,l,c,z,rfl,rd.sub s3,XS,?_⟩;generalize hf:DD l V c z=fs at er q2 ⊢;refine⟨by show(oJ M3 p2).isSome=true;rw[c3];rfl,oW rfl,i' c3 ⟨by unfold rb;rw[cV];omega,?_⟩⟩;have es:rb st++[.tup [.str z,vZ fs]]=rb (st++[(z,fs)]):=by unfold rb;rw[dQ];rfl
 rw[es];have s4:qx M (pz M3 p2 (.lst (rb (st++[(z,fs)])))):=λx d hx=>by rw[tU (S4 hx m2)];exact s3 x d hx
 have c4:=@pA M3 p2 (rb (st++[(z,fs)]));have l4:oJ (pz M3 p2 (.lst (rb (st++[(z,fs)])))) p1=some ((way++[z]).map D.str):=sr.lst .put (dO n12) l3;generalize pz M3 p2 (.lst (rb (st++[(z,fs)])))=M4 at s4 c4 l4 ⊢;cases fs with
 | nil=>exact⟨A,V,l,c,z,rfl,rd.sub s4,XS,nx,oW rfl,M4,.refl,q2 M4 s4 c4⟩
 | cons i fr=>
  obtain⟨w0,ew,_⟩:=EV (l:=l) (V:=V) (f:=AS l V c z) (i:=i) (by show i∈DD l V c z;rw[hf];exact dJ);dsimp only at er q2;rw[ew]at er q2;dsimp only[Option.elim]at er q2;obtain⟨ph,gr,ws,Yf,pr,gd,rs,i1,i2,i3,i4,i5,i6,i7,i8⟩:=(rd.sub s4).pl;obtain⟨Zo,e1,e2⟩:=Bg i8 ew;have hwo:=rd.ok.wo w0 (qN ew);have Zp:∀y,JI z w0.2=.inr y->y∈l.nm:=λy h=>Bs rd.ok (qN ew) h;refine oZ (s4 _ _ rd.bd.at_) (i' rfl (oZ i1 (i' rfl (i' (yZ _ _) (i' i4 (i' e1 ?_))))));cases hv:w0.2 with
  | bar x ns=>rw[hv]at q2 e2;exact oZ e2 ⟨rfl,_,.inl ⟨.inl rfl,rfl⟩,Zo,rfl,⟨"end",[],z,rfl,oW rfl,M4,.refl,q2 M4 s4 c4⟩⟩
  | shut x ns=>rw[hv]at q2 e2;exact oZ e2 ⟨rfl,_,.inl ⟨.inr rfl,rfl⟩,Zo,rfl,⟨"end",[],z,rfl,oW rfl,M4,.refl,q2 M4 s4 c4⟩⟩
  | wait x=>rw[hv]at q2 e2;exact oZ e2 ⟨rfl,_,.inr (.inr (.inl ⟨rfl,rfl⟩)),Zo,_,_,_,rfl,e2,rfl,⟨"wait",_,z,rfl,oW rfl,M4,.refl,q2 M4 s4 c4⟩⟩
  | breaks x=>rw[hv]at q2 e2;exact oZ e2 ⟨rfl,_,.inr (.inr (.inr ⟨rfl,rfl⟩)),Zo,rfl,⟨"break",_,z,rfl,oW rfl,M4,.refl,q2 M4 s4 c4⟩⟩
  | always x y=>rw[hv]at er e2 Zp;exact oZ e2 ⟨rfl,_,.inr (.inl ⟨.inl rfl,rfl⟩),Zo,_,_,_,rfl,e2,rfl,⟨m,fu _,y,way++[z],st++[(z,i::fr)],s4,l4,c4,Zp y rfl,by have:=Bf XS h1;omega,by rw[cZ];show way.length+1+m<=_;omega,by rw[cZ];show st.length+1+m<=_;omega,er,_,_,rfl⟩⟩
  | night x y f mm=>rw[hv]at er e2 Zp;exact oZ e2 ⟨rfl,_,.inr (.inl ⟨.inr (.inl rfl),rfl⟩),Zo,_,_,_,rfl,e2,rfl,⟨m,fu _,y,way++[z],st++[(z,i::fr)],s4,l4,c4,Zp y rfl,by have:=Bf XS h1;omega,by rw[cZ];show way.length+1+m<=_;omega,by rw[cZ];show st.length+1+m<=_;omega,er,_,_,rfl⟩⟩
  | busy x y=>rw[hv]at er e2 Zp;exact oZ e2 ⟨rfl,_,.inr (.inl ⟨.inr (.inr (.inl rfl)),rfl⟩),Zo,_,_,_,rfl,e2,rfl,⟨m,fu _,y,way++[z],st++[(z,i::fr)],s4,l4,c4,Zp y rfl,by have:=Bf XS h1;omega,by rw[cZ];show way.length+1+m<=_;omega,by rw[cZ];show st.length+1+m<=_;omega,er,_,_,rfl⟩⟩
  | silent x y n=>rw[hv]at er e2 Zp;exact oZ e2 ⟨rfl,_,.inr (.inl ⟨.inr (.inr (.inr rfl)),rfl⟩),Zo,_,_,_,rfl,e2,rfl,⟨m,fu _,y,way++[z],st++[(z,i::fr)],s4,l4,c4,Zp y rfl,by have:=Bf XS h1;omega,by rw[cZ];show way.length+1+m<=_;omega,by rw[cZ];show st.length+1+m<=_;omega,er,_,_,rfl⟩⟩
noncomputable def yL(V:qd)(i:Nat)(c:pj):qd:={V with calls:=V.calls.set i c}
def rW(V:qd)(i:Nat)(c d:pj):yL (yL V i c) i d=yL V i d:=by unfold yL;rw[jF]
structure CI(a:Ad)(M:Mp)(A:tW)(V:qd)(i:Nat)(k:rm)(c:pj):Prop where
 bd:pH a M A V
 e1:A.cs[i]?=some k
 e2:V.calls[i]?=some c
variable {M':Mp}{i:Nat}{k:rm}
section
variable {c:pj}
def CI.cell(h:CI a M A V i k c):rF a M (A.lists++V.fo) k c:=h.bd.cs i k c h.e1 h.e2
def CI.sub(h:CI a M A V i k c)(s:qx M M'):CI a M' A V i k c:=⟨h.bd.sub s,h.e1,h.e2⟩
def CI.put(h:CI a M A V i k c)(c':pj){ad md:Addr}(ew:c'.way=c.way)(la:oJ M ad=some (c'.at_.map D.str))(lm:oJ M md=some (c'.ms.map D.str))(na:ad∉A.lists++V.fo)(nm:md∉A.lists++V.fo):
  CI a (pz M k.p (.ins a.e (qZ c' k.wy ad md))) A (yL V i c') i k c'/\qO A M A (pz M k.p (.ins a.e (qZ c' k.wy ad md))):=by
 obtain⟨b,s⟩:=h.bd.n9 h.e1 h.e2 ew la lm na nm;refine⟨⟨b,h.e1,?_⟩,s⟩;show(V.calls.set i c')[i]?=some c';rw[fF (cX.mp h.e2).1]
end
inductive Qu(i:Nat)(c:pj):Ev->pj->Prop
 | rings (ps:List Str):Qu i c (.rings i ps) (c.ring ps)
 | quiet:Qu i c (.quiet i) c.nA
 | waits (x:Str):Qu i c (.waits i x) (c.wait x)
 | talks (ms:List Str):Qu i c (.talks i ms) (c.ny ms)
 | held (x:Str):Qu i c (.held i x) (c.hold x)
 | leaves (x:Str):Qu i c (.leaves i x) (c.drop x)
 | over (w:Str):Qu i c (.over i w) (c.over w)
def Gr(a:Ad):qX:=λds M Q=>Ca λp x=>ds=[.ref p,.str x]/\M p=some (.ins a.e [])/\∀M' wy ad md,sr p M M'->M wy=none->M ad=none->M md=none->ad≠wy->md≠wy->M' p=some (.ins a.e (qZ (yx x) wy ad md))->oJ M' wy=some []->oJ M' ad=some []->oJ M' md=some []->Q .mH M'
def Oc(a:Ad):qX:=λds M Q=>Iz λA V i k c w=>ds=[.ref k.p,.str w]/\CI a M A V i k c/\∀M',qO A M A M'->pH a M' A (yL V i (c.over w))->Q .mH M'
def Mv(a:Ad):qX:=λds M Q=>Iz λA V i k c x=>ds=[.ref k.p,.str x]/\CI a M A V i k c/\c.at_.length<=100/\c.ms.length<=100/\∀M',qO A M A M'->pH a M' A (yL V i (c.drop x))->Q .mH M'
def JO(a:Ad):qX:=λds M Q=>S5 λA V i k c e c'=>ds=[.ref k.p,Ev.d e]/\CI a M A V i k c/\c.at_.length<=100/\c.ms.length<=100/\Qu i c e c'/\∀M',qO A M A M'->pH a M' A (yL V i c')->Q .mH M'
def OQ(G:Gl K mg a):Fq P w K mg base 1 a.an (Gr a):=by
 refine fq G.an.toDG E4 (λr u=>⟨_,(oY (pV v0 pf)
 (oY (pV v0 U1)
 (oY (pV v0 (qV sR))
 (oY (pV v0 (qV sR))
 (oY (pV v0 (qV sR))
 (oY (pV v0 rL)
 (oY (pV v0 pb)
 (o9 (pV v0 rL))))))))),?_⟩)
 rintro ds M Q ⟨p,x,rfl,hb,q⟩
 refine oZ hb ⟨(G.j "state" rfl),by show 0<1000;decide,?_⟩;have k1:sr p M (pz M p (.ins a.e [("state",.str "rings")])):=.put;have b1:pz M p (.ins a.e [("state",.str "rings")]) p=some (.ins a.e [("state",.str "rings")]):=pL;show tQ _ _ _ _ (pz M p (.ins a.e [("state",.str "rings")]));generalize pz M p (.ins a.e [("state",.str "rings")])=N1 at k1 b1 ⊢;refine oZ b1 ⟨(G.j "caller" rfl),by show 1<1000;decide,?_⟩;have k2:=k1.trans (sr.put (p:=p) (c:=.ins a.e [("state",.str "rings"),("caller",.str x)]));have b2:pz N1 p (.ins a.e [("state",.str "rings"),("caller",.str x)]) p=some (.ins a.e [("state",.str "rings"),("caller",.str x)]):=pL;show tQ _ _ _ _ (pz N1 p (.ins a.e [("state",.str "rings"),("caller",.str x)]));generalize pz N1 p (.ins a.e [("state",.str "rings"),("caller",.str x)])=N2 at k2 b2 ⊢;refine⟨oW rfl,λwy hwy=>?_⟩;obtain⟨n3,e3,k3,c3,b3⟩:=sX (fs':=[("state",.str "rings"),("caller",.str x),("way",.ref wy)]) (c:=.lst []) b2 hwy;refine oZ e3 ⟨(G.j "way" rfl),by show 2<1000;decide,?_⟩;show tQ _ _ _ _ (pz (pz N2 wy (.lst [])) p (.ins a.e [("state",.str "rings"),("caller",.str x),("way",.ref wy)]));generalize pz (pz N2 wy (.lst [])) p (.ins a.e [("state",.str "rings"),("caller",.str x),("way",.ref wy)])=N3 at k3 c3 b3 ⊢;have z1:M wy=none:=rB k2 b2 hwy;have kk3:=k2.trans k3;have l3:oJ N3 wy=some []:=rT c3;refine⟨oW rfl,λad Y4=>?_⟩;obtain⟨n4,e4,k4,c4,b4⟩:=sX (fs':=[("state",.str "rings"),("caller",.str x),("way",.ref wy),("at",.ref ad)]) (c:=.lst []) b3 Y4;refine oZ e4 ⟨(G.j "at" rfl),by show 3<1000;decide,?_⟩;show tQ _ _ _ _ (pz (pz N3 ad (.lst [])) p (.ins a.e [("state",.str "rings"),("caller",.str x),("way",.ref wy),("at",.ref ad)]));generalize pz (pz N3 ad (.lst [])) p (.ins a.e [("state",.str "rings"),("caller",.str x),("way",.ref wy),("at",.ref ad)])=N4 at k4 c4 b4 ⊢;have z2:M ad=none:=rB kk3 b3 Y4;have YM:=kk3.trans k4;have naw:ad≠wy:=λz=>by rw[z,c3]at Y4;cases Y4
 have l4:=k4.lst (pO l3 b3) l3;have m4:oJ N4 ad=some []:=rT c4;refine⟨oW rfl,λmd hmd=>?_⟩;obtain⟨n5,e5,k5,c5,b5⟩:=sX (fs':=[("state",.str "rings"),("caller",.str x),("way",.ref wy),("at",.ref ad),("members",.ref md)]) (c:=.lst []) b4 hmd;refine oZ e5 ⟨(G.j "members" rfl),by show 4<1000;decide,?_⟩;show tQ _ _ _ _ (pz (pz N4 md (.lst [])) p (.ins a.e [("state",.str "rings"),("caller",.str x),("way",.ref wy),("at",.ref ad),("members",.ref md)]));generalize pz (pz N4 md (.lst [])) p (.ins a.e [("state",.str "rings"),("caller",.str x),("way",.ref wy),("at",.ref ad),("members",.ref md)])=N5 at k5 c5 b5 ⊢;have z3:M md=none:=rB YM b4 hmd;have YN:=YM.trans k5;have nmw:md≠wy:=λz=>by rw[z,pW l4]at hmd;cases hmd
 have l5:=k5.lst (pO l4 b4) l4;have m5:=k5.lst (pO m4 b4) m4;have o5:oJ N5 md=some []:=rT c5;refine oZ b5 ⟨(G.j "holder" rfl),by show 5<1000;decide,?_⟩;have k6:sr p N5 (pz N5 p (.ins a.e [("state",.str "rings"),("caller",.str x),("way",.ref wy),("at",.ref ad),("members",.ref md),("holder",.mH)])):=.put;have b6:pz N5 p (.ins a.e [("state",.str "rings"),("caller",.str x),("way",.ref wy),("at",.ref ad),("members",.ref md),("holder",.mH)]) p=some (.ins a.e [("state",.str "rings"),("caller",.str x),("way",.ref wy),("at",.ref ad),("members",.ref md),("holder",.mH)]):=pL;show tQ _ _ _ _ (pz N5 p (.ins a.e [("state",.str "rings"),("caller",.str x),("way",.ref wy),("at",.ref ad),("members",.ref md),("holder",.mH)]));generalize pz N5 p (.ins a.e [("state",.str "rings"),("caller",.str x),("way",.ref wy),("at",.ref ad),("members",.ref md),("holder",.mH)])=N6 at k6 b6 ⊢;refine oZ b6 ⟨(G.j "since" rfl),by show 6<1000;decide,?_⟩;have k7:=k6.trans (sr.put (p:=p) (c:=.ins a.e [("state",.str "rings"),("caller",.str x),("way",.ref wy),("at",.ref ad),("members",.ref md),("holder",.mH),("since",.int 0)]));have b7:pz N6 p (.ins a.e [("state",.str "rings"),("caller",.str x),("way",.ref wy),("at",.ref ad),("members",.ref md),("holder",.mH),("since",.int 0)]) p=some (.ins a.e [("state",.str "rings"),("caller",.str x),("way",.ref wy),("at",.ref ad),("members",.ref md),("holder",.mH),("since",.int 0)]):=pL;rw[show vQ "since" (.int 0) [("state",.str "rings"),("caller",.str x),("way",.ref wy),("at",.ref ad),("members",.ref md),("holder",.mH)]=([("state",.str "rings"),("caller",.str x),("way",.ref wy),("at",.ref ad),("members",.ref md),("holder",.mH),("since",.int 0)]:List (Str×D))from rfl];generalize pz N6 p (.ins a.e [("state",.str "rings"),("caller",.str x),("way",.ref wy),("at",.ref ad),("members",.ref md),("holder",.mH),("since",.int 0)])=N7 at k7 b7 ⊢;refine oZ b7 ⟨(G.j "word" rfl),by show 7<1000;decide,_,.refl,?_⟩;have k8:=k7.trans (sr.put (p:=p) (c:=.ins a.e (qZ (yx x) wy ad md)));exact q _ wy ad md (YN.trans k8) z1 z2 z3 naw nmw pL (k8.lst (pO l5 b5) l5) (k8.lst (pO m5 b5) m5) (k8.lst (pO o5 b5) o5)
def Ju(G:Gl K mg a):Fq P w K mg base 1 a.ac (Oc a):=by
 refine fq G.ac.toDG FQ (λr u=>⟨_,(oY (pV v0 pf)
 (oY (pV v0 U1)
 (oY (pV v0 (qV sR))
 (oY (pV v0 (qV sR))
 (o9 (pV v0 rL)))))),?_⟩)
 rintro ds M Q ⟨A,V,i,k,c,w0,rfl,h,q⟩
 obtain⟨ad,md,h1,h2,h3,h4,n1,n2⟩:=h.cell;refine oZ h1 ⟨(G.j "state" rfl),by show 8<1000;decide,?_⟩;obtain⟨g1,s1⟩:=h.put {c with st:="over"} rfl h3 h4 n1 n2;show tQ _ _ _ _ (pz M k.p (.ins a.e (qZ {c with st:="over"} k.wy ad md)));generalize pz M k.p (.ins a.e (qZ {c with st:="over"} k.wy ad md))=M1 at g1 s1 ⊢;clear h1 h2 h3 h4 n1 n2;obtain⟨ad,md,h1,h2,h3,h4,n1,n2⟩:=g1.cell;refine oZ h1 ⟨(G.j "word" rfl),by show 8<1000;decide,?_⟩;obtain⟨g2,s2⟩:=g1.put {c with st:="over",wd:=some w0} rfl h3 h4 n1 n2;show tQ _ _ _ _ (pz M1 k.p (.ins a.e (qZ {c with st:="over",wd:=some w0} k.wy ad md)));generalize pz M1 k.p (.ins a.e (qZ {c with st:="over",wd:=some w0} k.wy ad md))=M2 at g2 s2 ⊢;clear h1 h2 h3 h4 n1 n2;refine⟨oW rfl,λp hp=>?_⟩;have t3:=qx.new (c:=.lst []) hp;have lp:=@pA M2 p [];have np:=g2.bd.ni hp;have Y6:=g2.sub t3;have s2':=s2.trans (.sub t3);generalize pz M2 p (.lst [])=M2' at t3 lp Y6 s2' ⊢;obtain⟨ad,md,h1,h2,h3,h4,n1,n2⟩:=Y6.cell;refine oZ h1 ⟨(G.j "at" rfl),by show 8<1000;decide,?_⟩;obtain⟨g3,s3⟩:=Y6.put {c with st:="over",wd:=some w0,at_:=[]} rfl lp h4 np n2;show tQ _ _ _ _ (pz M2' k.p (.ins a.e (qZ {c with st:="over",wd:=some w0,at_:=[]} k.wy p md)));generalize pz M2' k.p (.ins a.e (qZ {c with st:="over",wd:=some w0,at_:=[]} k.wy p md))=M3 at g3 s3 ⊢;clear h1 h2 h3 h4 n1 n2 lp t3 np g2 Y6;refine⟨oW rfl,λp2 WY=>?_⟩;have t4:=qx.new (c:=.lst []) WY;have lp:=@pA M3 p2 [];have np:=g3.bd.ni WY;have Zq:=g3.sub t4;have s3':=s3.trans (.sub t4);generalize pz M3 p2 (.lst [])=M3' at t4 lp Zq s3' ⊢;obtain⟨ad,md,h1,h2,h3,h4,n1,n2⟩:=Zq.cell;refine oZ h1 ⟨(G.j "members" rfl),by show 8<1000;decide,?_⟩;obtain⟨g4,s4⟩:=Zq.put {c with st:="over",wd:=some w0,at_:=[],ms:=[]} rfl h3 lp n1 np;rw[show vQ "members" (.ref p2) (qZ {c with st:="over",wd:=some w0,at_:=[]} k.wy ad md)=qZ {c with st:="over",wd:=some w0,at_:=[],ms:=[]} k.wy ad p2 from rfl];generalize pz M3' k.p (.ins a.e (qZ {c with st:="over",wd:=some w0,at_:=[],ms:=[]} k.wy ad p2))=M4 at g4 s4 ⊢;clear h1 h2 h3 h4 n1 n2 lp t4 np g3 Zq;obtain⟨ad,md,h1,h2,h3,h4,n1,n2⟩:=g4.cell;refine oZ h1 ⟨(G.j "holder" rfl),by show 8<1000;decide,_,.refl,?_⟩;obtain⟨g5,s5⟩:=g4.put (c.over w0) rfl h3 h4 n1 n2;refine q _ ((s1.trans s2').trans (s3'.trans (s4.trans s5))) ?_;have:=g5.bd;rw[rW,rW,rW,rW]at this;exact this
def MX(G:Gl K mg a):Fq P w K mg base 1 a.aR (Mv a):=by
 refine fq G.aR.toDG Dg (λr u=>⟨_,(oY (pV v0 (qC rfl (yb (ix:=[none,some 1]) (N':=["other","phone"])) (qG (pk v0)) (qz 0) (vJ (pC u v0 U1)) v0))
 (o9 (pV v0 (qC rfl (yb (ix:=[none,some 1]) (N':=["other","phone"])) (qG (pk v0)) (qz 0) (vJ (pC u v0 U1)) v0)))),?_⟩)
 rintro ds M Q ⟨A,V,i,k,c,x,rfl,h,la,lm,q⟩
 have hz:=dM;obtain⟨ad,md,h1,h2,h3,h4,n1,n2⟩:=h.cell;refine oZ h1 (i' rfl (i' h3 (tH (f:=id) (t:=Ob x) h3 _ [] _ (by rw[cV];simp only[dN];omega) (λd hd k0 hk=>?_) (λd hd _ k0 hk=>?_) λp hp=>?_)))
 .obtain⟨y,hy,rfl⟩:=dF.mp hd;exact hk
 .obtain⟨y,hy,rfl⟩:=dF.mp hd;exact hk
 rw[Cg];have t1:=qx.new (c:=.lst ((rC c.at_ x).map D.str)) hp;have lp:=@pA M p ((rC c.at_ x).map D.str);have np:=h.bd.ni hp;have h':=h.sub t1;have s1:qO A M A (pz M p (.lst ((rC c.at_ x).map D.str))):=.sub t1;generalize pz M p (.lst ((rC c.at_ x).map D.str))=M1 at t1 lp h' s1 ⊢;clear h1 h2 h3 h4 n1 n2;obtain⟨ad,md,h1,h2,h3,h4,n1,n2⟩:=h'.cell;refine oZ h1 ⟨(G.j "at" rfl),by show 8<1000;decide,?_⟩;obtain⟨g2,s2⟩:=h'.put {c with at_:=rC c.at_ x} rfl lp h4 np n2;rw[show vQ "at" (.ref p) (qZ c k.wy ad md)=qZ {c with at_:=rC c.at_ x} k.wy p md from rfl];generalize pz M1 k.p (.ins a.e (qZ {c with at_:=rC c.at_ x} k.wy p md))=M2 at g2 s2 ⊢;clear h1 h2 h3 h4 n1 n2 lp np;obtain⟨ad,md,h1,h2,h3,h4,n1,n2⟩:=g2.cell;refine oZ h1 (i' rfl (i' h4 (tH (f:=id) (t:=Ob x) h4 _ [] _ (by rw[cV];simp only[dN];show 0+c.ms.length<=sizeLine;omega) (λd hd k0 hk=>?_) (λd hd _ k0 hk=>?_) λp2 WY=>?_)))
 .obtain⟨y,hy,rfl⟩:=dF.mp hd;exact hk
 .obtain⟨y,hy,rfl⟩:=dF.mp hd;exact hk
 rw[Cg];have t3:=qx.new (c:=.lst ((rC c.ms x).map D.str)) WY;have lp:=@pA M2 p2 ((rC c.ms x).map D.str);have np:=g2.bd.ni WY;have Y6:=g2.sub t3;have s3:qO A M2 A (pz M2 p2 (.lst ((rC c.ms x).map D.str))):=.sub t3;generalize pz M2 p2 (.lst ((rC c.ms x).map D.str))=M3 at t3 lp Y6 s3 ⊢;clear h1 h2 h3 h4 n1 n2;obtain⟨ad,md,h1,h2,h3,h4,n1,n2⟩:=Y6.cell;refine oZ h1 ⟨(G.j "members" rfl),by show 8<1000;decide,_,.refl,?_⟩;obtain⟨g4,s4⟩:=Y6.put (c.drop x) rfl h3 lp n1 np;refine q _ ((s1.trans s2).trans (s3.trans s4)) ?_;have:=g4.bd;rw[rW]at this;exact this
def J0(G:Gl K mg a):Fq P w K mg base 2 a.aS (JO a):=by
 refine fq G.aS.toDG xp (λr u=>⟨_,(oY (pG 2 xp (pF U1 pb))
 (o9 (pM (pC u U2 pf)
 (oY (pV v0 pf)
 (oY (pV v0 (pP rZ rfl G.q rN (pY (pF U1 pb))))
 (o9 (pV v0 pb))))
 (o9 (pM (pC u U2 pf)
 (o9 (pV v0 (qV sR)))
 (o9 (pM (pC u U2 pf)
 (oY (pV v0 pf)
 (o9 (pV v0 (qV (pY (pF U1 pb))))))
 (o9 (pM (pC u U2 pf)
 (oY (pV v0 pf)
 (oY (pV v0 (pP rZ rfl G.q rN (pY (pF U1 pb))))
 (oY (pV v0 (qV sR))
 (o9 (pV v0 rL)))))
 (o9 (pM (pC u U2 pf)
 (oY (pV v0 pf)
 (o9 (pV v0 (pF U1 pb))))
 (o9 (pM (pC u U2 pf)
 (o9 (pI (pD (MX G) r G.aR (rK v0 (pF U1 pb)))))
 (o9 (pM (pC u U2 pf)
 (o9 (pI (pD (Ju G) r G.ac (rK v0 (pF U1 pb)))))
 pE))))))))))))))),?_⟩)
 rintro ds M Q ⟨A,V,i,k,c,e,c',rfl,h,la,lm,hc,q⟩
 cases hc with
 | over w0=>exact⟨A,V,i,k,c,w0,rfl,h,λM' s b=>⟨M',.refl,q M' s b⟩⟩
 | leaves x=>exact⟨A,V,i,k,c,x,rfl,h,la,lm,λM' s b=>⟨M',.refl,q M' s b⟩⟩
 | quiet=>refine⟨oW rfl,λp hp=>?_⟩;have t3:=qx.new (c:=.lst []) hp;have lp:=@pA M p [];have np:=h.bd.ni hp;have g1:=h.sub t3;generalize pz M p (.lst [])=M1 at t3 lp g1 ⊢;obtain⟨ad,md,h1,h2,h3,h4,n1,n2⟩:=g1.cell;refine oZ h1 ⟨(G.j "at" rfl),by show 8<1000;decide,_,.refl,?_⟩;obtain⟨g5,s5⟩:=g1.put c.nA rfl lp h4 np n2;exact q _ ((qO.sub t3).trans s5) g5.bd
 | waits x=>obtain⟨ad,md,h1,h2,h3,h4,n1,n2⟩:=h.cell;refine oZ h1 ⟨(G.j "state" rfl),by show 8<1000;decide,?_⟩;obtain⟨g1,s1⟩:=h.put {c with st:="waits"} rfl h3 h4 n1 n2;show tQ _ _ _ _ (pz M k.p (.ins a.e (qZ {c with st:="waits"} k.wy ad md)));generalize pz M k.p (.ins a.e (qZ {c with st:="waits"} k.wy ad md))=M1 at g1 s1 ⊢;clear h1 h2 h3 h4 n1 n2;refine⟨oW rfl,λp hp=>?_⟩;have t3:=qx.new (c:=.lst [D.str x]) hp;have lp:=@pA M1 p [D.str x];have np:=g1.bd.ni hp;have YD:=g1.sub t3;generalize pz M1 p (.lst [D.str x])=M1' at t3 lp YD ⊢;obtain⟨ad,md,h1,h2,h3,h4,n1,n2⟩:=YD.cell;refine oZ h1 ⟨(G.j "at" rfl),by show 8<1000;decide,_,.refl,?_⟩;obtain⟨g5,s5⟩:=YD.put (c.wait x) rfl lp h4 np n2;refine q _ (s1.trans ((qO.sub t3).trans s5)) ?_;have:=g5.bd;rw[rW]at this;exact this
 | held x=>obtain⟨ad,md,h1,h2,h3,h4,n1,n2⟩:=h.cell;refine oZ h1 ⟨(G.j "state" rfl),by show 8<1000;decide,?_⟩;obtain⟨g1,s1⟩:=h.put {c with st:="held"} rfl h3 h4 n1 n2;show tQ _ _ _ _ (pz M k.p (.ins a.e (qZ {c with st:="held"} k.wy ad md)));generalize pz M k.p (.ins a.e (qZ {c with st:="held"} k.wy ad md))=M1 at g1 s1 ⊢;clear h1 h2 h3 h4 n1 n2;obtain⟨ad,md,h1,h2,h3,h4,n1,n2⟩:=g1.cell;refine oZ h1 ⟨(G.j "holder" rfl),by show 8<1000;decide,_,.refl,?_⟩;obtain⟨g5,s5⟩:=g1.put (c.hold x) rfl h3 h4 n1 n2;refine q _ (s1.trans s5) ?_;have:=g5.bd;rw[rW]at this;exact this
 | rings ps=>obtain⟨ad,md,h1,h2,h3,h4,n1,n2⟩:=h.cell;refine oZ h1 ⟨(G.j "state" rfl),by show 8<1000;decide,?_⟩;obtain⟨g1,s1⟩:=h.put {c with st:="rings"} rfl h3 h4 n1 n2;show tQ _ _ _ _ (pz M k.p (.ins a.e (qZ {c with st:="rings"} k.wy ad md)));generalize pz M k.p (.ins a.e (qZ {c with st:="rings"} k.wy ad md))=M1 at g1 s1 ⊢;clear h1 h2 h3 h4 n1 n2;refine λp hp=>?_;have t3:=qx.new (c:=.lst (ps.map D.str)) hp;have lp:=@pA M1 p (ps.map D.str);have np:=g1.bd.ni hp;have YD:=g1.sub t3;have s1':=s1.trans (.sub t3);generalize pz M1 p (.lst (ps.map D.str))=M1' at t3 lp YD s1' ⊢;obtain⟨ad,md,h1,h2,h3,h4,n1,n2⟩:=YD.cell;refine oZ h1 ⟨(G.j "at" rfl),by show 8<1000;decide,?_⟩;obtain⟨g3,s3⟩:=YD.put {c with st:="rings",at_:=ps} rfl lp h4 np n2;rw[show vQ "at" (.ref p) (qZ {c with st:="rings"} k.wy ad md)=qZ {c with st:="rings",at_:=ps} k.wy p md from rfl];generalize pz M1' k.p (.ins a.e (qZ {c with st:="rings",at_:=ps} k.wy p md))=M3 at g3 s3 ⊢;clear h1 h2 h3 h4 n1 n2 lp t3 np;obtain⟨ad,md,h1,h2,h3,h4,n1,n2⟩:=g3.cell;refine oZ h1 ⟨(G.j "since" rfl),by show 8<1000;decide,_,.refl,?_⟩;obtain⟨g5,s5⟩:=g3.put (c.ring ps) rfl h3 h4 n1 n2;refine q _ (s1'.trans (s3.trans s5)) ?_;have:=g5.bd;rw[rW,rW]at this;exact this
 | talks ms=>obtain⟨ad,md,h1,h2,h3,h4,n1,n2⟩:=h.cell;refine oZ h1 ⟨(G.j "state" rfl),by show 8<1000;decide,?_⟩;obtain⟨g1,s1⟩:=h.put {c with st:="talks"} rfl h3 h4 n1 n2;show tQ _ _ _ _ (pz M k.p (.ins a.e (qZ {c with st:="talks"} k.wy ad md)));generalize pz M k.p (.ins a.e (qZ {c with st:="talks"} k.wy ad md))=M1 at g1 s1 ⊢;clear h1 h2 h3 h4 n1 n2;refine λp hp=>?_;have t3:=qx.new (c:=.lst (ms.map D.str)) hp;have lp:=@pA M1 p (ms.map D.str);have np:=g1.bd.ni hp;have YD:=g1.sub t3;have s1':=s1.trans (.sub t3);generalize pz M1 p (.lst (ms.map D.str))=M1' at t3 lp YD s1' ⊢;obtain⟨ad,md,h1,h2,h3,h4,n1,n2⟩:=YD.cell;refine oZ h1 ⟨(G.j "members" rfl),by show 8<1000;decide,?_⟩;obtain⟨g3,s3⟩:=YD.put {c with st:="talks",ms:=ms} rfl h3 lp n1 np;show tQ _ _ _ _ (pz M1' k.p (.ins a.e (qZ {c with st:="talks",ms:=ms} k.wy ad p)));generalize pz M1' k.p (.ins a.e (qZ {c with st:="talks",ms:=ms} k.wy ad p))=M3 at g3 s3 ⊢;clear h1 h2 h3 h4 n1 n2 lp t3 np;refine⟨oW rfl,λp2 WY=>?_⟩;have t4:=qx.new (c:=.lst []) WY;have lp:=@pA M3 p2 [];have np:=g3.bd.ni WY;have Zq:=g3.sub t4;have s3':=s3.trans (.sub t4);generalize pz M3 p2 (.lst [])=M3' at t4 lp Zq s3' ⊢;obtain⟨ad,md,h1,h2,h3,h4,n1,n2⟩:=Zq.cell;refine oZ h1 ⟨(G.j "at" rfl),by show 8<1000;decide,?_⟩;obtain⟨g4,s4⟩:=Zq.put {c with st:="talks",ms:=ms,at_:=[]} rfl lp h4 np n2;rw[show vQ "at" (.ref p2) (qZ {c with st:="talks",ms:=ms} k.wy ad md)=qZ {c with st:="talks",ms:=ms,at_:=[]} k.wy p2 md from rfl];generalize pz M3' k.p (.ins a.e (qZ {c with st:="talks",ms:=ms,at_:=[]} k.wy p2 md))=M4 at g4 s4 ⊢;clear h1 h2 h3 h4 n1 n2 lp t4 np;obtain⟨ad,md,h1,h2,h3,h4,n1,n2⟩:=g4.cell;refine oZ h1 ⟨(G.j "holder" rfl),by show 8<1000;decide,_,.refl,?_⟩;obtain⟨g5,s5⟩:=g4.put (c.ny ms) rfl h3 h4 n1 n2;refine q _ (s1'.trans (s3'.trans (s4.trans s5))) ?_;have:=g5.bd;rw[rW,rW,rW]at this;exact this
theorem tD{α:Type}{f:α->α}:∀{l:List α} {i:Nat} {c:α},l[i]?=some c->l.modify i f=l.set i (f c)
 | [],_,_,h=>by simp at h
 | _::_,0,_,h=>by cases h;rfl
 | x::r,i+1,c,h=>by rw[List.modify_succ_cons,kU,tD (l:=r) (by simpa using h)]
def HW(ps:List (Str×Int))(z:Str)(n:Int):Bx (sZ ps) (.inr z) (.int n)=sZ (Cv ps z n):=by
 have ea:((sZ ps).any λkv=>decide (kv.1=(Sum.inr z:qS)))=ps.any λp=>decide (p.1=z):=by unfold sZ;rw[jJ];congr 1;funext p;have:((Sum.inr p.1:qS)=Sum.inr z)=(p.1=z):=propext ⟨λh=>jU h,λh=>by rw[h]⟩;simp only[Function.comp,this]
 unfold Bx Cv;rw[ea];by_cases h:(ps.any λp=>decide (p.1=z))=true
 .rw[dg h,dg h];unfold sZ;rw[d6,d6];refine gw λp _=>?_;by_cases hp:p.1=z
  .simp[hp]
  .have:¬(Sum.inr p.1:qS)=Sum.inr z:=λy=>hp (jU y);simp[hp]
 .rw[de h,de h];unfold sZ;rw[dQ];rfl
def GJ{α:Type}{l:List α}{i:Nat}{x:α}(h:l[i]?=some x):l.set i x=l:=by obtain⟨hi,e⟩:=cX.mp h;rw[<-e,List.set_getElem_self]
structure Wd(V:qd):Prop where
 lo:V.log.length<10000000
 le:V.mT.length<10000000
 ca:V.calls.length<=1000000
 ps:V.ps.length<10000000
 cs:∀c∈V.calls,c.way.length<10000000/\c.at_.length<=100/\c.ms.length<=100
def AW(a:Ad):qX:=λds M Q=>FJ λA V k c v=>ds=[.ref A.b,rQ.d v]/\CI a M A V v.i k c/\V.mT.length<10000000/\c.way.length<10000000/\∀M',qO A M A M'->pH a M' A {yL V v.i (c.go v.g)with mT:=V.mT++[v]}->Q .mH M'
def CL(a:Ad):qX:=λds M Q=>S7 λA V i j ki ci cj ms=>ds=[.ref A.b,.int (i:Nat),.int (j:Nat),names ms]/\CI a M A V i ki ci/\V.calls[j]?=some cj/\i≠j/\V.mT.length<10000000/\∀M' A',A'.b=A.b->qO A M A' M'->pH a M' A' {yL (yL V i (ci.over "merged")) j (cj.mem ms)with mT:=V.mT.map (rQ.to i j)}->Q .mH M'
def zB(a:Ad):qX:=λds M Q=>Ca λA V=>ds=[.ref A.b]/\pH a M A V/\∀M',qO A M A M'->pH a M' A {V with t:=V.t+1,calls:=V.calls.map pj.tick}->Q .mH M'
def vI(a:Ad):qX:=λds M Q=>CC λb A V e=>ds=[.ref b,Ev.d e]/\A.b=b/\pH a M A V/\Wd V/\e.ok V/\∀M' A',A'.b=A.b->qO A M A' M'->pH a M' A' (pS V e)->Q .mH M'
noncomputable def SS(m k:Nat):D->D
 | .tup (.int i::r)=>if i=(m:Int)then .tup (.int (k:Nat)::r)else .tup (.int i::r)
 | d=>d
def SO(m k:Nat)(v:rQ):SS m k v.d=(v.to m k).d:=by
 show(if ((v.i:Nat):Int)=(m:Int)then _ else _)=_;unfold rQ.to;by_cases h:v.i=m
 .rw[dg h,dg (by rw[h])];rfl
 .rw[de h,de (by omega)];rfl
def Hl(G:Gl K mg a):Fq P w K mg base 1 a.bA (AW a):=by
 refine fq G.bA.toDG zD (λr u=>⟨_,(oY (pI (rH (pk v0) (pY U1)))
 (o9 (pI (rH (pk (pF (pk v0) (pF U1 pb))) (pY (pF U1 pb)))))),?_⟩)
 rintro ds M Q ⟨A,V,k,c,v,rfl,ci,l1,l2,q⟩
 have hz:=dM;have bd:=ci.bd;refine oZ bd.at_ (i' rfl ⟨by show(oJ M A.le).isSome=true;rw[bd.le];rfl,i' bd.le ⟨by rw[cV];omega,?_⟩⟩);obtain⟨b1,s1⟩:=bd.oh (es:=V.mT++[v]);rw[dQ]at b1 s1;have b1:pH a (pz M A.le (.lst (V.mT.map rQ.d++[v.d]))) A {V with mT:=V.mT++[v]}:=b1;have s1:qO A M A (pz M A.le (.lst (V.mT.map rQ.d++[v.d]))):=s1;generalize pz M A.le (.lst (V.mT.map rQ.d++[v.d]))=M1 at b1 s1 ⊢;obtain⟨ad,md,h1,h2,h3,h4,n1,n2⟩:=b1.cs v.i k c ci.e1 ci.e2;refine oZ b1.at_ (i' rfl (i' b1.ca (i' (ra ci.e1) (oZ h1 (i' rfl ⟨by show(oJ M1 k.wy).isSome=true;rw[h2];rfl,i' h2 ⟨by rw[cV];omega,?_⟩⟩)))));obtain⟨b2,s2⟩:=b1.oA (ws:=c.way++[v.g]) ci.e1 ci.e2;rw[dQ]at b2 s2;exact⟨_,.refl,q _ (s1.trans s2) b2⟩
def Nn(G:Gl K mg a):Fq P w K mg base 2 a.bB (CL a):=by
 refine fq G.bB.toDG xI (λr u=>⟨_,(oY (pI (pD (Ju G) r G.ac (rK (pF (pk v0) U1) pf)))
 (oY (pV v0 (qC rfl (yb (ix:=[none,some 1,some 2]) (N':=["leg","merged","kept"])) (qG (pk v0)) (qz 0) rS (QP (pC u (pF v0 pb) U1) (pR (pJ (pY U2)) (r6 v0 (sU pb) sT)) v0)))
 (oY (pG 4 xI (pF (pk v0) U2))
 (o9 (pV v4 (pP rZ rfl G.q rN (pY U3))))))),?_⟩)
 rintro ds M Q ⟨A,V,i,j,ki,ci,cj,ms,rfl,hi,hj,XM,l1,q⟩
 have hz:=dM;refine oZ hi.bd.at_ (i' rfl (i' rfl (i' hi.bd.ca (i' (ra hi.e1) ⟨A,V,i,ki,ci,"merged",rfl,hi,λM1 s1 b1=>?_⟩))));have hj1:(yL V i (ci.over "merged")).calls[j]?=some cj:=by show(V.calls.set i _)[j]?=_;rw[fE XM];exact hj
 have le1:oJ M1 A.le=some (V.mT.map rQ.d):=b1.le;refine oZ b1.at_ (i' rfl (i' le1 (rh (f:=SS i j) le1 _ [] _ (by rw[cV];simp only[dN];omega) (λd hd k hk=>?_) λp hp=>?_)))
 .obtain⟨v,_,rfl⟩:=dF.mp hd;refine i' rfl ?_;have hk:k (if ((v.i:Nat):Int)=(i:Int)then .tup [.int (j:Nat),.str v.f,.str v.g,.str v.y]else .tup [.int (v.i:Nat),.str v.f,.str v.g,.str v.y]) M1:=hk;refine qA (c:=((v.i:Nat):Int)==(i:Nat)) (λz=>?_) (λz=>?_)
  .rw[dg (eq_of_beq z)]at hk;exact⟨oW rfl,fA _ _,by show 1+3<=sizeLine;omega,hk⟩
  .rw[de (λy=>z (by rw[y];exact fz _))]at hk;exact hk
 have em:[]++(V.mT.map rQ.d).map (SS i j)=(V.mT.map (rQ.to i j)).map rQ.d:=by rw[d9,d6,d6];exact gw λv _=>SO i j v
 rw[em];obtain⟨b2,s2⟩:=b1.om (es:=V.mT.map (rQ.to i j)) hp;have t:=qx.new (c:=.lst ((V.mT.map (rQ.to i j)).map rQ.d)) hp;refine oZ (t _ _ b1.at_) ⟨(G.F "legs" rfl),by show 8<1000;decide,?_⟩;show tQ _ _ _ _ (pz (pz M1 p (.lst ((V.mT.map (rQ.to i j)).map rQ.d))) A.b (.ins a.c (tL (.ref V.p) V.h V.t A.ca p A.nx A.on A.lo)));have b2:pH a (pz (pz M1 p (.lst ((V.mT.map (rQ.to i j)).map rQ.d))) A.b (.ins a.c (tL (.ref V.p) V.h V.t A.ca p A.nx A.on A.lo))) {A with le:=p} {yL V i (ci.over "merged")with mT:=V.mT.map (rQ.to i j)}:=b2;have s2:qO A M1 {A with le:=p} (pz (pz M1 p (.lst ((V.mT.map (rQ.to i j)).map rQ.d))) A.b (.ins a.c (tL (.ref V.p) V.h V.t A.ca p A.nx A.on A.lo))):=s2;generalize pz (pz M1 p (.lst ((V.mT.map (rQ.to i j)).map rQ.d))) A.b (.ins a.c (tL (.ref V.p) V.h V.t A.ca p A.nx A.on A.lo))=M2 at b2 s2 ⊢;have hjk:j<A.cs.length:=by rw[hi.bd.len];exact(cX.mp hj).1
 have ej:A.cs[j]?=some A.cs[j]:=cY hjk;generalize A.cs[j]=kj at ej;have cj2:CI a M2 {A with le:=p} _ j kj cj:=⟨b2,ej,hj1⟩;refine oZ b2.at_ (i' rfl (i' rfl (i' b2.ca (i' (ra ej) ?_))));refine λr ZT=>?_;have t3:=qx.new (c:=.lst (ms.map D.str)) ZT;have lr:=@pA M2 r (ms.map D.str);have nr:=b2.ni ZT;have cj3:=cj2.sub t3;generalize pz M2 r (.lst (ms.map D.str))=M3 at t3 lr cj3 ⊢;obtain⟨ad,md,h1,h2,h3,h4,n1,n2⟩:=cj3.cell;refine oZ h1 ⟨(G.j "members" rfl),by show 8<1000;decide,_,.refl,?_⟩;obtain⟨g5,s5⟩:=cj3.put (cj.mem ms) rfl h3 lr n1 nr;exact q _ {A with le:=p} rfl (s1.trans (s2.trans ((qO.sub t3).trans s5))) g5.bd
def Ep(G:Gl K mg a):Fq P w K mg base 1 a.bC (zB a):=by
 refine fq G.bC.toDG vb (λr u=>⟨_,(oY (Dv v0 pb)
 (o9 (uI ft rfl (qG (pk v0)) (sF 1 vb)
 (o9 (pM (pC u (pk U1) pf)
 (o9 (Dv U1 pb))
 pE))))),?_⟩)
 rintro ds M Q ⟨A,V,rfl,bd,q⟩
 refine oZ bd.at_ ⟨(G.F "turn" rfl),i' rfl (i' rfl (oZ bd.at_ ⟨rfl,by show 8<1000;decide,?_⟩))⟩;obtain⟨b1,s1⟩:=bd.putT (t:=V.t+1);rw[show vQ "turn" (.int (V.t+1)) (tL (.ref V.p) V.h V.t A.ca A.le A.nx A.on A.lo)=tL (.ref V.p) V.h (V.t+1) A.ca A.le A.nx A.on A.lo from rfl];generalize pz M A.b (.ins a.c (tL (.ref V.p) V.h (V.t+1) A.ca A.le A.nx A.on A.lo))=M1 at b1 s1 ⊢;refine oZ b1.at_ (i' rfl (i' b1.ca ?_));refine wq (A.cs.map λk=>D.ref k.p) (λpre δ M'=>pH a M' A {V with t:=V.t+1,calls:=(V.calls.take pre.length).map pj.tick++V.calls.drop pre.length}/\qO A M A M'/\∃y,δ=[some (.ref A.b),y]) (λ_ _ M' j=>j.1.ca) _ [] _ _ rfl ⟨b1,s1,none,rfl⟩ ?_ ?_
 .rintro pre d post e δ M' ⟨b2,s2,y,rfl⟩ nx WZ
  have hd:(A.cs.map λk=>D.ref k.p)[pre.length]?=some d:=by rw[<-e];simp
  rw[dD]at hd;cases ek:A.cs[pre.length]? with
  | none=>rw[ek]at hd;cases hd
  | some k=>
   rw[ek]at hd;have hd:D.ref k.p=d:=dn hd;subst hd;have hi:pre.length<V.calls.length:=by rw[<-bd.len];exact(cX.mp ek).1
   have ec:V.calls[pre.length]?=some V.calls[pre.length]:=cY hi;have ed:V.calls.drop pre.length=V.calls[pre.length]::V.calls.drop (pre.length+1):=gH hi;have et:V.calls.take (pre.length+1)=V.calls.take pre.length++[V.calls[pre.length]]:=by rw[gW,ec];rfl
   generalize V.calls[pre.length]=c at ec ed et;have hl:((V.calls.take pre.length).map pj.tick).length=pre.length:=by rw[cV,fS];omega
   have ec2:((V.calls.take pre.length).map pj.tick++V.calls.drop pre.length)[pre.length]?=some c:=by rw[eV (by rw[hl];exact dw _),hl,hU,ed];rfl
   rw[cZ,dP,et]at WZ;have en:((V.calls.take pre.length).map pj.tick++V.calls.drop pre.length).set pre.length c.tick=(V.calls.take pre.length++[c]).map pj.tick++V.calls.drop (pre.length+1):=by rw[j9 _ _ (by rw[hl];exact dw _),hl,hU,ed,dQ,fj];rfl
   have ci:CI a M' A _ pre.length k c:=⟨b2,ek,ec2⟩;obtain⟨ad,md,h1,h2,h3,h4,n1,n2⟩:=ci.cell;refine oZ h1 (i' rfl ?_);have ht:c.tick=if (c.st=="rings")=true then{c with si:=c.si+1}else c:=rfl;refine qA (c:=c.st=="rings") (λg=>?_) (λg=>?_)
   .rw[dg g]at ht;refine oZ h1 ⟨(G.j "since" rfl),i' rfl (i' rfl (oZ h1 ⟨rfl,by show 8<1000;decide,?_⟩))⟩;obtain⟨g5,s5⟩:=ci.put c.tick (by rw[ht]) (by rw[ht];exact h3) (by rw[ht];exact h4) n1 n2;have b5:=g5.bd;unfold yL at b5;rw[en]at b5;rw[ht]at b5 s5;exact WZ _ _ ⟨b5,s2.trans s5,_,rfl⟩
   .rw[de g]at ht;rw[ht,GJ ec2]at en;rw[en]at b2;exact WZ _ _ ⟨b2,s2,_,rfl⟩
 .rintro δ M' ⟨b2,s2,y,rfl⟩
  rw[cV,bd.len,fG,jE,eO]at b2;exact⟨M',.refl,q M' s2 b2⟩
def qM(G:Gl K mg a):Fq P w K mg base 3 a.k (vI a):=by
 refine fq G.k.toDG xy (λr u=>⟨_,(oY (pI (rH (pk v0) (pY U1)))
 (oY (pG 2 xy (pF U1 pb))
 (o9 (pM (pC u U2 pf)
 (o9 (pI (rH (pk v0) (pY (uH (OQ G) r G.e G.cb G.an.toDG (pY (pF U1 pb)))))))
 (o9 (pM (pC u U2 pf)
 (o9 (pI (pQ v0 G.c.toCls G.bA (Hl G) r (pY (r6 U1 (sU pb) sT)))))
 (o9 (pM (pC u U2 pf)
 (o9 (O2 u (pk v0) (pF U1 pb) (pF U1 pb)))
 (o9 (pM (pC u U2 pf)
 (o9 (pI (pQ v0 G.c.toCls G.bB (Nn G) r (qY (pF U1 pb) (pF U1 pb) (pF U1 pb)))))
 (o9 (pM (pC u U2 pf)
 (o9 (pI (vC v0 G.c.toCls G.bC (Ep G) r)))
 (o9 (pM (pC u U2 (pJ (rK pf pf)))
 (o9 (Sw (qc u U2 pf) (Sf (pk v0) (pF U1 pb))))
 (o9 (pM (pC u U2 pf)
 (o9 (pI (pD (J0 G) r G.aS (rK (pF (pk v0) (pF U1 pb)) U1))))
 pE)))))))))))))))),?_⟩)
 rintro ds M Q ⟨_,A,V,e,rfl,rfl,bd,lim,ev,q⟩
 have hz:=dM;have ll:=lim.lo;have lc:=lim.ca;have lp:=lim.ps;refine oZ bd.at_ (i' rfl ⟨by show(oJ M A.lo).isSome=true;rw[bd.lo];rfl,i' bd.lo ⟨by rw[cV];omega,?_⟩⟩);have hb:=bd.oq (es:=V.log++[e]);rw[dQ]at hb;obtain⟨b1,s1⟩:pH a (pz M A.lo (.lst (V.log.map Ev.d++[e.d]))) A (qE V e)/\qO A M A (pz M A.lo (.lst (V.log.map Ev.d++[e.d]))):=hb;show tQ _ _ _ _ (pz M A.lo (.lst (V.log.map Ev.d++[e.d])));generalize pz M A.lo (.lst (V.log.map Ev.d++[e.d]))=M1 at b1 s1 ⊢;have YR:∀i,i<V.calls.length->∃k c,A.cs[i]?=some k/\V.calls[i]?=some c/\c∈V.calls:=λi hi=>by
  have XG:i<A.cs.length:=by rw[bd.len];exact hi
  exact⟨_,_,cY XG,cY hi,h9 hi⟩
 have ZU:∀(i:Nat) (k:rm) (c:pj) (c':pj) (f:pj->pj),A.cs[i]?=some k->V.calls[i]?=some c->f c=c'->pS V e=xE (qE V e) i f->∀(M2:Mp),qO A M1 A M2->pH a M2 A (yL (qE V e) i c')->∃WS,qx WS M2/\Q .mH WS:=λi k c c' f e1 e2 e3 e4 M2 s2 b2=>⟨M2,.refl,q M2 A rfl (s1.trans s2) (by
  rw[e4];unfold xE;rw[show(qE V e).calls=V.calls from rfl,tD e2,e3];exact b2)⟩
 cases e with
 | new n x=>refine oZ b1.at_ (i' rfl ⟨by show(oJ M1 A.ca).isSome=true;rw[b1.ca];rfl,λp hp=>⟨p,x,rfl,pL,λM2 wy ad md kp z1 z2 z3 n1 n2 h1 h2 h3 h4=>⟨rfl,?_⟩⟩⟩);have sp:=qx.new (c:=.ins a.e []) hp;have s2:qx M1 M2:=λy d hy=>kp y d (S4 hy hp) (sp y d hy);refine i' (s2.lst b1.ca) ⟨by rw[cV,b1.len];show V.calls.length<sizeLine;omega,?_⟩;obtain⟨b3,s3⟩:=b1.nY s2 (c:=yx x) hp (sp.none z1) (sp.none z2) (sp.none z3) h1 h2 h3 h4 n1 n2;exact⟨_,.refl,q _ (A.add ⟨p,wy⟩) rfl (s1.trans s3) b3⟩
 | leg v=>obtain⟨k,c,ek,ec,hc⟩:=YR v.i ev;refine oZ b1.at_ ⟨rfl,_,⟨rfl,rfl⟩,A,qE V (.leg v),k,c,v,rfl,⟨b1,ek,ec⟩,lim.le,(lim.cs c hc).1,λM2 s2 b2=>⟨M2,.refl,q M2 A rfl (s1.trans s2) ?_⟩⟩;show pH a M2 A {qE V (.leg v)with mT:=V.mT++[v],calls:=V.calls.modify v.i (·.go v.g)};rw[tD ec];exact b2
 | next z n=>refine oZ b1.at_ (i' rfl (i' b1.nx ⟨by show(sZ V.ps).length<sizeLine;unfold sZ;rw[cV];omega,?_⟩));rw[HW];obtain⟨b2,s2⟩:=b1.oE (ps:=Cv V.ps z n);exact⟨_,.refl,q _ A rfl (s1.trans s2) b2⟩
 | merge i j ms=>obtain⟨hi,hj,hij,_⟩:=ev;obtain⟨ki,ci,eki,eci,hci⟩:=YR i hi;obtain⟨kj,cj,ekj,ecj,hcj⟩:=YR j hj;refine oZ b1.at_ ⟨rfl,_,⟨rfl,rfl⟩,A,qE V (.merge i j ms),i,j,ki,ci,cj,ms,rfl,⟨b1,eki,eci⟩,ecj,hij,lim.le,λM2 A2 eb s2 b2=>⟨M2,.refl,q M2 A2 eb (s1.trans s2) ?_⟩⟩;show pH a M2 A2 {qE V (.merge i j ms)with calls:=(V.calls.modify i (·.over "merged")).modify j (·.mem ms),mT:=V.mT.map (rQ.to i j)};rw[tD eci,tD (show(V.calls.set i _)[j]?=some cj by rw[fE hij];exact ecj)];exact b2
 | asks i z ns=>exact⟨oW rfl,rfl,rfl,M1,.refl,q M1 A rfl s1 b1⟩
 | turn=>exact oZ b1.at_ ⟨rfl,_,⟨rfl,rfl⟩,A,qE V .turn,rfl,b1,λM2 s2 b2=>⟨M2,.refl,q M2 A rfl (s1.trans s2) b2⟩⟩
 | sw b i=>
  have hi:i<V.on.length:=ev;obtain⟨b2,s2⟩:=b1.oQ (bs:=V.on.set i b);have es:(V.on.map D.bl).set i (.bl b)=(V.on.set i b).map D.bl:=(mv).symm;have ix:FY (V.on.map D.bl).length (i:Nat)=some i:=by rw[cV];unfold FY;simp[hi]
  have WR:∃WS,qx WS (pz M1 A.on (.lst ((V.on.map D.bl).set i (.bl b))))/\Q .mH WS:=by rw[es];exact⟨_,.refl,q _ A rfl (s1.trans s2) b2⟩
  cases b with
  | true=>exact⟨oW rfl,rfl,rfl,oZ b1.at_ (i' rfl (i' b1.on (i' ix WR)))⟩
  | false=>exact⟨oW rfl,rfl,rfl,oZ b1.at_ (i' rfl (i' b1.on (i' ix WR)))⟩
 | rings i ps=>obtain⟨k,c,ek,ec,hc⟩:=YR i ev.1;exact⟨oW rfl,rfl,rfl,oZ b1.at_ (i' rfl (i' b1.ca (i' (ra ek) ⟨A,qE V _,i,k,c,_,_,rfl,⟨b1,ek,ec⟩,(lim.cs c hc).2.1,(lim.cs c hc).2.2,.rings ps,ZU i k c _ _ ek ec rfl rfl⟩)))⟩
 | quiet i=>obtain⟨k,c,ek,ec,hc⟩:=YR i ev;exact⟨oW rfl,rfl,rfl,oZ b1.at_ (i' rfl (i' b1.ca (i' (ra ek) ⟨A,qE V _,i,k,c,_,_,rfl,⟨b1,ek,ec⟩,(lim.cs c hc).2.1,(lim.cs c hc).2.2,.quiet,ZU i k c _ _ ek ec rfl rfl⟩)))⟩
 | waits i x=>obtain⟨k,c,ek,ec,hc⟩:=YR i ev;exact⟨oW rfl,rfl,rfl,oZ b1.at_ (i' rfl (i' b1.ca (i' (ra ek) ⟨A,qE V _,i,k,c,_,_,rfl,⟨b1,ek,ec⟩,(lim.cs c hc).2.1,(lim.cs c hc).2.2,.waits x,ZU i k c _ _ ek ec rfl rfl⟩)))⟩
 | talks i ms=>obtain⟨k,c,ek,ec,hc⟩:=YR i ev.1;exact⟨oW rfl,rfl,rfl,oZ b1.at_ (i' rfl (i' b1.ca (i' (ra ek) ⟨A,qE V _,i,k,c,_,_,rfl,⟨b1,ek,ec⟩,(lim.cs c hc).2.1,(lim.cs c hc).2.2,.talks ms,ZU i k c _ _ ek ec rfl rfl⟩)))⟩
 | held i x=>obtain⟨k,c,ek,ec,hc⟩:=YR i ev;exact⟨oW rfl,rfl,rfl,oZ b1.at_ (i' rfl (i' b1.ca (i' (ra ek) ⟨A,qE V _,i,k,c,_,_,rfl,⟨b1,ek,ec⟩,(lim.cs c hc).2.1,(lim.cs c hc).2.2,.held x,ZU i k c _ _ ek ec rfl rfl⟩)))⟩
 | leaves i x=>obtain⟨k,c,ek,ec,hc⟩:=YR i ev;exact⟨oW rfl,rfl,rfl,oZ b1.at_ (i' rfl (i' b1.ca (i' (ra ek) ⟨A,qE V _,i,k,c,_,_,rfl,⟨b1,ek,ec⟩,(lim.cs c hc).2.1,(lim.cs c hc).2.2,.leaves x,ZU i k c _ _ ek ec rfl rfl⟩)))⟩
 | over i w0=>obtain⟨k,c,ek,ec,hc⟩:=YR i ev;exact⟨oW rfl,rfl,rfl,oZ b1.at_ (i' rfl (i' b1.ca (i' (ra ek) ⟨A,qE V _,i,k,c,_,_,rfl,⟨b1,ek,ec⟩,(lim.cs c hc).2.1,(lim.cs c hc).2.2,.over w0,ZU i k c _ _ ek ec rfl rfl⟩)))⟩
noncomputable def Ma:List Str:=["barred","ring","engaged","left","refused","done","merged"]
def Qx(o:Bool)(c:pj):Prop:=(c.st="rings"/\c.ms=[]/\c.hd=none/\c.wd=none/\(o=true->c.at_=[])/\(o=false->c.at_≠[]))\/(o=false/\((c.st="waits"/\c.ms=[]/\c.hd=none/\c.wd=none/\c.at_.length=1)\/(c.st="talks"/\(c.ms.length=2\/c.ms.length=3)/\c.hd=none/\c.wd=none/\c.at_=[])\/
 (∃x,c.st="held"/\c.ms.length=2/\c.hd=some x/\x∈c.ms/\c.wd=none/\c.at_=[])\/(c.st="over"/\c.ms=[]/\c.hd=none/\c.at_=[]/\∃w∈Ma,c.wd=some w)))
structure vG(l:pB)(o:Bool)(c:pj):Prop where
 sh:Qx o c
 cr:c.cr∈l.pn
 at_:∀x∈c.at_,x∈l.pn
 ms:∀x∈c.ms,x∈l.pn
 an:c.at_.Nodup
 mn:c.ms.Nodup
 ca:c.cr∉c.at_
 wy:c.way≠[]/\∀z∈c.way,z∈l.nm
def Bh(c:pj)(x:Str):Prop:=c.mZ x=true\/c.mQ x=true
structure zo(l:pB)(V:qd)(o:Option Nat):Prop where
 ok:∀(i:Nat) c,V.calls[i]?=some c->vG l (o==some i) c
 un:∀(i j:Nat) ci cj x,V.calls[i]?=some ci->V.calls[j]?=some cj->Bh ci x->Bh cj x->i=j
 ln:∀x∈l.pn,(uP V x:Int)<=wH l x
 wt:∀(i j:Nat) ci cj x,V.calls[i]?=some ci->V.calls[j]?=some cj->ci.mK x=true->cj.mK x=true->i=j
 nx:uf l V
abbrev WF(l:pB)(V:qd):Prop:=zo l V none
structure Sz(V:qd)(c n:Nat):Prop where
 lo:V.log.length<=n
 le:V.mT.length<=n
 ca:V.calls.length<=c
 ps:V.ps.length<=n
 cs:∀k∈V.calls,k.way.length<=n/\k.at_.length<=100/\k.ms.length<=100
def Sz.mono{V:qd}{c n c' n':Nat}(h:Sz V c n)(hc:c<=c')(hn:n<=n'):Sz V c' n':=⟨dX h.lo hn,dX h.le hn,dX h.ca hc,dX h.ps hn,λk hk=>⟨dX (h.cs k hk).1 hn,(h.cs k hk).2⟩⟩
noncomputable def Ev.nw:Ev->Nat
 | .new _ _=>1
 | _=>0
def Ll(ps:List (Str×Int))(z:Str)(n:Int):(Cv ps z n).length<=ps.length+1:=by
 unfold Cv;split
 .rw[cV];omega
 .rw[cZ];exact dw _
def ID(ss:List Str)(x:Str):(rC ss x).length<=ss.length:=gD _ _
def FE{α:Type}{f:α->α}{l:List α}{i:Nat}{x:α}(h:x∈l.modify i f):x∈l\/∃y∈l,x=f y:=by
 cases e:l[i]? with
 | none=>rw[kE (by simpa using e)]at h;exact .inl h
 | some c=>
  rw[tD e]at h;rcases List.mem_or_eq_of_mem_set h with g|g
  .exact .inl g
  .exact .inr ⟨c,fk e,g⟩
def Sz.step{V:qd}{c n:Nat}{e:Ev}(h:Sz V c n)(ok:e.ok V):Sz (pS V e) (c+e.nw) (n+1):=by
 have h1:Sz (qE V e) c (n+1):=⟨by show(V.log++[e]).length<=n+1;rw[cZ];exact ia h.lo,jo h.le,h.ca,jo h.ps,λk hk=>⟨jo (h.cs k hk).1,(h.cs k hk).2⟩⟩;have md:∀(i:Nat) (f:pj->pj),(∀k∈V.calls,(f k).way=k.way/\(f k).at_.length<=100/\(f k).ms.length<=100)->Sz (xE (qE V e) i f) c (n+1):=λi f hf=>⟨h1.lo,h1.le,by show(V.calls.modify i f).length<=c;rw[eX];exact h.ca,h1.ps,λk hk=>by
  rcases FE hk with g|⟨y,hy,rfl⟩
  .exact h1.cs k g
  .obtain⟨a1,a2,a3⟩:=hf y hy;exact⟨by rw[a1];exact(h1.cs y hy).1,a2,a3⟩⟩
 cases e with
 | new m x=>
  refine⟨h1.lo,h1.le,by show(V.calls++[yx x]).length<=c+1;rw[cZ];exact ia h.ca,h1.ps,λk hk=>?_⟩;rcases dU.mp hk with g|g
  .exact h1.cs k g
  .rw[dv.mp g];exact⟨eG _,eG _,eG _⟩
 | leg v=>
  refine⟨h1.lo,by show(V.mT++[v]).length<=n+1;rw[cZ];exact ia h.le,by show(V.calls.modify v.i _).length<=c;rw[eX];exact h.ca,h1.ps,λk hk=>?_⟩;rcases FE (l:=V.calls) hk with g|⟨y,hy,rfl⟩
  .exact h1.cs k g
  .exact⟨by show(y.way++[v.g]).length<=n+1;rw[cZ];exact ia (h.cs y hy).1,(h.cs y hy).2⟩
 | asks i z ns=>exact h1
 | next z m=>exact⟨h1.lo,h1.le,h1.ca,dX (Ll _ _ _) (ia h.ps),h1.cs⟩
 | merge i j ms=>
  have m1:=md i (·.over "merged") λk hk=>⟨rfl,eG _,eG _⟩;refine⟨h1.lo,by show(V.mT.map _).length<=n+1;rw[cV];exact h1.le,by show((V.calls.modify i _).modify j _).length<=c;rw[eX,eX];exact h.ca,h1.ps,λk hk=>?_⟩;rcases FE (l:=V.calls.modify i (·.over "merged")) hk with g|⟨y,hy,rfl⟩
  .exact m1.cs k g
  .exact⟨(m1.cs y hy).1,(m1.cs y hy).2.1,ok.2.2.2⟩
 | turn=>
  refine⟨h1.lo,h1.le,by show(V.calls.map pj.tick).length<=c;rw[cV];exact h.ca,h1.ps,λk hk=>?_⟩;obtain⟨y,hy,rfl⟩:=dF.mp hk;have e:y.tick.way=y.way/\y.tick.at_=y.at_/\y.tick.ms=y.ms:=by unfold pj.tick;split<;>exact⟨rfl,rfl,rfl⟩
  rw[e.1,e.2.1,e.2.2];exact h1.cs y hy
 | sw b i=>exact⟨h1.lo,h1.le,h1.ca,h1.ps,h1.cs⟩
 | rings i ps=>exact md i _ λk hk=>⟨rfl,ok.2,(h.cs k hk).2.2⟩
 | quiet i=>exact md i _ λk hk=>⟨rfl,eG _,(h.cs k hk).2.2⟩
 | waits i x=>exact md i _ λk hk=>⟨rfl,by show 1<=100;decide,(h.cs k hk).2.2⟩
 | talks i ms=>exact md i _ λk hk=>⟨rfl,eG _,ok.2⟩
 | held i x=>exact md i _ λk hk=>⟨rfl,(h.cs k hk).2.1,(h.cs k hk).2.2⟩
 | leaves i x=>exact md i _ λk hk=>⟨rfl,dX (ID _ _) (h.cs k hk).2.1,dX (ID _ _) (h.cs k hk).2.2⟩
 | over i w=>exact md i _ λk hk=>⟨rfl,eG _,eG _⟩
def O8(V:qd)(e:Ev):(pS V e).fo=V.fo:=by cases e<;>rfl
def Rn(V:qd)(e:Ev):(pS V e).p=V.p/\(pS V e).h=V.h/\(pS V e).on.length=V.on.length:=by cases e<;>first|exact⟨rfl,rfl,rfl⟩|exact⟨rfl,rfl,ij⟩
structure tZ(a:Ad)(M0 M:Mp)(b:Addr)(A:tW)(V:qd)(l:pB)(c n:Nat):Prop where
 bd:pH a M A V
 oS:sP a M0 V.p l
 s0:qx M0 M
 fr:∀x∈A.foot,M0 x=none
 b:A.b=b
 sz:Sz V c n
 ok:qW l
 on:V.on.length=l.mE.length
variable {M0:Mp}{b:Addr}{A':tW}{V':qd}{l:pB}{n:Nat}
section
variable {c:Nat}
def tZ.at_(h:tZ a M0 M b A V l c n):M b=some (.ins a.c (tL (.ref V.p) V.h V.t A.ca A.le A.nx A.on A.lo)):=h.b ▸ h.bd.at_
def tZ.sub(h:tZ a M0 M b A V l c n)(s:qx M M'):tZ a M0 M' b A V l c n:=⟨h.bd.sub s,h.oS,h.s0.trans s,h.fr,h.b,h.sz,h.ok,h.on⟩
def tZ.pl(h:tZ a M0 M b A V l c n):sP a M V.p l:=h.oS.sub h.s0
def tZ.mono(h:tZ a M0 M b A V l c n){c' n':Nat}(hc:c<=c')(hn:n<=n'):tZ a M0 M b A V l c' n':=⟨h.bd,h.oS,h.s0,h.fr,h.b,h.sz.mono hc hn,h.ok,h.on⟩
def tZ.lim(h:tZ a M0 M b A V l c n)(hc:c<=1000000)(hn:n<9000000):Wd V:=⟨iz h.sz.lo (by omega),iz h.sz.le (by omega),dX h.sz.ca hc,iz h.sz.ps (by omega),λk hk=>⟨iz (h.sz.cs k hk).1 (by omega),(h.sz.cs k hk).2⟩⟩
def tZ.rd(h:tZ a M0 M b A V l c n)(hc:c<=1000000){o:Option Nat}(wf:zo l V o):Rd a M A V l:=⟨h.bd,dX h.sz.ca hc,h.pl,h.ok,h.on,λk hk=>by
 obtain⟨i,hi,e⟩:=gM hk;exact⟨(wf.ok i k (by rw[cY hi,e])).ms,(h.sz.cs k hk).2.2⟩⟩
def tZ.call(h:tZ a M0 M b A V l c n){i:Nat}{v:pj}(e:V.calls[i]?=some v):∃k,CI a M A V i k v:=by
 have hi:i<A.cs.length:=by rw[h.bd.len];exact(cX.mp e).1
 exact⟨A.cs[i],h.bd,cY hi,e⟩
def tZ.after(h:tZ a M0 M b A V l c n){e:Ev}(ok:e.ok V)(eb:A'.b=A.b)(st:qO A M A' M')(bd:pH a M' A' (pS V e)):tZ a M0 M' b A' (pS V e) l (c+e.nw) (n+1):=by
 obtain⟨p1,p2,p3⟩:=Rn V e;refine⟨bd,p1 ▸ h.oS,λx d hx=>st.1 x d (λz=>?_) (h.s0 x d hx),λx hx=>?_,eb.trans h.b,h.sz.step ok,h.ok,p3.trans h.on⟩
 .rw[h.fr x z]at hx;cases hx
 .rcases st.2.1 x hx with z|z
  .exact h.fr x z
  .exact h.s0.none z
end
def F6(l:pB)(V:qd)(c:Str):vi->Prop
 | .rings z ps=>z∈l.nm/\ps≠[]/\ps=xA l V c z
 | .breaks z=>∃x,x=c/\HV l V x c z=true
 | .waits z=>z∈l.pn/\z≠c/\Aj V z=false
 | .ring ns=>ns≠[]
 | _=>True
def G2{l:pB}{V:qd}{c z:Str}:(∀x∈xA l V c z,x∈ug l V c z/\x∈l.mD z)/\(xA l V c z).length<=(l.mD z).length:=by
 have hr:∀x∈ug l V c z,x∈l.mD z:=λx hx=>(fJ.mp hx).1;unfold xA;split
 .refine⟨λx hx=>?_,?_⟩
  .have hx:=(fJ.mp (ko hx)).2;have hx:=qL.mp hx;exact⟨hx,hr x hx⟩
  .cases e:(uO (l.mD z) (zA V z)).filter λx=>hasS (ug l V c z) x with
   | nil=>exact eG _
   | cons y r=>
    have hy:y∈uO (l.mD z) (zA V z):=(fJ.mp (by rw[e];exact dJ)).1;have hy:y∈l.mD z:=by
     unfold uO at hy;rcases dU.mp hy with q|q
     .exact kq q
     .exact ko q
    rw[fS];have:=List.length_pos_of_mem hy;omega
 .exact⟨λx hx=>⟨hx,hr x hx⟩,gD _ _⟩
def Ql{l:pB}{V:qd}{c z:Str}(hz:z∈l.nm):F6 l V c (HR l V c z):=by
 unfold HR;split
 .trivial
 .rename_i x r e;exact⟨hz,fA _ _,e.symm⟩
structure wk(l:pB)(V:qd)(c:Str)(n:Nat)(st:sQ)(r:vi×sQ):Prop where
 e:F6 l V c r.1
 len:r.2.length<=st.length+n
 nm:∀s∈r.2,s∈st\/s.1∈l.nm
 wy:∀ns,r.1=.ring ns->∀z∈ns,z∈l.nm
theorem xl{l:pB}{V:qd}{c:Str}(ok:qW l):∀(n:Nat) (z:Str) (way:List Str) (st:sQ),z∈l.nm->(∀x∈way,x∈l.nm)->wk l V c n st (wz l V c n z way st)
 | 0,z,way,st,_,_=>⟨trivial,dw _,λs hs=>.inl hs,λns h=>by cases h⟩
 | n+1,z,way,st,hz,hw=>by
  unfold wz;by_cases h:hasS way z=true
  .rw[dg h];refine⟨?_,by show st.length<=_;omega,λs hs=>.inl hs,λns e y hy=>?_⟩
   .have h1:way.findIdx (·==z)<way.length:=List.findIdx_lt_length_of_exists ⟨z,qL.mp h,fz z⟩;show way.drop _≠[];intro g;have:=eY List.length g;rw[gx]at this;simp only[dN]at this;omega
   .cases e;exact hw y (kq hy)
  rw[de h];have sn:∀(fs:List Nat),∀s∈st++[(z,fs)],s∈st\/s.1∈l.nm:=λfs s hs=>by
   rcases dU.mp hs with g|g
   .exact .inl g
   .rw[dv.mp g];exact .inr hz
  have sl:∀fs:List Nat,(st++[(z,fs)]).length=st.length+1:=λfs=>by rw[cZ];rfl
  cases hf:DD l V c z with
  | nil=>refine⟨Ql hz,by show(st++[(z,[])]).length<=_;rw[sl];omega,sn [],λns e=>?_⟩;have e:HR l V c z=.ring ns:=e;unfold HR at e;split at e<;>cases e
  | cons i r=>
   obtain⟨w,ew,Xm⟩:=EV (l:=l) (V:=V) (f:=AS l V c z) (i:=i) (by show i∈DD l V c z;rw[hf];exact dJ);dsimp only;rw[ew];dsimp only[Option.elim];have stop:∀e:vi,F6 l V c e->(∀ns,e≠.ring ns)->wk l V c (n+1) st (e,st++[(z,i::r)]):=λe he Xd=>⟨he,by show(st++[(z,i::r)]).length<=_;rw[sl];omega,sn _,λns g=>absurd g (Xd ns)⟩
   have Y7:∀y,JI z w.2=.inr y->wk l V c (n+1) st (wz l V c n y (way++[z]) (st++[(z,i::r)])):=λy hy=>by
    have hr:=xl (V:=V) (c:=c) ok n y (way++[z]) (st++[(z,i::r)]) (Bs ok (qN ew) hy) λx hx=>by
     rcases dU.mp hx with g|g
     .exact hw x g
     .rw[dv.mp g];exact hz
    refine⟨hr.e,by have:=hr.len;rw[sl]at this;omega,λs hs=>?_,hr.wy⟩;rcases hr.nm s hs with g|g
    .exact sn _ s g
    .exact .inr g
   cases hv:w.2 with
   | bar x ns=>exact stop _ trivial λns g=>by cases g
   | shut x ns=>exact stop _ trivial λns g=>by cases g
   | wait x=>
    rw[hv]at Xm;have hf2:(if (!(z==x)||(c==x))=true then false else xt l V c z&&!(Aj V z))=true:=Xm;have hx:xu l.pn x:=by have:=ok.wo w (qN ew);rw[hv]at this;exact this
    by_cases g:(!(z==x)||(c==x))=true
    .rw[dg g]at hf2;cases hf2
    rw[de g]at hf2;simp only[gQ,gG,fM,jp,dW]at g hf2;have ezx:=eq_of_beq g.1;subst ezx;exact stop _ ⟨qL.mp hx,λy=>g.2 (by rw[y];exact fz _),hf2.2⟩ λns g=>by cases g
   | breaks x=>
    rw[hv]at Xm;refine stop _ ⟨x,?_,?_⟩ λns g=>by cases g
    .have Xm:HV l V x c z=true:=Xm;unfold HV at Xm;by_cases g:(!(c==x)||(z==x))=true
     .rw[dg g]at Xm;cases Xm
     .simp only[gQ,gG,fM,jp]at g;exact(eq_of_beq g.1).symm
    .exact Xm
   | always x y=>exact Y7 y (by rw[hv];rfl)
   | night x y f m=>exact Y7 y (by rw[hv];rfl)
   | busy x y=>exact Y7 y (by rw[hv];rfl)
   | silent x y m=>exact Y7 y (by rw[hv];rfl)
def FL{l:pB}{V:qd}{x c z:Str}(h:HV l V x c z=true):∃j k,vv V z=some j/\V.calls[j]?=some k/\k.st="talks"/\z∈k.ms/\k.ms.length=2/\z≠c:=by
 unfold HV at h;by_cases g:(!(c==x)||(z==x))=true
 .rw[dg g]at h;cases h
 rw[de g]at h;simp only[gQ,gG,fM,jp]at g;by_cases g2:(!(hasS l.pn z)||!(xt l V c z))=true
 .rw[dg g2]at h;cases h
 rw[de g2]at h;cases e:vv V z with
 | none=>rw[e]at h;cases h
 | some j=>obtain⟨hj,ht,_⟩:=iH.mp e;rw[e]at h;have h:((V.calls[j]?).elim false λk=>(k.ms.length==2)&&Ht l x k.ms)=true:=h;rw[cY hj]at h;have h:((V.calls[j].ms.length==2)&&Ht l x V.calls[j].ms)=true:=h;unfold pj.mP at ht;rw[dW]at h ht;refine⟨j,V.calls[j],rfl,cY hj,eq_of_beq ht.1,qL.mp ht.2,eq_of_beq h.1,λy=>?_⟩;rw[y]at g;have:=eq_of_beq g.1;rw[this,fz]at g;exact absurd rfl g.2
noncomputable def pj.bare(c:pj):pj:={c with way:=[]}
def tI(V V':qd):Prop:=V'.calls.map pj.bare=V.calls.map pj.bare
def tI.at_{V V':qd}(h:tI V V'){i:Nat}{c:pj}(e:V.calls[i]?=some c):∃c',V'.calls[i]?=some c'/\c'.bare=c.bare:=by
 have:=eY (·[i]?) h;simp only[dD,e]at this;cases e':V'.calls[i]? with
 | none=>rw[e']at this;cases this
 | some c'=>rw[e']at this;exact⟨c',rfl,dn this⟩
def zv(f:pj->Bool)(hf:∀c,f c.bare=f c)(cs:List pj):(cs.map pj.bare).findIdx? f=cs.findIdx? f:=by rw[gY];congr 1;funext c;exact hf c
def tI.ny{V V':qd}(h:tI V V')(z:Str):vv V' z=vv V z:=by unfold vv;rw[<-zv _ (λ_=>rfl) V'.calls,h,zv _ (λ_=>rfl)]
def tI.ends{l:pB}{V V':qd}(h:tI V V')(i:Nat)(e:vi):rR l V' i e=rR l V i e:=by
 cases e with
 | breaks z=>
  unfold rR;dsimp only;rw[h.ny];have key:∀j:Nat,(V'.calls[j]?).map pj.bare=(V.calls[j]?).map pj.bare:=λj=>by
   have:=eY (·[j]?) h
   simpa only [dD]using this
  have ki:=key i;cases vv V z with
  | none=>rfl
  | some j=>
   have kj:=key j;cases e1:V.calls[i]? with
   | none=>rw[e1]at ki;rw[show V'.calls[i]?=none by cases q:V'.calls[i]? with|none=>rfl|some _=>rw[q]at ki;cases ki]
   | some c=>
    rw[e1]at ki;cases e2:V'.calls[i]? with
    | none=>rw[e2]at ki;cases ki
    | some c'=>
     rw[e2]at ki;have k1:c'.cr=c.cr:=by have kb:c'.bare=c.bare:=dn ki;exact show c'.bare.cr=c.bare.cr by rw[kb]
     have k2:(V'.calls[j]?).elim [] pj.ms=(V.calls[j]?).elim [] pj.ms:=by
      cases e3:V.calls[j]? with
      | none=>rw[e3]at kj;rw[show V'.calls[j]?=none by cases q:V'.calls[j]? with|none=>rfl|some _=>rw[q]at kj;cases kj]
      | some d=>
       rw[e3]at kj;cases e4:V'.calls[j]? with
       | none=>rw[e4]at kj;cases kj
       | some d'=>rw[e4]at kj;exact show d'.bare.ms=d.bare.ms by rw[show d'.bare=d.bare from dn kj]
     dsimp only;rw[k1,k2]
 | _=>rfl
def tI.trans{V V1 V2:qd}(h:tI V V1)(g:tI V1 V2):tI V V2:=Eq.trans g h
def zk(V:qd)(v:rQ):tI V (pS V (.leg v)):=by
 show(V.calls.modify v.i (·.go v.g)).map pj.bare=V.calls.map pj.bare;cases e:V.calls[v.i]? with
 | none=>rw[kE (by simpa using e)]
 | some c=>rw[tD e,mv,show(c.go v.g).bare=c.bare from rfl,GJ (by rw[dD,e];rfl)]
def Dz(V:qd)(i:Nat)(z:Str)(ns:List Nat):tI V (pS V (.asks i z ns)):=rfl
def tI.len{V V':qd}(h:tI V V'):V'.calls.length=V.calls.length:=by
 have:=eY List.length h
 rwa [cV,cV]at this
noncomputable def FM:Option Str->sQ->Option Str
 | o,[]=>o
 | _,(z,_)::r=>FM (some z) r
noncomputable def Tw(i:Nat)(z:Str)(fs:List Nat):Option Str->List Ev
 | none=>[.asks i z fs]
 | some y=>[.leg ⟨i,y,z,y⟩,.asks i z fs]
theorem yP(i:Nat)(z:Str)(fs:List Nat):∀(st:sQ) (o:Option Str),rg i o (st++[(z,fs)])=rg i o st++Tw i z fs (FM o st)
 | [],none=>rfl
 | [],some _=>rfl
 | (y,gs)::r,none=>by show .asks i y gs::rg i (some y) (r++[(z,fs)])=_;rw[yP i z fs r];rfl
 | (y,gs)::r,some u=>by show .leg ⟨i,u,y,u⟩::.asks i y gs::rg i (some y) (r++[(z,fs)])=_;rw[yP i z fs r];rfl
theorem BO(z:Str)(fs:List Nat):∀(st:sQ) (o:Option Str),FM o (st++[(z,fs)])=some z
 | [],_=>rfl
 | _::r,_=>BO z fs r _
theorem ur(i:Nat):∀(st:sQ) (o:Option Str) (V:qd),tI V (qk V (rg i o st))
 | [],_,V=>rfl
 | (y,gs)::r,none,V=>(Dz V i y gs).trans (ur i r (some y) _)
 | (y,gs)::r,some u,V=>((zk V ⟨i,u,y,u⟩).trans (Dz _ i y gs)).trans (ur i r (some y) _)
def Pf(a:Ad):qX:=λds M Q=>Mu λM0 b A V l c n i st r=>ds=[.ref b,.int ((i:Nat):Int),.ref r]/\tZ a M0 M b A V l c n/\c<=1000000/\n<=8000000/\st.length<=100/\i<V.calls.length/\oJ M r=some (rb st)/\r∉A.foot/\∀M' A',tZ a M0 M' b A' (qk V (rg i none st)) l c (n+2*st.length)->qO A M A' M'->Q .mH M'
def Ng(a:Ad):qX:=λds M Q=>Mu λM0 b A V l c n i z ps=>ds=[.ref b,.int ((i:Nat):Int),.str z,names ps]/\tZ a M0 M b A V l c n/\c<=1000000/\n<=8000000/\i<V.calls.length/\z∈l.nm/\ps≠[]/\(∀x∈ps,x∈l.mD z)/\ps.length<=100/\∀M' A',tZ a M0 M' b A' (qk V (rR l V i (.rings z ps))) l c (n+2)->qO A M A' M'->Q .mH M'
def DW(l:pB)(V:qd)(i:Nat):vi->Prop
 | .rings z ps=>z∈l.nm/\ps≠[]/\(∀x∈ps,x∈l.mD z)/\ps.length<=100
 | .breaks z=>∃j k,vv V z=some j/\V.calls[j]?=some k/\i≠j/\k.ms.length=2
 | _=>True
def K6(a:Ad):qX:=λds M Q=>UI λM0 b A V l c n i z=>ds=[.ref b,.int ((i:Nat):Int),.str z]/\tZ a M0 M b A V l c n/\c<=1000000/\n<=8000000/\i<V.calls.length/\DW l V i (.breaks z)/\∀M' A',tZ a M0 M' b A' (qk V (rR l V i (.breaks z))) l c (n+2)->qO A M A' M'->Q .mH M'
def IP(a:Ad):qX:=λds M Q=>UI λM0 b A V l c n i e=>ds=[.ref b,.int ((i:Nat):Int),vi.d e]/\tZ a M0 M b A V l c n/\c<=1000000/\n<=8000000/\i<V.calls.length/\DW l V i e/\∀M' A',tZ a M0 M' b A' (qk V (rR l V i e)) l c (n+2)->qO A M A' M'->Q .mH M'
def OM(a:Ad):qX:=λds M Q=>UI λM0 b A V l c n i k=>ds=[.ref b,.int ((i:Nat):Int)]/\tZ a M0 M b A V l c n/\c<=1000000/\n<=7000000/\zo l V (some i)/\V.calls[i]?=some k/\∀M' A',tZ a M0 M' b A' (qk V (uK l V i)) l c (n+30)->qO A M A' M'->Q .mH M'
def Nh(a:Ad):qX:=λds M Q=>UI λM0 b A V l c n y z=>ds=[.ref b,.str y,.str z]/\tZ a M0 M b A V l c n/\c<1000000/\n<=6000000/\zo l (qk V [.new V.calls.length y,.leg ⟨V.calls.length,y,z,y⟩]) (some V.calls.length)/\∀M' A',tZ a M0 M' b A' (qk V (E9 l V y z)) l (c+1) (n+32)->qO A M A' M'->Q .mH M'
def KS{st:sQ}{pre post:List D}{d:D}(e:pre++d::post=rb st):∃z fs,st[pre.length]?=some (z,fs)/\d=.tup [.str z,vZ fs]/\st.take (pre.length+1)=st.take pre.length++[(z,fs)]:=by
 have h:(rb st)[pre.length]?=some d:=by rw[<-e];simp
 unfold rb at h;rw[dD]at h;cases q:st[pre.length]? with
 | none=>rw[q]at h;cases h
 | some s=>rw[q]at h;refine⟨s.1,s.2,rfl,(dn h).symm,?_⟩;rw[gW,q];rfl
noncomputable def V6:Option Str->D
 | none=>.mH
 | some x=>.str x
def Pv{ss:List Str}{x:Str}(h:ss.getLast?=some x):wj (ss.map D.str) (-1)=some (.str x):=by
 have hp:0<ss.length:=by cases ss with|nil=>cases h|cons _ _=>exact mw _
 unfold wj;have e:FY (ss.map D.str).length (-1)=some (ss.length - 1):=by
  rw[cV];unfold FY;have:¬((-1:Int)>=0):=by decide
  simp;omega
 rw[e];show(ss.map D.str)[ss.length - 1]?=_;rw[dD,<-ju,h];rfl
def Mj(ds:List D):L3.uD ds none (some (-1:Int))=ds.dropLast:=by
 unfold L3.uD;have e:HT.sY ds.length ds.length (some (-1:Int))=ds.length - 1:=by show(if (-1:Int)<0 then((-1:Int)+(ds.length:Int)).toNat else min (-1:Int).toNat ds.length)=ds.length - 1;rw[dg (by decide)];omega
 rw[e,HT.Co,j7,kO,List.dropLast_eq_take]
def O0(G:Gl K mg a):Fq P w K mg base 4 a.a5 (Pf a):=by
 refine fq G.a5.toDG tO (λr u=>⟨_,(oY (pG 3 tO rL)
 (o9 (uI ft rfl (qG U2) (vN (n:=2) rfl (qI (sF 4 tO) (qI (sF 5 tO) uB)))
 (oY (pM (pC u U3 rL)
 (o9 (pI (pQ v0 G.c.toCls G.k (qM G) r (pY (pJ (pT pf (pT U1 (qY U3 v4 U3))))))))
 pE)
 (oY (pI (pQ v0 G.c.toCls G.k (qM G) r (pY (pJ (pT pf (qY U1 v4 v5))))))
 (o9 (pG 3 tO v4))))))),?_⟩)
 rintro ds M Q ⟨M0,b,A,V,l,c,n,i,st,r,rfl,cu,hc,hn,Xc,hi,lr,nf,q⟩
 refine i' lr (wq (rb st) (λpre δ M'=>(∃A',tZ a M0 M' b A' (qk V (rg i none (st.take pre.length))) l c (n+2*pre.length)/\qO A M A' M')/\∃y4 y5,δ=[some (.ref b),some (.int ((i:Nat):Int)),some (.ref r),some (V6 (FM none (st.take pre.length))),y4,y5]) (λpre δ M' j=>?_) _ [] _ _ rfl ⟨⟨A,cu,.refl⟩,none,none,rfl⟩ ?_ ?_)
 .obtain⟨⟨A',c1,Xi⟩,_⟩:=j;exact rT (Xi.1 r _ nf (pW lr))
 .rintro pre d post e δ M' ⟨⟨A',c1,Xi⟩,y4,y5,rfl⟩ nx WZ
  obtain⟨z,fs,es,rfl,et⟩:=KS e;have hp:pre.length<100:=dR (cX.mp es).1 Xc;rw[cZ,dP,et,yP,BO]at WZ;have len:∀es,tI V (qk V es)->i<(qk V es).calls.length:=λes h=>by rw[h.len];exact hi
  have Xz:=len _ (ur i (st.take pre.length) none V);generalize hV:qk V (rg i none (st.take pre.length))=V1 at c1 Xz;rw[rc,hV]at WZ;refine⟨rfl,?_⟩;dsimp only[uG,Fm,Lx];have asks:∀(M2:Mp) (A2:tW) (V2:qd) (m:Nat) (y3:Option D),m<9000000->tZ a M0 M2 b A2 V2 l c m->qO A M A2 M2->(∀M3 A3,tZ a M0 M3 b A3 (pS V2 (.asks i z fs)) l c (m+1)->qO A M A3 M3->nx [some (.ref b),some (.int ((i:Nat):Int)),some (.ref r),some (.str z),some (.str z),some (vZ fs)] M3)->zU (M2 b) λC fs'=>fs'.lookup ("apply":Str)=none/\∃sp,(C=a.c/\sp=vI a)/\4<=sizeLine/\sp [.ref b,.tup [.str "asks",.int ((i:Nat):Int),.str z,vZ fs]] M2 λ_ M3=>nx [some (.ref b),some (.int ((i:Nat):Int)),some (.ref r),some (.str z),some (.str z),some (vZ fs)] M3:=λM2 A2 V2 m y3 hm c2 s2 k=>oZ c2.at_ ⟨rfl,_,⟨rfl,rfl⟩,by rw[dM];decide,b,A2,V2,.asks i z fs,rfl,c2.b,c2.bd,c2.lim hc hm,trivial,λM3 A3 eb s3 bd=>k M3 A3 (c2.after trivial eb s3 bd) (s2.trans s3)⟩;cases hl:FM none (st.take pre.length)with
  | none=>rw[hl]at WZ;refine asks M' A' V1 _ none (by omega) c1 Xi λM3 A3 c3 s3=>WZ _ _ ⟨⟨A3,c3.mono (dw _) (by omega),s3⟩,_,_,rfl⟩
  | some y=>rw[hl]at WZ;refine oZ c1.at_ ⟨rfl,_,⟨rfl,rfl⟩,oW rfl,b,A',V1,.leg ⟨i,y,z,y⟩,rfl,c1.b,c1.bd,c1.lim hc (by omega),Xz,λM2 A2 eb s2 bd=>?_⟩;have c2:=c1.after (e:=.leg ⟨i,y,z,y⟩) Xz eb s2 bd;refine asks M2 A2 _ _ none (by omega) c2 (Xi.trans s2) λM3 A3 c3 s3=>WZ _ _ ⟨⟨A3,c3.mono (dw _) (by omega),s3⟩,_,_,rfl⟩
 .rintro δ M' ⟨⟨A',c1,Xi⟩,_⟩
  have hl:(rb st).length=st.length:=by unfold rb;rw[cV]
  rw[hl,fG]at c1;exact⟨M',.refl,q M' A' c1 Xi⟩
def LR(G:Gl K mg a):Fq P w K mg base 4 a.a6 (Ng a):=by
 refine fq G.a6.toDG ut (λr u=>⟨_,(oY (pM (pC u (pQ (pk v0) G.h.toCls G.aM (xi G) r (pY U2)) pf)
 (oY (pG 4 ut (pQ (pk v0) G.h.toCls G.Y (uk G) r (pY U2)))
 (oY (pG 5 ut (pR (pR (xw v4 (pY (pF U3 pb))) pb) (pN qu rfl G.g qm (pY v4))))
 (o9 (pI (pQ v0 G.c.toCls G.k (qM G) r (pY (pJ (qY pf U2 v5))))))))
 pE)
 (o9 (pI (pQ v0 G.c.toCls G.k (qM G) r (pY (pJ (qY pf U1 U3))))))),?_⟩)
 rintro ds M Q ⟨M0,b,A,V,l,c,n,i,z,ps,rfl,cu,hc,hn,hi,hz,Xd,hm,Y3,q⟩
 obtain⟨ph,gr,ws,Yf,pr,gd,rs,i1,_⟩:=cu.pl;have pl:=cu.pl;obtain⟨x,ps',rfl⟩:=gf Xd;obtain⟨⟨pne,_⟩,_⟩:=cu.ok.of hz;refine UP (t:=Rb _ _ _) (λδ M'=>(∃A',tZ a M0 M' b A' (qk V (if (l.mL z=="turns")=true then[.next z (NS (l.mD z) x)]else[])) l c (n+1)/\qO A M A' M')/\∃y1 y2,δ=[some (.ref b),some (.int ((i:Nat):Int)),some (.str z),some (names (x::ps')),y1,y2]) (λnx h=>?_) ?_
 .refine oZ cu.at_ (i' rfl (oZ i1 ⟨rfl,_,⟨rfl,rfl⟩,V.p,z,l,rfl,pl,?_⟩));refine qA (c:=l.mL z=="turns") (λg=>?_) (λg=>?_)
  .rw[dg g]at h;refine oZ cu.at_ (i' rfl (oZ i1 ⟨rfl,_,⟨rfl,rfl⟩,V.p,z,l,rfl,pl,λp hp=>?_⟩));have t:=qx.new (c:=.lst ((l.mD z).map D.str)) hp;have lp:=@pA M p ((l.mD z).map D.str);have Zr:=cu.sub t;have st0:qO A M A (pz M p (.lst ((l.mD z).map D.str))):=.sub t;generalize pz M p (.lst ((l.mD z).map D.str))=M1 at t lp Zr st0 ⊢;have ej:=EA x (l.mD z) (hm x dJ);have lpos:0<(l.mD z).length:=fB.mpr pne;have el:(((l.mD z).map D.str).length:Int)=(l.mD z).length:=by rw[cV]
   refine⟨by show(oJ M1 p).isSome=true;rw[lp];rfl,i' (yZ _ _) (i' lp ⟨rfl,qr _,i' ej (i' lp ⟨by rw[el];omega,?_⟩)⟩)⟩;rw[el];refine oZ Zr.at_ ⟨rfl,_,⟨rfl,rfl⟩,oW rfl,b,A,V,.next z (NS (l.mD z) x),rfl,Zr.b,Zr.bd,Zr.lim hc (by omega),trivial,λM2 A2 eb st X9=>?_⟩;exact h _ _ ⟨⟨A2,Zr.after (e:=.next z (NS (l.mD z) x)) trivial eb st X9,st0.trans st⟩,_,_,rfl⟩
  .rw[de g]at h;exact h _ _ ⟨⟨A,cu.mono (dw _) (by omega),.refl⟩,_,_,rfl⟩
 rintro δ M1 ⟨⟨A1,c1,Xi⟩,y1,y2,rfl⟩
 have q:∀M' A',tZ a M0 M' b A' (qk V ((if (l.mL z=="turns")=true then[.next z (NS (l.mD z) x)]else[])++[.rings i (x::ps')])) l c (n+2)->qO A M A' M'->Q .mH M':=q;rw[rc]at q;have Xz:i<(qk V (if (l.mL z=="turns")=true then[.next z (NS (l.mD z) x)]else[])).calls.length:=by
  split
  .exact hi
  .exact hi
 generalize qk V (if (l.mL z=="turns")=true then[.next z (NS (l.mD z) x)]else[])=V1 at c1 q Xz;refine oZ c1.at_ ⟨rfl,_,⟨rfl,rfl⟩,oW rfl,b,A1,V1,.rings i (x::ps'),rfl,c1.b,c1.bd,c1.lim hc (by omega),⟨Xz,Y3⟩,λM2 A2 eb W8 X9=>?_⟩;exact⟨M2,.refl,q M2 A2 (c1.after (e:=.rings i (x::ps')) ⟨Xz,Y3⟩ eb W8 X9) (Xi.trans W8)⟩
def K5(G:Gl K mg a):Fq P w K mg base 4 a.a7 (K6 a):=by
 refine fq G.a7.toDG xx (λr u=>⟨_,(oY (pG 3 xx (pQ v0 G.c.toCls G.V (yu G) r (pY U2)))
 (oY (pG 4 xx (pR (pP sf rfl G.A sj (pY (pk (pF (pk v0) U3)))) (pJ (pY (pk (pF (pk v0) U1))))))
 (o9 (pI (pQ v0 G.c.toCls G.k (qM G) r (pY (pJ (pT pf (qY U1 U3 v4))))))))),?_⟩)
 rintro ds M Q ⟨M0,b,A,V,l,c,n,i,z,rfl,cu,hc,hn,hi,⟨j,k,ej,ek,XM,YQ⟩,q⟩
 have hz:=dM;have ei:V.calls[i]?=some V.calls[i]:=cY hi;generalize V.calls[i]=ci at ei;obtain⟨ka,qi⟩:=cu.call ei;obtain⟨kb,qj⟩:=cu.call ek;obtain⟨ad,md,h1,h2,h3,h4,_⟩:=qi.cell;obtain⟨ad',md',g1,g2,g3,g4,_⟩:=qj.cell;have ZV:rR l V i (.breaks z)=[.merge i j (k.ms++[ci.cr])]:=by unfold rR;dsimp only;rw[ej,ei];dsimp only;rw[ek];rfl
 rw[ZV]at q;have ok:(Ev.merge i j (k.ms++[ci.cr])).ok V:=⟨hi,(cX.mp ek).1,XM,by rw[cZ,YQ];show 3<=100;decide⟩;refine oZ cu.at_ ⟨rfl,_,⟨rfl,rfl⟩,A,V,z,by rw[cu.b],cu.bd,dX cu.sz.ca hc,?_⟩;rw[show Ak V z=.int (j:Nat)from by unfold Ak;rw[ej];rfl];refine oZ cu.at_ (i' rfl (i' rfl (i' cu.bd.ca (i' (ra qj.e1) (oZ g1 (i' rfl (i' g4 ?_)))))));refine oZ cu.at_ (i' rfl (i' rfl (i' cu.bd.ca (i' (ra qi.e1) (oZ h1 (i' rfl ⟨oW rfl,?_⟩))))));refine⟨(by intro y;rw[List.map_eq_nil_iff]at y;rw[y]at YQ;cases YQ),(by rw[cV,YQ];show 2+1<=sizeLine;omega),?_⟩;rw[show k.ms.map D.str++[D.str ci.cr]=(k.ms++[ci.cr]).map D.str by rw[dQ];rfl];refine oZ cu.at_ ⟨rfl,_,⟨rfl,rfl⟩,oW rfl,b,A,V,.merge i j (k.ms++[ci.cr]),rfl,cu.b,cu.bd,cu.lim hc (by omega),ok,λM2 A2 eb W8 X9=>?_⟩;exact⟨M2,.refl,q M2 A2 ((cu.after ok eb W8 X9).mono (dw _) (by omega)) W8⟩
def Oo(G:Gl K mg a):Fq P w K mg base 5 a.a8 (IP a):=by
 refine fq G.a8.toDG xB (λr u=>⟨_,(oY (pG 3 xB (pF U2 pb))
 (o9 (pM (pC u U3 pf)
 (o9 (pI (pD (LR G) r G.a6 (pT v0 (qY U1 (pF U2 pb) (pF U2 pb))))))
 (o9 (pM (pC u U3 pf)
 (o9 (pI (pQ v0 G.c.toCls G.k (qM G) r (pY (pJ (qY pf U1 (pF U2 pb)))))))
 (o9 (pM (pC u U3 pf)
 (o9 (pI (pD (K5 G) r G.a7 (qY v0 U1 (pF U2 pb)))))
 (o9 (pI (pQ v0 G.c.toCls G.k (qM G) r (pY (pJ (qY pf U1 U3))))))))))))),?_⟩)
 rintro ds M Q ⟨M0,b,A,V,l,c,n,i,e,rfl,cu,hc,hn,hi,he,q⟩
 have one:∀(ev:Ev) (ok:ev.ok V),ev.nw=0->rR l V i e=[ev]->∀M2 A2,A2.b=A.b->qO A M A2 M2->pH a M2 A2 (pS V ev)->∃WS,qx WS M2/\Q .mH WS:=λev ok h0 h1 M2 A2 eb W8 X9=>by rw[h1]at q;have c2:=cu.after ok eb W8 X9;rw[h0]at c2;exact⟨M2,.refl,q M2 A2 (c2.mono (dw _) (by omega)) W8⟩
 cases e with
 | rings z ps=>exact⟨M0,b,A,V,l,c,n,i,z,ps,rfl,cu,hc,hn,hi,he.1,he.2.1,he.2.2.1,he.2.2.2,λM' A' c1 st=>⟨M',.refl,q M' A' c1 st⟩⟩
 | waits z=>exact oZ cu.at_ ⟨rfl,_,⟨rfl,rfl⟩,oW rfl,b,A,V,.waits i z,rfl,cu.b,cu.bd,cu.lim hc (by omega),hi,one (.waits i z) hi rfl rfl⟩
 | breaks z=>exact⟨M0,b,A,V,l,c,n,i,z,rfl,cu,hc,hn,hi,he,λM' A' c1 st=>⟨M',.refl,q M' A' c1 st⟩⟩
 | engaged z=>exact oZ cu.at_ ⟨rfl,_,⟨rfl,rfl⟩,oW rfl,b,A,V,.over i "engaged",rfl,cu.b,cu.bd,cu.lim hc (by omega),hi,one (.over i "engaged") hi rfl rfl⟩
 | barred=>exact oZ cu.at_ ⟨rfl,_,⟨rfl,rfl⟩,oW rfl,b,A,V,.over i "barred",rfl,cu.b,cu.bd,cu.lim hc (by omega),hi,one (.over i "barred") hi rfl rfl⟩
 | ring ns=>exact oZ cu.at_ ⟨rfl,_,⟨rfl,rfl⟩,oW rfl,b,A,V,.over i "ring",rfl,cu.b,cu.bd,cu.lim hc (by omega),hi,one (.over i "ring") hi rfl rfl⟩
def Ic{l:pB}{V:qd}{i:Nat}{k:pj}{e:vi}(ok:qW l)(wf:zo l V (some i))(hk:V.calls[i]?=some k)(h:F6 l V k.cr e):DW l V i e:=by
 cases e with
 | rings z ps=>obtain⟨hz,Xd,rfl⟩:=h;have h1:=(G2 (l:=l) (V:=V) (c:=k.cr) (z:=z));have h2:=(ok.of hz).1.2.1;exact⟨hz,Xd,λx hx=>(h1.1 x hx).2,by have:=h1.2;omega⟩
 | breaks z=>
  obtain⟨x,rfl,hb⟩:=h;obtain⟨j,d,e1,e2,e3,e4,e5,_⟩:=FL hb;refine⟨j,d,e1,e2,λy=>?_,e5⟩;subst y;rw[hk]at e2;cases e2;have sh:=(wf.ok i k hk).sh;rw[show(some i==some i)=true from fz _]at sh;rcases sh with g|g
  .rw[g.1]at e3;exact absurd e3 (by decide)
  .cases g.1
 | _=>trivial
def Jc(G:Gl K mg a):Fq P w K mg base 9 a.ae (OM a):=by
 refine fq G.ae.toDG vU (λr u=>⟨_,(oY (pG 2 vU (pF (pk v0) U1))
 (oY (pG 3 vU (pD (Mh G) r G.aZ (pT v0 (qY (pk U2) (pF (pk U2) (D8 pb)) (r6 (pk U2) sT (sU (D8 pb)))))))
 (oY (pG 4 vU (pF U3 pb))
 (oY (pG 5 vU (pF U3 pb))
 (oY (pI (pD (O0 G) r G.a5 (qY v0 U1 v5)))
 (oY (pM (W3.b3 (yG (pC u (pF v4 pb) pf) (xQ (pC u (pN qu rfl G.g qm (pY v5)) pb))))
 (oY (pG 6 vU (pF (pF v5 (D8 pb)) pb))
 (o9 (pI (pQ v0 G.c.toCls G.k (qM G) r (pY (pJ (pT pf (pT U1 (qY v6 (pF (pF v4 pb) pb) v6)))))))))
 pE)
 (o9 (pI (pD (Oo G) r G.a8 (qY v0 U1 v4)))))))))),?_⟩)
 rintro ds M Q ⟨M0,b,A,V,l,c,n,i,k,rfl,cu,hc,hn,wf,hk,q⟩
 obtain⟨ka,ci⟩:=cu.call hk;obtain⟨ad,md,h1,h2,h3,h4,n1,n2⟩:=ci.cell;have Xv:=wf.ok i k hk;have hi:=(cX.mp hk).1;obtain⟨z,hz⟩:∃z,k.way.getLast?=some z:=by
  cases e:k.way.getLast? with
  | none=>exact absurd (gi.mp e) Xv.wy.1
  | some z=>exact⟨z,rfl⟩
 have XS:z∈l.nm:=Xv.wy.2 z (ib hz);have hdn:∀x∈k.way.dropLast,x∈l.nm:=λx hx=>Xv.wy.2 x (ic _ hx);have hwl:=(cu.sz.cs k (qN hk)).1;have hev:uK l V i=rg i none (uo l V k.cr z k.way.dropLast).2++(sV i (uo l V k.cr z k.way.dropLast).2 (uo l V k.cr z k.way.dropLast).1++rR l V i (uo l V k.cr z k.way.dropLast).1):=by
  unfold uK;rw[hk];have:k.way.getLastD Str.empty=z:=by rw[gI,hz];rfl
  dsimp only[Option.elim];rw[this]
 rw[hev]at q;have ro:wk l V k.cr (l.nm.length+1) [] (uo l V k.cr z k.way.dropLast):=xl cu.ok _ _ _ _ XS hdn;have rl:=ro.len;have eo:=Ic cu.ok wf hk ro.e;have nl:l.nm.length<=11:=by have p8:=cu.ok.p8;have g3:=cu.ok.g3;unfold pB.nm pB.pn pB.gn;rw[cZ,cV,cV];omega
 have re:=ro.e;refine UP (t:=GX _ _) (λδ M'=>M=M'/\δ=[some (.ref b),some (.int ((i:Nat):Int)),some (.ref ka.p),none,none,none,none]) (λnx0 h=>oZ cu.at_ (i' rfl (i' rfl (i' ci.bd.ca (i' (ra ci.e1) (h _ _ ⟨rfl,rfl⟩)))))) ?_
 rintro δ _ ⟨rfl,rfl⟩
 refine UP (t:=GX _ _) (λδ M'=>qx M M'/\∃r,M r=none/\oJ M' r=some (rb (uo l V k.cr z k.way.dropLast).2)/\δ=[some (.ref b),some (.int ((i:Nat):Int)),some (.ref ka.p),some (.tup [(uo l V k.cr z k.way.dropLast).1.d,.ref r]),none,none,none]) (λnx0 h=>?_) ?_
 .refine oZ h1 (i' rfl (oZ h1 (i' rfl (i' h2 (i' (Pv hz) (oZ h1 (i' rfl (i' h2 λp hp=>?_))))))));rw[show L3.uD (k.way.map D.str) none (some (-1:Int))=k.way.dropLast.map D.str from(Mj _).trans (List.map_dropLast).symm];have t:=qx.new (c:=.lst (k.way.dropLast.map D.str)) hp;have lp:=@pA M p (k.way.dropLast.map D.str);refine⟨A,V,l,k.cr,z,p,k.way.dropLast,by rw[cu.b],(cu.rd hc wf).sub t,XS,wf.nx,lp,by rw[List.length_dropLast];omega,λr M' s hr lr=>?_⟩;exact h _ _ ⟨t.trans s,r,t.none hr,lr,rfl⟩
 rintro δ M1 ⟨s1,r,hr,lr,rfl⟩
 generalize uo l V k.cr z k.way.dropLast=R at lr ro rl eo re q;obtain⟨e,st⟩:=R;have cu1:=cu.sub s1;have rl:st.length<=0+(l.nm.length+1):=rl;refine⟨M0,b,A,V,l,c,n,i,st,r,rfl,cu1,hc,by omega,by omega,hi,lr,cu.bd.nQ hr,λM2 A2 c2 W8=>?_⟩;have same:=ur i st none V;have XG:i<(qk V (rg i none st)).calls.length:=by rw[same.len];exact hi
 have Zs:oJ M2 r=some (rb st):=rT (W8.1 r _ (cu.bd.nQ hr) (pW lr));rw[rc,rc]at q;have ZV:=λV' (h:tI V V')=>h.ends (l:=l) i e;have Zj:∀V',tI V V'->DW l V' i e:=λV' h=>by
  cases e with
  | breaks z'=>obtain⟨j,d,a1,a2,a3,a4⟩:=eo;obtain⟨d',b1,b2⟩:=h.at_ a2;exact⟨j,d',by rw[h.ny];exact a1,b1,a3,by rw[show d'.ms=d.ms from show d'.bare.ms=d.bare.ms by rw[b2]];exact a4⟩
  | rings _ _=>exact eo
  | _=>trivial
 generalize qk V (rg i none st)=V2 at c2 XG same q;have XT:∀(M3:Mp) (A3:tW) (V3:qd),tZ a M0 M3 b A3 V3 l c (n+2*st.length+1)->qO A M A3 M3->tI V V3->i<V3.calls.length->V3=qk V2 (sV i st e)->IP a [.ref b,.int ((i:Nat):Int),e.d] M3 λ_ M'=>∃WS,qx WS M'/\Q .mH WS:=λM3 A3 V3 c3 s3 XU hi3 e3=>⟨M0,b,A3,V3,l,c,_,i,e,rfl,c3,hc,by omega,hi3,Zj V3 XU,λM4 A4 c4 s4=>⟨M4,.refl,q M4 A4 (by
  rw[<-e3];rw[ZV V3 XU]at c4;exact c4.mono (dw _) (by omega)) (s3.trans s4)⟩⟩
 have c2':=c2.mono (dw c) (show n+2*st.length<=n+2*st.length+1 by omega);have Ya:=(qO.sub s1 (A:=A)).trans W8;cases e with
 | ring ns=>
  obtain⟨x,ns',rfl⟩:=gf (show ns≠[]from re);refine i' Zs ?_;cases hl:st.getLast? with
  | none=>have:st=[]:=gi.mp hl;subst this;exact XT M2 A2 V2 c2' Ya same XG rfl
  | some s0=>
   have Yz:0<st.length:=by cases st with|nil=>cases hl|cons _ _=>exact mw _
   have hd:decide ((0:Int)<((rb st).length:Int))=true:=dZ (by unfold rb;rw[cV];omega);refine Ac (c:=decide ((0:Int)<((rb st).length:Int))) hd ?_;have hat1:wj (rb st) (-1)=some (.tup [.str s0.1,vZ s0.2]):=by
    unfold wj;have e1:FY (rb st).length (-1)=some (st.length - 1):=by unfold rb;rw[cV];unfold FY;simp;omega
    rw[e1];show(rb st)[st.length - 1]?=_;unfold rb;rw[dD,<-ju,hl];rfl
   have hrv:sV i st (.ring (x::ns'))=[.leg ⟨i,s0.1,x,s0.1⟩]:=by unfold sV;dsimp only;rw[hl];rfl
   rw[hrv]at XT;refine i' Zs (i' hat1 ?_);refine oZ c2.at_ ⟨rfl,_,⟨rfl,rfl⟩,i' (yZ _ _) ⟨oW rfl,b,A2,V2,.leg ⟨i,s0.1,x,s0.1⟩,rfl,c2.b,c2.bd,c2.lim hc (by omega),XG,λM3 A3 eb XC bd3=>?_⟩⟩;have XU:=same.trans (zk V2 ⟨i,s0.1,x,s0.1⟩);exact XT M3 A3 _ (c2.after (e:=.leg ⟨i,s0.1,x,s0.1⟩) XG eb XC bd3) (Ya.trans XC) XU (by rw[XU.len];exact hi) rfl
 | rings z' ps=>exact XT M2 A2 V2 c2' Ya same XG rfl
 | waits z'=>exact XT M2 A2 V2 c2' Ya same XG rfl
 | breaks z'=>exact XT M2 A2 V2 c2' Ya same XG rfl
 | engaged z'=>exact XT M2 A2 V2 c2' Ya same XG rfl
 | barred=>exact XT M2 A2 V2 c2' Ya same XG rfl
def Lf(G:Gl K mg a):Fq P w K mg base 10 a.a9 (Nh a):=by
 refine fq G.a9.toDG zx (λr u=>⟨_,(oY (pG 3 zx (pN qu rfl G.g qm (pY (pk v0))))
 (oY (pI (pQ v0 G.c.toCls G.k (qM G) r (pY (pJ (qY pf U3 U1)))))
 (oY (pI (pQ v0 G.c.toCls G.k (qM G) r (pY (pJ (pT pf (pT U3 (qY U1 U2 U1)))))))
 (o9 (pI (pD (Jc G) r G.ae (rK v0 U3))))))),?_⟩)
 rintro ds M Q ⟨M0,b,A,V,l,c,n,y,z,rfl,cu,hc,hn,wf,q⟩
 have lc:((A.cs.map λk=>D.ref k.p).length:Int)=(V.calls.length:Nat):=by rw[cV,cu.bd.len]
 refine oZ cu.at_ (i' rfl (i' cu.bd.ca ?_));rw[lc];refine oZ cu.at_ ⟨rfl,_,⟨rfl,rfl⟩,oW rfl,b,A,V,.new V.calls.length y,rfl,cu.b,cu.bd,cu.lim (by omega) (by omega),trivial,λM1 A1 eb1 Xi bd1=>?_⟩;have c1:=cu.after (e:=.new V.calls.length y) trivial eb1 Xi bd1;have ok2:(Ev.leg ⟨V.calls.length,y,z,y⟩).ok (pS V (.new V.calls.length y)):=by show V.calls.length<(V.calls++[yx y]).length;rw[cZ];exact fu _
 refine oZ c1.at_ ⟨rfl,_,⟨rfl,rfl⟩,oW rfl,b,A1,_,.leg ⟨V.calls.length,y,z,y⟩,rfl,c1.b,c1.bd,c1.lim (by show c+1<=_;omega) (by omega),ok2,λM2 A2 ZW W8 X9=>?_⟩;have c2:=c1.after ok2 ZW W8 X9;obtain⟨k,hk⟩:∃k,(qk V [.new V.calls.length y,.leg ⟨V.calls.length,y,z,y⟩]).calls[V.calls.length]?=some k:=by
  have:V.calls.length<(qk V [.new V.calls.length y,.leg ⟨V.calls.length,y,z,y⟩]).calls.length:=by show V.calls.length<((V.calls++[yx y]).modify _ _).length;rw[eX];exact ok2
  exact⟨_,cY this⟩
 refine⟨M0,b,A2,_,l,c+1,n+2,V.calls.length,k,rfl,c2,by omega,by omega,wf,hk,λM3 A3 c3 XC=>⟨M3,.refl,q M3 A3 ?_ (Xi.trans (W8.trans XC))⟩⟩;unfold E9;rw[rc];exact c3.mono (dw _) (by omega)
noncomputable def Fv(V:qd)(x:Str):D:=CB (um V x)
abbrev DY:=Ke Fv
def MS(a:Ad):qX:=λds M Q=>FJ λA V l x z=>ds=[.ref A.b,.str x,.str z]/\Rd a M A V l/\x∈l.pn/\Q (CB (Gj l V x z)) M
inductive vw(a:Ad)(M:Mp)(L:List Addr):List rm->List pj->Prop
 | nil:vw a M L [] []
 | cons (k:rm) (c:pj) (ks:List rm) (cs:List pj) (h:rF a M L k c) (r:vw a M L ks cs):vw a M L (k::ks) (c::cs)
def tR.nf(w:Str)(m:Nat):Prop:=((w="answer"\/w="hang"\/w="hold"\/w="back")/\m=1)\/((w="hand"\/w="join")/\m=2)
def L8(a:Ad):qX:=λds M Q=>Iz λwd x r L ks cs=>ds=[.str wd,.str x,.ref r]/\oJ M r=some (List.map (λk:rm=>D.ref k.p) ks)/\vw a M L ks cs/\tR.nf wd cs.length/\Q (.bl (IE wd x cs)) M
def Jv(a:Ad):qX:=λds M Q=>Iz λA V l wd x ns=>ds=[.ref A.b,.str wd,.str x,.tup (List.map D.int ns)]/\Rd a M A V l/\x∈l.pn/\tR.nf wd ns.length/\Q (CB (LK l V wd x ns)) M
def Rr(a:Ad):qX:=λds M Q=>CC λA V b i=>ds=[.ref A.b,.str (UJ b),.int i]/\pH a M A V/\Q (CB (Qd V b i)) M
def HA(a:Ad):qX:=λds M Q=>CC λA V l e=>ds=[.ref A.b,tR.d e]/\Rd a M A V l/\e.ng/\Q (CB (w9 l V e)) M
noncomputable def Wk(m:Nat):D->D
 | .int i=>.bl (y9 m i)
 | _=>.bl false
noncomputable def Wv(A:tW):D->D
 | .int i=>(A.cs[i.toNat]?).elim .mH λk=>.ref k.p
 | _=>.mH
theorem Qv{a:Ad}{M:Mp}{A:tW}{V:qd}(bd:pH a M A V):∀{ns:List Int},ns.all (y9 V.calls.length)=true->∃ks,vw a M (A.lists++V.fo) ks (tE V ns)/\(ns.map D.int).map (Wv A)=ks.map (λk:rm=>D.ref k.p)/\(tE V ns).length=ns.length/\∀i∈ns,∃k,0<=i/\A.cs[i.toNat]?=some k
 | [],_=>⟨[],.nil,rfl,rfl,λi hi=>by cases hi⟩
 | i::r,h=>by
  rw[eW,dW]at h;obtain⟨ks,h1,h2,h3,h4⟩:=Qv bd h.2;have hh:(decide (0<=i)&&decide (i<V.calls.length))=true:=h.1;rw[dW,eA,eA]at hh;have hi:i.toNat<V.calls.length:=by omega
  have hk:i.toNat<A.cs.length:=by rw[bd.len];exact hi
  have e1:A.cs[i.toNat]?=some A.cs[i.toNat]:=cY hk;have e2:V.calls[i.toNat]?=some V.calls[i.toNat]:=cY hi;have ec:tE V (i::r)=V.calls[i.toNat]::tE V r:=by unfold tE;rw[List.filterMap_cons_some (f:=λi:Int=>V.calls[i.toNat]?) e2]
  rw[ec];refine⟨A.cs[i.toNat]::ks,.cons _ _ _ _ (bd.cs _ _ _ e1 e2) h1,?_,eY Nat.succ h3,λj hj=>?_⟩
  .rw[dY,dY,h2];show(A.cs[i.toNat]?).elim _ _::_=_;rw[e1];rfl
  .rcases dh.mp hj with rfl|hj
   .exact⟨_,hh.1,e1⟩
   .exact h4 j hj
def vw.sub{a:Ad}{M M':Mp}{L:List Addr}{ks:List rm}{cs:List pj}(h:vw a M L ks cs)(s:qx M M'):vw a M' L ks cs:=by
 induction h with
 | nil=>exact .nil
 | cons k c ks cs h r ih=>exact .cons k c ks cs (h.sub s) ih
def SM{bs:List Bool}{i:Int}(h:y9 bs.length i=true):wj (bs.map D.bl) i=some (.bl (bs.getD i.toNat false)):=by
 have hh:(decide (0<=i)&&decide (i<bs.length))=true:=h;rw[dW,eA,eA]at hh;obtain⟨n,rfl⟩:=eC hh.1;have hn:n<bs.length:=by omega
 refine uV ?_;rw[dD,cY hn];show some (D.bl bs[n])=some (.bl (bs.getD n false));rw[gc,cY hn];rfl
def DC(G:Gl K mg a):Fq P w K mg base 4 a.ad (DY a):=by
 refine fq G.ad.toDG yO (λr u=>⟨_,(oY (pM (pC u (pQ v0 G.c.toCls G.bD (Mb G) r (pY U1)) rL)
 (o9 (pq pf))
 pE)
 (oY (pM (pC u (pQ v0 G.c.toCls G.bE (HI G) r (pY U1)) rL)
 (o9 (pq pf))
 pE)
 (o9 (pq rL)))),?_⟩)
 rintro ds M Q ⟨A,V,x,rfl,bd,hk,q⟩
 unfold Fv um at q;refine oZ bd.at_ ⟨rfl,_,⟨rfl,rfl⟩,A,V,x,rfl,bd,hk,?_⟩;unfold KZ;cases e:Es V x with
 | some j=>rw[e]at q;exact⟨M,.refl,q⟩
 | none=>
  rw[e]at q;refine oZ bd.at_ ⟨rfl,_,⟨rfl,rfl⟩,A,V,x,rfl,bd,hk,?_⟩;unfold UN;cases e:JK V x with
  | some j=>rw[e]at q;exact⟨M,.refl,q⟩
  | none=>rw[e]at q;exact⟨M,.refl,q⟩
def LA(G:Gl K mg a):Fq P w K mg base 5 a.a0 (MS a):=by
 refine fq G.a0.toDG vT (λr u=>⟨_,(oY (pM (pC u U2 (vC (pk v0) G.h.toCls G.am (yi G) r))
 (o9 (pq pf))
 pE)
 (oY (pG 3 vT (pD (DC G) r G.ad (rK v0 U1)))
 (oY (pM (W3.b3 (yG (pC u U3 rL) (xQ (wC (uM (pQ v0 G.c.toCls G.T (yH G) r (pY U1)))))))
 (o9 (pq pf))
 pE)
 (o9 (pq U3))))),?_⟩)
 rintro ds M Q ⟨A,V,l,x,z,rfl,rd,hx,q⟩
 obtain⟨ph,gr,ws,Yf,pr,gd,rs,i1,_⟩:=rd.pl;have p8:=rd.ok.p8;have g3:=rd.ok.g3;unfold Gj at q;refine oZ rd.bd.at_ (i' rfl (oZ i1 ⟨rfl,_,⟨rfl,rfl⟩,V.p,l,rfl,rd.pl,by omega,by omega,λp hp=>i' pA ⟨rfl,qr _,?_⟩⟩));have t:=qx.new (c:=.lst (l.nm.map D.str)) hp;have Xk:=rd.sub t;generalize pz M p (.lst (l.nm.map D.str))=M1 at t Xk ⊢;show if (!(inD (.str z) (l.nm.map D.str)))=true then _ else _
 rw[sy];refine qA (c:=!(hasS l.nm z)) (λg=>?_) (λg=>?_)
 .rw[dg (by simpa using g)]at q;exact⟨M,t,q⟩
 rw[de (by simpa using g)]at q;refine⟨A,V,x,rfl,Xk.bd,Xk.k,?_⟩;unfold Fv;cases e:um V x with
 | some w0=>rw[e]at q;exact⟨M,t,q⟩
 | none=>
  rw[e]at q;refine oZ Xk.bd.at_ ⟨rfl,_,⟨rfl,rfl⟩,A,V,l,x,rfl,Xk,hx,?_⟩;refine qA (c:=!(tM l V x)) (λg=>?_) (λg=>?_)
  .rw[g]at q;exact⟨M,t,q⟩
  .rw[show(!(tM l V x))=false from dI.mpr g]at q;exact⟨M,t,q⟩
def Mi(G:Gl K mg a):Fq P w K mg base 3 a.a1 (L8 a):=by
 refine fq G.a1.toDG Mm (λr u=>⟨_,(oY (pM (pC u v0 pf)
 (o9 (pq (qc u U1 (pk (pF U2 pb)))))
 pE)
 (oY (pM (pC u v0 pf)
 (o9 (pq (pQ (pF U2 pb) G.e.toCls G.bH (Mf G) r (pY U1))))
 pE)
 (oY (pM (pC u v0 pf)
 (o9 (pq (pQ (pF U2 pb) G.e.toCls G.ay (Gy G) r (pY U1))))
 pE)
 (oY (pM (pC u v0 pf)
 (o9 (pq (qc u (pk (pF U2 pb)) U1)))
 pE)
 (o9 (pq (sS (qc u (pk (pF U2 pb)) U1) (sH (pQ (pF U2 pb) G.e.toCls G.ay (Gy G) r (pY U1)))))))))),?_⟩)
 rintro ds M Q ⟨wd,x,r,L,ks,cs,rfl,lr,Zd,hw,q⟩
 cases Zd with
 | nil=>rcases hw with⟨_,h⟩|⟨_,h⟩<;>cases h
 | cons k c ks cs hc Xu=>
 obtain⟨ad,md,h1,h2,h3,h4,_⟩:=id hc;have a0:=yZ (.ref k.p) (ks.map λk:rm=>D.ref k.p);have hold:∀K:DK,K (.bl (c.hd==some x)) M->Option.elim (yc M 9 (CB c.hd) (.str x)) False λb=>K (.bl b) M:=λK hK=>by
  cases e:c.hd with
  | none=>rw[e]at hK;exact hK
  | some y=>rw[e]at hK;exact hK
 rcases hw with⟨rfl|rfl|rfl|rfl,h⟩|⟨hw,h⟩
 .exact i' lr (i' a0 (oZ h1 (i' rfl (DN h3 ⟨M,.refl,q⟩))))
 .exact i' lr (i' a0 (oZ h1 ⟨rfl,_,⟨rfl,rfl⟩,L,k,c,x,rfl,hc,M,.refl,q⟩))
 .exact i' lr (i' a0 (oZ h1 ⟨rfl,_,⟨rfl,rfl⟩,L,k,c,x,rfl,hc,M,.refl,q⟩))
 .exact i' lr (i' a0 (oZ h1 (i' rfl (hold _ ⟨M,.refl,q⟩))))
 .cases Xu with
  | nil=>cases h
  | cons k' d ks cs hd _=>
   obtain⟨ad',md',f1,_⟩:=id hd;have a1:wj (.ref k.p::.ref k'.p::ks.map λk:rm=>D.ref k.p) 1=some (.ref k'.p):=uV (j:=1) rfl;have qq:Q (.bl ((c.hd==some x)&&d.mS x)) M:=by
    rcases hw with rfl|rfl
    .exact q
    .exact q
   rcases hw with rfl|rfl
   all_goals
    refine i' lr (i' a0 (oZ h1 (i' rfl ?_)));cases e:c.hd with
    | none=>rw[e]at qq;exact⟨M,.refl,qq⟩
    | some y=>
     rw[e]at qq;have qq:Q (.bl ((y==x)&&d.mS x)) M:=qq;refine qA (c:=y==x) (λg=>?_) (λg=>?_)
     .rw[g,eL]at qq;exact i' lr (i' a1 (oZ f1 ⟨rfl,_,⟨rfl,rfl⟩,L,k',d,x,rfl,hd,M,.refl,qq⟩))
     .rw[show(y==x)=false from dI.mpr g,eR]at qq;exact⟨M,.refl,qq⟩
def PZ(G:Gl K mg a):Fq P w K mg base 5 a.a2 (Jv a):=by
 refine fq G.a2.toDG tK (λr u=>⟨_,(oY (pM (wC (uM (pN (Fh rfl) rfl G.bP D4 (pY (qC rfl (yb (ix:=[none,some 0]) (N':=["number","board"])) (qG U3) (qz 0) rS (ub u pb v0 (pN qu rfl G.g qm (pY (pk U1)))))))))
 (o9 (pq pf))
 pE)
 (oY (wJ (i:=4) tK.nd rfl (Or.inl rfl) rfl (yb (ix:=[none,some 0]) (N':=["number","board"])) (qG U3) (qz 0) rS (pF (pk U1) v0))
 (oY (pM (wC (uM (pD (Mi G) r G.a1 (qY U1 U2 v4))))
 (o9 (pq pf))
 pE)
 (oY (pM (pC u U1 (pJ (rK pf pf)))
 (o9 (pq rL))
 pE)
 (oY (pG 5 tK (pD (DC G) r G.ad (rK v0 U2)))
 (oY (pM (W3.b3 (yG (pC u v5 rL) (yG (uM (pQ (pF v4 pb) G.e.toCls G.aw (Gv G) r (pY U2))) (xQ (wC (uM (pQ v0 G.c.toCls G.T (yH G) r (pY U2))))))))
 (o9 (pq pf))
 pE)
 (o9 (pq v5)))))))),?_⟩)
 rintro ds M Q ⟨A,V,l,wd,x,ns,rfl,rd,hx,hw,q⟩
 have hz:=dM;have Zu:ns.length<=2:=by rcases hw with⟨_,h⟩|⟨_,h⟩<;>omega
 have lca:((A.cs.map λk=>D.ref k.p).length:Int)=V.calls.length:=by rw[cV,rd.bd.len]
 unfold LK at q;refine rh (f:=Wk V.calls.length) trivial _ [] _ (by rw[cV];simp only[dN];omega) (λd hd k hk=>?_) λp hp=>?_
 .obtain⟨i,_,rfl⟩:=dF.mp hd;have hk:k (.bl (decide (0<=i)&&decide (i<V.calls.length))) M:=hk;refine qA (c:=decide (0<=i)) (λg=>?_) (λg=>?_)
  .rw[g,eL]at hk;refine oZ rd.bd.at_ (i' rfl (i' rd.bd.ca ?_));rw[lca];exact hk
  .rw[show decide (0<=i)=false from dI.mpr g,eR]at hk;exact hk
 have em:[]++(ns.map D.int).map (Wk V.calls.length)=ns.map λi=>D.bl (y9 V.calls.length i):=by rw[d9,d6];rfl
 rw[em];have t:=qx.new (c:=.lst (ns.map λi=>D.bl (y9 V.calls.length i))) hp;refine i' pA (i' (xR (y9 V.calls.length) ns) ?_);have Xk:=rd.sub t;generalize pz M p (.lst (ns.map λi=>D.bl (y9 V.calls.length i)))=M1 at t Xk ⊢;rw[yX];refine qA (c:=!(ns.all (y9 V.calls.length))) (λg=>?_) (λXQ=>?_)
 .rw[dg (by simpa using g)]at q;exact⟨M,t,q⟩
 have XQ:ns.all (y9 V.calls.length)=true:=by simpa using XQ
 rw[de (by rw[XQ];exact Bool.noConfusion)]at q;obtain⟨ks,hks,eks,lcs,YH⟩:=Qv Xk.bd XQ;refine rh (f:=Wv A) trivial _ [] _ (by rw[cV];simp only[dN];omega) (λd hd k0 hk=>?_) λp2 WY=>?_
 .obtain⟨i,hi,rfl⟩:=dF.mp hd;obtain⟨k,i0,e1⟩:=YH i hi;obtain⟨n,rfl⟩:=eC i0;have e1:A.cs[n]?=some k:=e1;have hk:k0 ((A.cs[n]?).elim .mH λk=>.ref k.p) M1:=hk;rw[e1]at hk;exact oZ Xk.bd.at_ (i' rfl (i' rfl (i' Xk.bd.ca (i' (ra e1) hk))))
 rw[d9,eks];have t2:=qx.new (c:=.lst (ks.map λk:rm=>D.ref k.p)) WY;have l2:=@pA M1 p2 (ks.map λk:rm=>D.ref k.p);have YS:=Xk.sub t2;have s2:=t.trans t2;generalize pz M1 p2 (.lst (ks.map λk:rm=>D.ref k.p))=M2 at l2 YS s2 t2 ⊢;have hks:=hks.sub t2;generalize tE V ns=cs at hks lcs q;refine⟨wd,x,p2,_,ks,cs,rfl,l2,hks,by rw[lcs];exact hw,?_⟩;refine qA (c:=!IE wd x cs) (λg=>?_) (λg=>?_)
 .rw[dg (by simpa using g)]at q;exact⟨M,s2,q⟩
 rw[de (by simpa using g)]at q;have two:∀wd:Str,(wd=="answer"||wd=="back")=true->Q (CB (if ((um V x).isNone&&(cs.head?.elim false (λc=>c.mK x)&&!(tM l V x)))=true then some "full" else um V x)) M->cs.length=1->DY a [.ref A.b,.str x] M2 λdue M3=>tQ (Rb (OD (b3 (k3 .Is (v3 5) (c3 .mH))) (OD (b3 (Ah "waits_with" (λD s=>D=a.e/\s=vB a) (i3 (v3 4) (c3 (.int 0))) (uY (v3 2) xj))) (Uh (b3 (Ah "is_free" (λD s=>D=a.c/\s=wW a) (v3 0) (uY (v3 2) xj)))))) (Sj (c3 (.str "full"))) Wh) (Sj (v3 5)) {nx:=λ_ M'=>∃WS,qx WS M'/\Q .mH WS,rt:=λd M'=>∃WS,qx WS M'/\Q d WS} [some (.ref A.b),some (.str wd),some (.str x),some (.tup (ns.map D.int)),some (.ref p2),some due] M3:=λwd _ q hl=>by
  cases hks with
  | nil=>cases hl
  | cons k c ks cs hc _=>
  have q:Q (CB (if ((um V x).isNone&&(c.mK x&&!(tM l V x)))=true then some "full" else um V x)) M:=q;obtain⟨ad,md,h1,_⟩:=id hc;refine⟨A,V,x,rfl,YS.bd,YS.k,?_⟩;unfold Fv;cases e:um V x with
  | some w0=>rw[e]at q;exact⟨M,s2,q⟩
  | none=>
   rw[e]at q;refine i' l2 (i' (yZ _ _) (oZ h1 ⟨rfl,_,⟨rfl,rfl⟩,_,k,c,x,rfl,hc,?_⟩));refine qA (c:=c.mK x) (λg1=>?_) (λg1=>?_)
   .rw[g1]at q;refine oZ YS.bd.at_ ⟨rfl,_,⟨rfl,rfl⟩,A,V,l,x,rfl,YS,hx,?_⟩;refine qA (c:=!(tM l V x)) (λg=>?_) (λg=>?_)
    .rw[g]at q;exact⟨M,s2,q⟩
    .rw[show(!(tM l V x))=false from dI.mpr g]at q;exact⟨M,s2,q⟩
   .rw[show c.mK x=false from dI.mpr g1]at q;exact⟨M,s2,q⟩
 rcases hw with⟨rfl|rfl|rfl|rfl,h⟩|⟨rfl|rfl,h⟩
 .exact⟨oW rfl,rfl,rfl,two "answer" rfl q (lcs.trans h)⟩
 .exact⟨oW rfl,rfl,rfl,M,s2,q⟩
 .exact⟨oW rfl,rfl,rfl,M,s2,q⟩
 .exact⟨oW rfl,rfl,rfl,two "back" rfl q (lcs.trans h)⟩
 .exact⟨oW rfl,rfl,rfl,M,s2,q⟩
 .exact⟨oW rfl,rfl,rfl,M,s2,q⟩
def QR(G:Gl K mg a):Fq P w K mg base 1 a.a3 (Rr a):=by
 refine fq G.a3.toDG yK (λr u=>⟨_,(oY (pM (wC (GE u pb U2 (pN qu rfl G.g qm (pY (pk v0)))))
 (o9 (pq pf))
 pE)
 (oY (pM (pC u (pF (pk v0) U2) (qc u U1 pf))
 (o9 (pq pf))
 pE)
 (o9 (pq rL)))),?_⟩)
 rintro ds M Q ⟨A,V,b,i,rfl,bd,q⟩
 unfold Qd at q;have YH:y9 V.on.length i=(decide (0<=i)&&decide (i<V.on.length)):=rfl;have lon:((V.on.map D.bl).length:Int)=V.on.length:=by rw[cV]
 have no:y9 V.on.length i=false->Q (.str "wish") M:=λh=>by rw[dg h]at q;exact q
 have yes:y9 V.on.length i=true->Q (CB (if (V.on.getD i.toNat false==b)=true then some "wish" else none)) M:=λh=>by rw[h,de Bool.noConfusion]at q;exact q
 refine qA (c:=decide (0<=i)) (λg0=>?_) (λg0=>⟨M,.refl,no (by rw[YH,show decide (0<=i)=false from dI.mpr g0];rfl)⟩);refine oZ bd.at_ (i' rfl (i' bd.on ?_));rw[lon];refine qA (c:=!(decide (i<(V.on.length:Int)))) (λg1=>⟨M,.refl,no (by rw[YH,g0,show decide (i<(V.on.length:Int))=false by simpa using g1];rfl)⟩) (λg1=>?_);have h:y9 V.on.length i=true:=by rw[YH,g0,show decide (i<(V.on.length:Int))=true by simpa using g1];rfl
 have q:=yes h;refine oZ bd.at_ (i' rfl (i' rfl (i' bd.on (i' (SM h) ?_))));have es:(UJ b=="on")=b:=by cases b<;>rfl
 show if (V.on.getD i.toNat false==(UJ b=="on"))=true then _ else _
 rw[es];refine qA (λg=>?_) (λg=>?_)
 .rw[dg g]at q;exact⟨M,.refl,q⟩
 .rw[de g]at q;exact⟨M,.refl,q⟩
def Hc(G:Gl K mg a):Fq P w K mg base 6 a.a4 (HA a):=by
 refine fq G.a4.toDG Cu (λr u=>⟨_,(oY (pG 2 Cu (pF U1 pb))
 (oY (pM (pC u U2 pf)
 (o9 (pq rL))
 pE)
 (oY (pM (pC u U2 (pJ (rK pf pf)))
 (o9 (pq (pD (QR G) r G.a3 (qY v0 U2 (pF U1 pb)))))
 pE)
 (oY (pM (pC u (pF U1 pb) (vC (pk v0) G.h.toCls G.N (sv G) r))
 (o9 (pq pf))
 pE)
 (oY (pM (pC u U2 pf)
 (o9 (pq (pD (LA G) r G.a0 (qY v0 (pF U1 pb) (pF U1 pb)))))
 pE)
 (o9 (pq (pD (PZ G) r G.a2 (pT v0 (qY U2 (pF U1 pb) (r6 U1 (sU pb) sT))))))))))),?_⟩)
 rintro ds M Q ⟨A,V,l,e,rfl,rd,hf,q⟩
 obtain⟨ph,gr,ws,Yf,pr,gd,rs,i1,_⟩:=rd.pl;have p8:=rd.ok.p8;cases e with
 | turn=>exact⟨M,.refl,q⟩
 | sw b i=>
  cases b with
  | true=>exact⟨oW rfl,rfl,rfl,A,V,true,i,rfl,rd.bd,M,.refl,q⟩
  | false=>exact⟨oW rfl,rfl,rfl,A,V,false,i,rfl,rd.bd,M,.refl,q⟩
 | call x z=>
  have q:Q (CB (if hasS l.pn x=false then some "name" else Gj l V x z)) M:=q;refine⟨oW rfl,rfl,rfl,?_⟩;refine oZ rd.bd.at_ (i' rfl (oZ i1 ⟨rfl,_,⟨rfl,rfl⟩,V.p,l,rfl,rd.pl,by omega,λp WY=>i' pA ⟨rfl,qr _,?_⟩⟩));have t:=qx.new (c:=.lst (l.pn.map D.str)) WY;have Xk:=rd.sub t;generalize pz M p (.lst (l.pn.map D.str))=M1 at t Xk ⊢;show if (!(inD (.str x) (l.pn.map D.str)))=true then _ else _
  rw[sy];refine qA (c:=!(hasS l.pn x)) (λg=>?_) (λg=>?_)
  .rw[dg (by simpa using g)]at q;exact⟨M,t,q⟩
  .have g:hasS l.pn x=true:=by simpa using g
   rw[g,de Bool.noConfusion]at q;exact⟨A,V,l,x,z,rfl,Xk,qL.mp g,M,t,q⟩
 | num wd x ns=>
  have q:Q (CB (if hasS l.pn x=false then some "name" else LK l V wd x ns)) M:=q;have hf:tR.nf wd ns.length:=hf;have key:∀(M1:Mp),qx M M1->if (!(inD (.str x) (l.pn.map D.str)))=true then(∃WS,qx WS M1/\Q (.str "name") WS)else Jv a [.ref A.b,.str wd,.str x,.tup (ns.map D.int)] M1 λd M'=>∃WS,qx WS M'/\Q d WS:=λM1 t=>by
   rw[sy];refine qA (c:=!(hasS l.pn x)) (λg=>?_) (λg=>?_)
   .rw[dg (by simpa using g)]at q;exact⟨M,t,q⟩
   .have g:hasS l.pn x=true:=by simpa using g
    rw[g,de Bool.noConfusion]at q;exact⟨A,V,l,wd,x,ns,rfl,rd.sub t,qL.mp g,hf,M,t,q⟩
  have one:ns.length=1->∃i,ns=[i]:=List.length_eq_one_iff.mp;have two:ns.length=2->∃i j,ns=[i,j]:=λh=>by
   match ns,h with
   | [i,j],_=>exact⟨i,j,rfl⟩
  rcases id hf with⟨rfl|rfl|rfl|rfl,h⟩|⟨rfl|rfl,h⟩
  .obtain⟨i,rfl⟩:=one h;exact⟨oW rfl,rfl,rfl,oZ rd.bd.at_ (i' rfl (oZ i1 ⟨rfl,_,⟨rfl,rfl⟩,V.p,l,rfl,rd.pl,by omega,λp WY=>i' pA ⟨rfl,qr _,key _ (.new WY)⟩⟩))⟩
  .obtain⟨i,rfl⟩:=one h;exact⟨oW rfl,rfl,rfl,oZ rd.bd.at_ (i' rfl (oZ i1 ⟨rfl,_,⟨rfl,rfl⟩,V.p,l,rfl,rd.pl,by omega,λp WY=>i' pA ⟨rfl,qr _,key _ (.new WY)⟩⟩))⟩
  .obtain⟨i,rfl⟩:=one h;exact⟨oW rfl,rfl,rfl,oZ rd.bd.at_ (i' rfl (oZ i1 ⟨rfl,_,⟨rfl,rfl⟩,V.p,l,rfl,rd.pl,by omega,λp WY=>i' pA ⟨rfl,qr _,key _ (.new WY)⟩⟩))⟩
  .obtain⟨i,rfl⟩:=one h;exact⟨oW rfl,rfl,rfl,oZ rd.bd.at_ (i' rfl (oZ i1 ⟨rfl,_,⟨rfl,rfl⟩,V.p,l,rfl,rd.pl,by omega,λp WY=>i' pA ⟨rfl,qr _,key _ (.new WY)⟩⟩))⟩
  .obtain⟨i,j,rfl⟩:=two h;exact⟨oW rfl,rfl,rfl,oZ rd.bd.at_ (i' rfl (oZ i1 ⟨rfl,_,⟨rfl,rfl⟩,V.p,l,rfl,rd.pl,by omega,λp WY=>i' pA ⟨rfl,qr _,key _ (.new WY)⟩⟩))⟩
  .obtain⟨i,j,rfl⟩:=two h;exact⟨oW rfl,rfl,rfl,oZ rd.bd.at_ (i' rfl (oZ i1 ⟨rfl,_,⟨rfl,rfl⟩,V.p,l,rfl,rd.pl,by omega,λp WY=>i' pA ⟨rfl,qr _,key _ (.new WY)⟩⟩))⟩
def CM(V:qd)(x:Str):Prop:=∀c∈V.calls,¬Bh c x
def En{V:qd}{x:Str}(h:um V x=none):CM V x:=by
 unfold um at h;cases e1:Es V x with
 | some j=>rw[e1]at h;cases h
 | none=>
  cases e2:JK V x with
  | some j=>rw[e1,e2]at h;cases h
  | none=>
   intro c hc g;have h1:=jv.mp e1 c hc;have h2:=jv.mp e2 c hc;rcases g with g|g
   .rw[h1]at g;cases g
   .rw[h2]at g;cases g
def sG{c:pj}(h:c.st="rings"){x:Str}:Bh c x↔x=c.cr:=by unfold Bh pj.mZ pj.mQ pj.mP;rw[h];simp(decide:=true)
def Dl{c:pj}(h:c.st="waits"){x:Str}:Bh c x↔x=c.cr:=by unfold Bh pj.mZ pj.mQ pj.mP;rw[h];simp(decide:=true)
def tF{c:pj}(h:c.st="talks"){x:Str}:Bh c x↔x∈c.ms:=by unfold Bh pj.mZ pj.mQ pj.mP;rw[h,<-qL];simp(decide:=true)
def Br{c:pj}(h:c.st="held"){x:Str}:Bh c x↔x∈c.ms/\c.hd≠some x:=by unfold Bh pj.mZ pj.mQ;rw[h,<-qL];simp(decide:=true)
def GO{c:pj}(h:c.st="over"){x:Str}:¬Bh c x:=by unfold Bh pj.mZ pj.mQ pj.mP;rw[h];simp(decide:=true)
def sD{c:pj}(h:c.st="rings"){x:Str}:c.hasB x=true↔x=c.cr\/x∈c.at_:=by unfold pj.hasB;rw[h,<-qL];simp(decide:=true)
def Dp{c:pj}(h:c.st="waits"){x:Str}:c.hasB x=true↔x=c.cr:=by unfold pj.hasB;rw[h];simp(decide:=true)
def sO{c:pj}(h:c.st="talks"\/c.st="held"){x:Str}:c.hasB x=true↔x∈c.ms:=by unfold pj.hasB;rw[<-qL];rcases h with h|h<;>(rw[h];simp(decide:=true))
def FR{c:pj}(h:c.st="over"){x:Str}:c.hasB x=false:=by unfold pj.hasB;rw[h];simp(decide:=true)
def rX{c:pj}{x:Str}:c.mK x=true↔c.st="waits"/\x∈c.at_:=by unfold pj.mK;rw[dW,fg,qL]
theorem ED{α:Type}(f:α->Bool):∀{l:List α} {i:Nat} {c:α} (c':α),l[i]?=some c->((l.set i c').filter f).length+(if f c=true then 1 else 0)=(l.filter f).length+(if f c'=true then 1 else 0)
 | [],_,_,_,h=>by simp at h
 | x::r,0,c,c',h=>by cases h;rw[List.set_cons_zero,gK,gK];split<;>split<;>simp
 | x::r,i+1,c,c',h=>by
  have ih:=ED f (l:=r) (i:=i) (c:=c) c' (by simpa using h);rw[kU,gK,gK];split
  .rw[eB,eB];omega
  .exact ih
def zo.set{l:pB}{V V':qd}{o o':Option Nat}{i:Nat}{c c':pj}(h:zo l V o)(e:V'.calls=V.calls.set i c')(hc:V.calls[i]?=some c)(ho:∀j,j≠i->(o==some j)=(o'==some j))(ok:vG l (o'==some i) c')(he:∀x,Bh c' x->Bh c x\/CM V x)(hu:∀x,c'.hasB x=true->c.hasB x=true\/(uP V x:Int)<wH l x)(hw:∀x,c'.mK x=true->c.mK x=true\/Aj V x=false)(nx:uf l V'):zo l V' o':=by
 have si:∀{j:Nat} {d:pj},V'.calls[j]?=some d->(j=i/\d=c')\/(j≠i/\V.calls[j]?=some d):=λ{j d} g=>by rw[e]at g;exact(FG g).imp (λg=>⟨g.1,g.2.1⟩) id
 have key:∀(j:Nat) cj x,j≠i->V.calls[j]?=some cj->Bh c' x->Bh cj x->False:=λj cj x hj e1 g1 g2=>by
  rcases he x g1 with z|z
  .exact hj (h.un j i cj c x e1 hc g2 z)
  .exact z cj (qN e1) g2
 have keyw:∀(j:Nat) cj x,j≠i->V.calls[j]?=some cj->c'.mK x=true->cj.mK x=true->False:=λj cj x hj e1 g1 g2=>by
  rcases hw x g1 with z|z
  .exact hj (h.wt j i cj c x e1 hc g2 z)
  .unfold Aj at z;exact absurd g2 (by rw[kY.mp z cj (qN e1)|>dI.mpr];exact Bool.noConfusion)
 refine⟨λj d g=>?_,λm n cm cn x e1 e2 g1 g2=>?_,λx hx=>?_,λm n cm cn x e1 e2 g1 g2=>?_,nx⟩
 .rcases si g with⟨rfl,rfl⟩|⟨hj,g⟩
  .exact ok
  .rw[<-ho j hj];exact h.ok j d g
 .rcases si e1 with⟨rfl,rfl⟩|⟨hm,e1⟩<;>rcases si e2 with⟨rfl,rfl⟩|⟨hn,e2⟩
  .rfl
  .exact(key n cn x hn e2 g1 g2).elim
  .exact(key m cm x hm e1 g2 g1).elim
  .exact h.un m n cm cn x e1 e2 g1 g2
 .have cs:=ED (λk:pj=>k.hasB x) c' hc;have hl:=h.ln x hx;unfold uP at hl ⊢;rw[e];by_cases g:c'.hasB x=true
  .rw[dg g]at cs;rcases hu x g with z|z
   .rw[dg z]at cs;omega
   .unfold uP at z;omega
  .rw[de g]at cs;omega
 .rcases si e1 with⟨rfl,rfl⟩|⟨hm,e1⟩<;>rcases si e2 with⟨rfl,rfl⟩|⟨hn,e2⟩
  .rfl
  .exact(keyw n cn x hn e2 g1 g2).elim
  .exact(keyw m cm x hm e1 g2 g1).elim
  .exact h.wt m n cm cn x e1 e2 g1 g2
def zo.add{l:pB}{V V':qd}{c':pj}(h:WF l V)(e:V'.calls=V.calls++[c'])(ok:vG l true c')(he:∀x,Bh c' x->CM V x)(hu:∀x,c'.hasB x=true->(uP V x:Int)<wH l x)(hw:∀x,c'.mK x=false)(nx:uf l V'):zo l V' (some V.calls.length):=by
 have si:∀{j:Nat} {d:pj},V'.calls[j]?=some d->(j=V.calls.length/\d=c')\/(j≠V.calls.length/\V.calls[j]?=some d):=λ{j d} g=>by
  rw[e]at g;by_cases z:j<V.calls.length
  .rw[eZ z]at g;exact .inr ⟨by omega,g⟩
  .have:=(cX.mp g).1;rw[cZ,dP]at this;have z:j=V.calls.length:=by omega
   subst z;rw[eV (dw _)]at g;simp only[hU,iD,jn]at g;exact .inl ⟨rfl,g.symm⟩
 refine⟨λj d g=>?_,λm n cm cn x e1 e2 g1 g2=>?_,λx hx=>?_,λm n cm cn x e1 e2 g1 g2=>?_,nx⟩
 .rcases si g with⟨rfl,rfl⟩|⟨hj,g⟩
  .rw[fz];exact ok
  .rw[show(some V.calls.length==some j)=false by simpa using dO hj];exact h.ok j d g
 .rcases si e1 with⟨rfl,rfl⟩|⟨hm,e1⟩<;>rcases si e2 with⟨rfl,rfl⟩|⟨hn,e2⟩
  .rfl
  .exact(he x g1 cn (qN e2) g2).elim
  .exact(he x g2 cm (qN e1) g1).elim
  .exact h.un m n cm cn x e1 e2 g1 g2
 .have hl:=h.ln x hx;unfold uP at hl ⊢;rw[e,jg,cZ,gK];split
  .rename_i g;have:=hu x g;unfold uP at this;simp only[iT,dP];omega
  .simp only[iT,dN];omega
 .rcases si e1 with⟨rfl,rfl⟩|⟨hm,e1⟩<;>rcases si e2 with⟨rfl,rfl⟩|⟨hn,e2⟩
  .rfl
  .rw[hw x]at g1;cases g1
  .rw[hw x]at g2;cases g2
  .exact h.wt m n cm cn x e1 e2 g1 g2
noncomputable def pj.core(c:pj):pj:={c with way:=[],si:=0}
def yU(V V':qd):Prop:=V'.calls.map pj.core=V.calls.map pj.core
def yU.at_{V V':qd}(h:yU V V'){i:Nat}{c':pj}(e:V'.calls[i]?=some c'):∃c,V.calls[i]?=some c/\c'.core=c.core:=by
 have:=eY (·[i]?) h;simp only[dD,e]at this;cases e':V.calls[i]? with
 | none=>rw[e']at this;cases this
 | some c=>rw[e']at this;exact⟨c,rfl,dn this⟩
def yU.used{V V':qd}(h:yU V V')(x:Str):uP V' x=uP V x:=by
 have key:∀cs:List pj,(cs.filter (·.hasB x)).length=((cs.map pj.core).filter (·.hasB x)).length:=λcs=>by rw[gR,cV];rfl
 unfold uP;rw[key,h,<-key]
def yU.wf{l:pB}{V V':qd}{o:Option Nat}(h:yU V V')(wf:zo l V o)(hw:∀(i:Nat) c',V'.calls[i]?=some c'->c'.way≠[]/\∀z∈c'.way,z∈l.nm)(nx:uf l V'):zo l V' o:=by
 refine⟨λi c' e=>?_,λi j ci cj x e1 e2 g1 g2=>?_,λx hx=>by rw[h.used];exact wf.ln x hx,λi j ci cj x e1 e2 g1 g2=>?_,nx⟩
 .obtain⟨c,ec,ee⟩:=h.at_ e;have k:=wf.ok i c ec;have k1:c'.at_=c.at_:=show c'.core.at_=c.core.at_ by rw[ee]
  have k2:c'.ms=c.ms:=show c'.core.ms=c.core.ms by rw[ee]
  have k3:c'.cr=c.cr:=show c'.core.cr=c.core.cr by rw[ee]
  exact⟨by show Qx _ c'.core;rw[ee];exact k.sh,by rw[k3];exact k.cr,by rw[k1];exact k.at_,by rw[k2];exact k.ms,by rw[k1];exact k.an,by rw[k2];exact k.mn,by rw[k1,k3];exact k.ca,hw i c' e⟩
 .obtain⟨di,a1,a2⟩:=h.at_ e1;obtain⟨dj,b1,b2⟩:=h.at_ e2;exact wf.un i j di dj x a1 b1 (by show Bh di.core x;rw[<-a2];exact g1) (by show Bh dj.core x;rw[<-b2];exact g2)
 .obtain⟨di,a1,a2⟩:=h.at_ e1;obtain⟨dj,b1,b2⟩:=h.at_ e2;exact wf.wt i j di dj x a1 b1 (by show di.core.mK x=true;rw[<-a2];exact g1) (by show dj.core.mK x=true;rw[<-b2];exact g2)
def tI.core{V V':qd}(h:tI V V'):yU V V':=by have:=eY (List.map pj.core) h;rw[d6,d6]at this;exact this
def KA(V:qd):yU V (pS V .turn):=by show(V.calls.map pj.tick).map pj.core=V.calls.map pj.core;rw[d6];refine gw λc _=>?_;show(pj.tick c).core=c.core;unfold pj.tick;split<;>rfl
def A5{l:pB}{V:qd}(wf:WF l V):WF l (pS V .turn):=(KA V).wf wf (λi c' e=>by
 have e:(V.calls.map pj.tick)[i]?=some c':=e;rw[dD]at e;cases q:V.calls[i]? with
 | none=>rw[q]at e;cases e
 | some c=>
  rw[q]at e;have e:c.tick=c':=dn e;have hw:c.tick.way=c.way:=by unfold pj.tick;split<;>rfl
  rw[<-e,hw];exact(wf.ok i c q).wy) wf.nx
def TY{l:pB}{V:qd}{b:Bool}{i:Nat}(wf:WF l V):WF l (pS V (.sw b i)):=⟨wf.ok,wf.un,wf.ln,wf.wt,wf.nx⟩
def EO{l:pB}{V:qd}{o:Option Nat}{i:Nat}{z:Str}{ns:List Nat}(wf:zo l V o):zo l (pS V (.asks i z ns)) o:=⟨wf.ok,wf.un,wf.ln,wf.wt,wf.nx⟩
def Hi{l:pB}{V:qd}{o:Option Nat}{v:rQ}(wf:zo l V o)(hz:v.g∈l.nm):zo l (pS V (.leg v)) o:=(zk V v).core.wf wf (λi c' e=>by
 have e:(V.calls.modify v.i (·.go v.g))[i]?=some c':=e;rw[iU]at e;cases q:V.calls[i]? with
 | none=>rw[q]at e;cases e
 | some c=>
  rw[q]at e;have k:=(wf.ok i c q).wy;have e:(if v.i=i then c.go v.g else c)=c':=dn e;by_cases g:v.i=i
  .rw[dg g]at e;rw[<-e];refine⟨by show c.way++[v.g]≠[];simp,λz hz'=>?_⟩;rcases dU.mp (show z∈c.way++[v.g]from hz')with y|y
   .exact k.2 z y
   .rw[dv.mp y];exact hz
  .rw[de g]at e;rw[<-show c=c' from e];exact k) wf.nx
theorem Bv{l:pB}{o:Option Nat}(i:Nat):∀(st:sQ) (q:Option Str) {V:qd},zo l V o->(∀s∈st,s.1∈l.nm)->zo l (qk V (rg i q st)) o
 | [],_,V,wf,_=>wf
 | (y,gs)::r,none,V,wf,h=>Bv i r (some y) (EO wf) λs hs=>h s (dC _ hs)
 | (y,gs)::r,some u,V,wf,h=>Bv i r (some y) (EO (Hi wf (h _ dJ))) λs hs=>h s (dC _ hs)
def rj{V:qd}{i:Nat}{c:pj}{f:pj->pj}(h:V.calls[i]?=some c):(xE V i f).calls=V.calls.set i (f c):=by unfold xE;rw[tD h]
def AY{i:Nat}:∀j,j≠i->((some i:Option Nat)==some j)=((none:Option Nat)==some j):=λj hj=>by rw[show((some i:Option Nat)==some j)=false by simpa using dO hj];rfl
def VJ{l:pB}{V:qd}{i:Nat}{c:pj}(wf:zo l V (some i))(hc:V.calls[i]?=some c):c.st="rings"/\c.ms=[]/\c.hd=none/\c.wd=none/\c.at_=[]:=by
 have sh:=(wf.ok i c hc).sh;rw[fz]at sh;rcases sh with g|g
 .exact⟨g.1,g.2.1,g.2.2.1,g.2.2.2.1,g.2.2.2.2.1 rfl⟩
 .cases g.1
def P8{l:pB}{c:pj}{o:Bool}{w:Str}(k:vG l o c)(hw:w∈Ma):vG l false (c.over w):=⟨.inr ⟨rfl,.inr (.inr (.inr ⟨rfl,rfl,rfl,rfl,w,hw,rfl⟩))⟩,k.cr,(λx hx=>by cases hx),(λx hx=>by cases hx),eK,eK,(λhx=>by cases hx),k.wy⟩
def wx{l:pB}{V V':qd}{o:Option Nat}{i:Nat}{c:pj}{w:Str}(wf:zo l V o)(hc:V.calls[i]?=some c)(ho:o=none\/o=some i)(hw:w∈Ma)(e:V'.calls=V.calls.set i (c.over w))(nx:uf l V'):WF l V':=
 wf.set e hc (λj hj=>by rcases ho with rfl|rfl;rfl;exact AY j hj) (P8 (wf.ok i c hc) hw) (λx g=>(GO rfl g).elim) (λx g=>by rw[FR (c:=c.over w) rfl]at g;cases g) (λx g=>by have:=(rX.mp g).1;exact absurd this (show("over":Str)≠"waits" by decide)) nx
def Hj{l:pB}{V:qd}{c z:Str}(h:(l.mD z).Nodup):(xA l V c z).Nodup:=by
 unfold xA;split
 .cases(uO (l.mD z) (zA V z)).filter λx=>hasS (ug l V c z) x with
  | nil=>exact eK
  | cons y r=>exact dS.mpr ⟨dE,eK⟩
 .exact h.sublist fY
def Nd(ps:List (Str×Int))(z:Str)(n:Int)(y:Str):(Cv ps z n).find? (λp=>decide (p.1=y))=if y=z then some (z,n)else ps.find? λp=>decide (p.1=y):=by
 unfold Cv;by_cases h:ps.any (λp=>decide (p.1=z))=true
 .rw[dg h];induction ps with
  | nil=>cases h
  | cons p r ih=>
   rw[dY,fK,fK];by_cases hp:p.1=z
   .rw[dg hp];by_cases hy:y=z
    .rw[dg hy,hy];simp[hp]
    .rw[de hy];have n1:decide (p.1=y)=false:=eN (λq=>hy (q.symm.trans hp));simp only[n1];by_cases hr:r.any (λp=>decide (p.1=z))=true
     .have:=ih hr;rw[de hy]at this;exact this
     .have hr:∀q∈r,¬q.1=z:=λq hq g=>hr (gz.mpr ⟨q,hq,dZ g⟩);rw[show r.map (λp=>if p.1=z then(p.1,n)else p)=r from(gw λq hq=>de (hr q hq)).trans (jb _)]
   .rw[de hp];have hr:r.any (λp=>decide (p.1=z))=true:=by
     rw[gb,gQ]at h;rcases h with g|g
     .exact absurd (fQ g) hp
     .exact g
    have ih:=ih hr;by_cases hy:y=z
    .rw[dg hy]at ih ⊢;have n1:decide (p.1=y)=false:=eN (λq=>hp (q.trans hy));simp only[n1];exact ih
    .rw[de hy]at ih ⊢;cases decide (p.1=y)with
     | true=>rfl
     | false=>exact ih
 .rw[de h,List.find?_append];have hr:∀q∈ps,¬q.1=z:=λq hq g=>h (gz.mpr ⟨q,hq,dZ g⟩);by_cases hy:y=z
  .subst hy;rw[dg rfl,gS.mpr λq hq=>by simpa using hr q hq,Option.none_or];simp
  .rw[de hy,fK,eN (λq:z=y=>hy q.symm)];simp
def Nu{l:pB}{V:qd}{z:Str}{n:Int}(h:uf l V)(h0:0<=n)(h1:n<=((l.mD z).length:Int)):uf l (pS V (.next z n)):=λy hy ht=>by
 show ∃v,(Cv V.ps z n).find? _=some v/\_;rw[Nd];by_cases e:y=z
 .subst e;rw[dg rfl];exact⟨_,rfl,h0,h1⟩
 .rw[de e];exact h y hy ht
def FD{l:pB}{V:qd}{x:Str}(h:tM l V x=true):(uP V x:Int)<wH l x:=fQ h
def JV{l:pB}{V V':qd}{o:Option Nat}{i:Nat}{c:pj}{w x:Str}(wf:zo l V o)(hc:V.calls[i]?=some c)(e:V'.calls=V.calls.set i (c.over w))(hx:Bh c x):CM V' x:=λd hd g=>by
 rw[e]at hd;obtain⟨j,hj,ed⟩:=gM hd;have ej:(V.calls.set i (c.over w))[j]?=some d:=by rw[cY hj,ed]
 rcases FG ej with⟨_,rfl,_⟩|⟨Xd,ej⟩
 .exact GO rfl g
 .exact Xd (wf.un j i d c x ej hc g hx)
def JX{V V':qd}{i:Nat}{c:pj}{w x:Str}(hc:V.calls[i]?=some c)(e:V'.calls=V.calls.set i (c.over w))(hx:c.hasB x=true):uP V' x+1=uP V x:=by
 have:=ED (λk:pj=>k.hasB x) (c.over w) hc;unfold uP;rw[e];simp only[hx,iZ,FR (c:=c.over w) rfl]at this
 simpa using this
def Gg{l:pB}{V V':qd}{o:Option Nat}{i j:Nat}{c d:pj}{ms:List Str}(wf:zo l V o)(ho:o=none\/o=some i)(hc:V.calls[i]?=some c)(hd:V.calls[j]?=some d)(XM:i≠j)(e:V'.calls=(V.calls.set i (c.over "merged")).set j (d.mem ms))(nx:uf l V')(dt:d.st="talks")(m1:ms.Nodup)(m2:ms.length=2\/ms.length=3)(m3:∀x∈ms,x∈d.ms\/(Bh c x/\c.hasB x=true))(m4:∀x∈ms,x∈l.pn):WF l V':=by
 have e1:(xE V i (·.over "merged")).calls=V.calls.set i (c.over "merged"):=rj hc;have w1:WF l (xE V i (·.over "merged")):=wx wf hc ho (by decide) e1 wf.nx;have hd1:(xE V i (·.over "merged")).calls[j]?=some d:=by rw[e1,fE XM];exact hd
 have kd:=w1.ok j d hd1;have kd':d.hd=none/\d.wd=none/\d.at_=[]:=by
  rcases kd.sh with g|⟨_,g|g|⟨_,g⟩|g⟩
  .rw[dt]at g;exact absurd g.1 (by decide)
  .rw[dt]at g;exact absurd g.1 (by decide)
  .exact⟨g.2.2.1,g.2.2.2.1,g.2.2.2.2⟩
  .rw[dt]at g;exact absurd g.1 (by decide)
  .rw[dt]at g;exact absurd g.1 (by decide)
 refine w1.set (c':=d.mem ms) (by rw[e,e1]) hd1 (λ_ _=>rfl) ⟨.inr ⟨rfl,.inr (.inl ⟨dt,m2,kd'.1,kd'.2.1,kd'.2.2⟩)⟩,kd.cr,kd.at_,m4,kd.an,m1,kd.ca,kd.wy⟩ (λx g=>?_) (λx g=>?_) (λx g=>?_) nx
 .have g:=(tF (c:=d.mem ms) dt).mp g;rcases m3 x g with y|y
  .exact .inl ((tF dt).mpr y)
  .exact .inr (JV wf hc e1 y.1)
 .have g:=(sO (c:=d.mem ms) (.inl dt)).mp g;rcases m3 x g with y|y
  .exact .inl ((sO (.inl dt)).mpr y)
  .have:=JX hc e1 y.2;have:=wf.ln x (m4 x g);exact .inr (by omega)
 .have:=(rX.mp g).1;rw[show(d.mem ms).st="talks" from dt]at this;exact absurd this (by decide)
def Sy{l:pB}{V V1:qd}{i:Nat}{c:pj}{e:vi}(ok:qW l)(wf:zo l V1 (some i))(same:yU V V1)(hc:V1.calls[i]?=some c)(he:F6 l V c.cr e):WF l (qk V1 (rR l V1 i e)):=by
 obtain⟨p1,p2,p3,p4,p5⟩:=VJ wf hc;have k:=wf.ok i c hc;have hi:=(cX.mp hc).1;cases e with
 | rings z ps=>
  obtain⟨hz,Xd,rfl⟩:=he;obtain⟨⟨q1,q2,q3,q4⟩,_⟩:=ok.of hz;obtain⟨r1,r2⟩:=G2 (l:=l) (V:=V) (c:=c.cr) (z:=z);generalize Y3:xA l V c.cr z=ps at Xd r1 r2;have WR:∀V2:qd,V2.calls=V1.calls->uf l V2->WF l (pS V2 (.rings i ps)):=λV2 e2 nx=>by
   have e3:(pS V2 (.rings i ps)).calls=V1.calls.set i (c.ring ps):=by show(xE (qE V2 _) i _).calls=_;rw[rj (c:=c) (by show V2.calls[i]?=_;rw[e2];exact hc)];show V2.calls.set i _=_;rw[e2]
   have free:∀x∈ps,tM l V x=true/\x≠c.cr:=λx hx=>by have h:=(fJ.mp (r1 x hx).1).2;simp only[dW,gG]at h;exact⟨h.2,by simpa using h.1⟩
   refine wf.set e3 hc AY ⟨.inl ⟨rfl,p2,p3,p4,(λh=>by cases h),λ_=>Xd⟩,k.cr,λx hx=>q4 x (r1 x hx).2,k.ms,by rw[<-Y3];exact Hj q3,k.mn,λhx=>(free _ hx).2 rfl,k.wy⟩ (λx g=>?_) (λx g=>?_) (λx g=>?_) nx
   .exact .inl ((sG p1).mpr ((sG (c:=c.ring ps) rfl).mp g))
   .rcases(sD (c:=c.ring ps) rfl).mp g with y|y
    .exact .inl ((sD p1).mpr (.inl y))
    .refine .inr ?_;rw[same.used];exact FD (free x y).1
   .exact absurd (rX.mp g).1 (show("rings":Str)≠"waits" by decide)
  show WF l (qk V1 ((if (l.mL z=="turns")=true then _ else _)++[.rings i ps]));rw[rc];by_cases ht:(l.mL z=="turns")=true
  .rw[dg ht];have lp:0<(l.mD z).length:=fB.mpr q1;refine WR _ rfl (Nu wf.nx (eQ _ (by omega)) (Int.le_of_lt (eM _ (by omega))))
  .rw[de ht];exact WR V1 rfl wf.nx
 | waits z=>
  obtain⟨hz,Xd,hw⟩:=he;have e3:(pS V1 (.waits i z)).calls=V1.calls.set i (c.wait z):=rj (V:=qE V1 _) hc;have hw1:Aj V1 z=false:=by
   unfold Aj at hw ⊢;have key:∀cs:List pj,cs.any (·.mK z)=(cs.map pj.core).any (·.mK z):=λcs=>by rw[jJ];rfl
   rw[key,same,<-key];exact hw
  refine wf.set e3 hc AY ⟨.inr ⟨rfl,.inl ⟨rfl,p2,p3,p4,rfl⟩⟩,k.cr,λx hx=>by rw[dv.mp hx];exact hz,k.ms,dS.mpr ⟨dE,eK⟩,k.mn,λhx=>Xd (dv.mp hx).symm,k.wy⟩ (λx g=>?_) (λx g=>?_) (λx g=>?_) wf.nx
  .exact .inl ((sG p1).mpr ((Dl (c:=c.wait z) rfl).mp g))
  .exact .inl ((sD p1).mpr (.inl ((Dp (c:=c.wait z) rfl).mp g)))
  .have:=(rX.mp g).2;rw[dv.mp this];exact .inr hw1
 | breaks z=>
  obtain⟨x,rfl,hb⟩:=he;obtain⟨j,d0,t1,t2,t3,t4,t5,t6⟩:=FL hb;have ht:vv V1 z=some j:=by
   rw[<-t1];unfold vv;have key:∀cs:List pj,cs.findIdx? (·.mP z)=(cs.map pj.core).findIdx? (·.mP z):=λcs=>by rw[gY];rfl
   rw[key,same,<-key]
  obtain⟨d,ed,ec⟩:∃d,V1.calls[j]?=some d/\d.core=d0.core:=by
   have:=eY (·[j]?) same;simp only[dD,t2]at this;cases q:V1.calls[j]? with
   | none=>rw[q]at this;cases this
   | some d=>rw[q]at this;exact⟨d,rfl,dn this⟩
  have ds:d.st="talks":=by rw[show d.st=d0.st from show d.core.st=d0.core.st by rw[ec]];exact t3
  have dm:d.ms=d0.ms:=show d.core.ms=d0.core.ms by rw[ec]
  have XM:i≠j:=λy=>by subst y;rw[hc]at ed;cases ed;rw[p1]at ds;exact absurd ds (by decide)
  have ZV:rR l V1 i (.breaks z)=[.merge i j (d.ms++[c.cr])]:=by unfold rR;dsimp only;rw[ht,hc];dsimp only;rw[ed];rfl
  rw[ZV];have ncr:c.cr∉d.ms:=λy=>XM (wf.un i j c d c.cr hc ed ((sG p1).mpr rfl) ((tF ds).mpr y));have kd:=wf.ok j d ed;refine Gg (V':=pS V1 (.merge i j (d.ms++[c.cr]))) (ms:=d.ms++[c.cr]) wf (.inr rfl) hc ed XM ?_ wf.nx ds ?_ (.inr ?_) (λx hx=>?_) (λx hx=>?_)
  .show(V1.calls.modify i _).modify j _=_;rw[tD hc,tD (show(V1.calls.set i _)[j]?=some d by rw[fE XM];exact ed)]
  .refine gm.mpr ⟨kd.mn,dS.mpr ⟨dE,eK⟩,λx hx y hy q=>ncr ?_⟩;rw[dv.mp hy]at q;rw[<-q];exact hx
  .rw[cZ,dm,t5];rfl
  .rcases dU.mp hx with y|y
   .exact .inl y
   .rw[dv.mp y];exact .inr ⟨(sG p1).mpr rfl,(sD p1).mpr (.inl rfl)⟩
  .rcases dU.mp hx with y|y
   .exact kd.ms x y
   .rw[dv.mp y];exact k.cr
 | engaged z=>exact wx (V':=pS V1 (.over i "engaged")) wf hc (.inr rfl) (by decide) (rj (V:=qE V1 _) hc) wf.nx
 | barred=>exact wx (V':=pS V1 (.over i "barred")) wf hc (.inr rfl) (by decide) (rj (V:=qE V1 _) hc) wf.nx
 | ring ns=>exact wx (V':=pS V1 (.over i "ring")) wf hc (.inr rfl) (by decide) (rj (V:=qE V1 _) hc) wf.nx
def Qp{l:pB}{V:qd}{i:Nat}{k:pj}(ok:qW l)(wf:zo l V (some i))(hk:V.calls[i]?=some k):WF l (qk V (uK l V i)):=by
 have Xv:=wf.ok i k hk;unfold uK;rw[hk];dsimp only[Option.elim];obtain⟨z,hz⟩:∃z,k.way.getLast?=some z:=by
  cases e:k.way.getLast? with
  | none=>exact absurd (gi.mp e) Xv.wy.1
  | some z=>exact⟨z,rfl⟩
 rw[show k.way.getLastD Str.empty=z by rw[gI,hz];rfl];have ro:wk l V k.cr (l.nm.length+1) [] (uo l V k.cr z k.way.dropLast):=xl ok _ _ _ _ (Xv.wy.2 z (ib hz)) λx hx=>Xv.wy.2 x (ic _ hx);generalize uo l V k.cr z k.way.dropLast=R at ro;obtain⟨e,st⟩:=R;have snm:∀s∈st,s.1∈l.nm:=λs hs=>(ro.nm s hs).elim (λh=>by cases h) id;have w1:=Bv i st none wf snm;have Xp:=ur i st none V;rw[rc,rc];dsimp only;have WR:∀V1:qd,zo l V1 (some i)->tI V V1->WF l (qk V1 (rR l V i e)):=λV1 w s=>by
  rw[<-s.ends];obtain⟨c',e1,e2⟩:=s.at_ hk;have hcr:c'.cr=k.cr:=show c'.bare.cr=k.bare.cr by rw[e2]
  exact Sy ok w s.core e1 (by rw[hcr];exact ro.e)
 cases e with
 | ring ns=>
  obtain⟨x,ns',rfl⟩:=gf (show ns≠[]from ro.e);cases hl:st.getLast? with
  | none=>rw[show sV i st (.ring (x::ns'))=[]by unfold sV;dsimp only;rw[hl];rfl];exact WR _ w1 Xp
  | some s0=>rw[show sV i st (.ring (x::ns'))=[.leg ⟨i,s0.1,x,s0.1⟩]by unfold sV;dsimp only;rw[hl];rfl];exact WR _ (Hi (v:=⟨i,s0.1,x,s0.1⟩) w1 (ro.wy _ rfl x dJ)) (Xp.trans (zk _ _))
 | rings _ _=>exact WR _ w1 Xp
 | waits _=>exact WR _ w1 Xp
 | breaks _=>exact WR _ w1 Xp
 | engaged _=>exact WR _ w1 Xp
 | barred=>exact WR _ w1 Xp
def Em{l:pB}{V:qd}{y z:Str}(wf:WF l V)(hy:y∈l.pn)(hz:z∈l.nm)(hi:CM V y)(hf:tM l V y=true):zo l (qk V [.new V.calls.length y,.leg ⟨V.calls.length,y,z,y⟩]) (some V.calls.length):=by
 have e:(qk V [.new V.calls.length y,.leg ⟨V.calls.length,y,z,y⟩]).calls=V.calls++[(yx y).go z]:=by show(V.calls++[yx y]).modify V.calls.length _=_;rw[tD (c:=yx y) (by rw[eV (dw _),hU];rfl),j9 _ _ (dw _),hU];rfl
 refine wf.add e ⟨.inl ⟨rfl,rfl,rfl,rfl,λ_=>rfl,(λh=>by cases h)⟩,hy,(λx h=>by cases h),(λx h=>by cases h),eK,eK,(λh=>by cases h),fA _ _,λx h=>by rw[dv.mp h];exact hz⟩ (λx h=>?_) (λx h=>?_) (λx=>?_) wf.nx
 .rw[(sG (c:=(yx y).go z) rfl).mp h];exact hi
 .rcases(sD (c:=(yx y).go z) rfl).mp h with g|g
  .rw[g];exact FD hf
  .cases g
 .cases q:((yx y).go z).mK x with
  | false=>rfl
  | true=>exact absurd (rX.mp q).1 (show("rings":Str)≠"waits" by decide)
def HF{V:qd}{y z:Str}:∃k,(qk V [.new V.calls.length y,.leg ⟨V.calls.length,y,z,y⟩]).calls[V.calls.length]?=some k:=by
 have:V.calls.length<(qk V [.new V.calls.length y,.leg ⟨V.calls.length,y,z,y⟩]).calls.length:=by show V.calls.length<((V.calls++[yx y]).modify _ _).length;rw[eX,cZ];exact fu _
 exact⟨_,cY this⟩
def A0{l:pB}{V:qd}{i:Nat}{c:pj}{x y:Str}{fs:List Nat}(wf:WF l V)(hc:V.calls[i]?=some c)(hs:c.st="rings")(hy:y∈l.nm):zo l (qk V [.asks i x fs,.quiet i,.leg ⟨i,x,y,x⟩]) (some i):=by
 refine Hi (v:=⟨i,x,y,x⟩) ?_ hy;have k:=wf.ok i c hc;have w1:WF l (pS V (.asks i x fs)):=EO wf;have sh:c.ms=[]/\c.hd=none/\c.wd=none:=by
  rcases k.sh with g|⟨_,g|g|⟨_,g⟩|g⟩
  .exact⟨g.2.1,g.2.2.1,g.2.2.2.1⟩
  all_goals(rw[hs]at g;exact absurd g.1 (by decide))
 refine w1.set (i:=i) (c:=c) (c':=c.nA) (rj (V:=qE (pS V (.asks i x fs)) _) hc) hc (λj hj=>(AY j hj).symm) ?_ (λx g=>.inl ?_) (λx g=>.inl ?_) (λx g=>?_) wf.nx
 .rw[fz];exact⟨.inl ⟨hs,sh.1,sh.2.1,sh.2.2,λ_=>rfl,(λh=>by cases h)⟩,k.cr,(λx h=>by cases h),k.ms,eK,k.mn,(λh=>by cases h),k.wy⟩
 .exact(sG hs).mpr ((sG (c:=c.nA) hs).mp g)
 .rcases(sD (c:=c.nA) hs).mp g with y|y
  .exact(sD hs).mpr (.inl y)
  .cases y
 .have:=(rX.mp g).1;rw[show c.nA.st="rings" from hs]at this;exact absurd this (by decide)
inductive UQ(l:pB)(V:qd)(i:Nat):List Nat->Prop
 | no:UQ l V i []
 | on (c:pj) (k:Nat) (r:List Nat) (b:Bool) (x y:Str) (n:Int):V.calls[i]?=some c->c.st="rings"->l.mE[k]?=some (b,.silent x y n)->c.way.getLast?=some x->y∈l.nm->UQ l V i (k::r)
def Ez{l:pB}{V:qd}{i:Nat}(ok:qW l):UQ l V i (x9 l V i):=by
 unfold x9;cases e:V.calls[i]? with
 | none=>exact .no
 | some c=>
  dsimp only[Option.elim];by_cases hs:(c.st=="rings")=true
  .rw[dg hs];cases q:HE l V (GQ c)with
   | nil=>exact .no
   | cons k r=>
    obtain⟨⟨b,w⟩,e1,e2⟩:=EV (i:=k) (by rw[q];exact dJ);cases w with
    | silent x y n=>unfold GQ at e2;rw[dW,fg]at e2;exact .on c k r b x y n e (eq_of_beq hs) e1 e2.1 (Bs ok (fk e1) (z:=Str.empty) rfl)
    | _=>cases e2
  .rw[de hs];exact .no
def xU{l:pB}{V:qd}{i k:Nat}{r:List Nat}{b:Bool}{x y:Str}{n:Int}(h:l.mE[k]?=some (b,.silent x y n)):sJ l V i (k::r)=[.asks i x (k::r),.quiet i,.leg ⟨i,x,y,x⟩]++uK l (qk V [.asks i x (k::r),.quiet i,.leg ⟨i,x,y,x⟩]) i:=by unfold sJ;simp only[List.head?_cons,lQ,h]
def Bd{V:qd}{i:Nat}{c:pj}{x y:Str}{fs:List Nat}(h:V.calls[i]?=some c):(qk V [.asks i x fs,.quiet i,.leg ⟨i,x,y,x⟩]).calls[i]?=some (c.nA.go y):=by show((V.calls.modify i pj.nA).modify i _)[i]?=_;rw[iU,iU,h];simp
def FI{l:pB}{V:qd}{i:Nat}(ok:qW l)(wf:WF l V):WF l (qk V (sJ l V i (x9 l V i))):=by
 have d:=Ez (V:=V) (i:=i) ok;generalize x9 l V i=fs at d;cases d with
 | no=>exact wf
 | on c k r b x y n hc hs hk hw hy=>rw[xU hk,rc];exact Qp ok (A0 wf hc hs hy) (Bd hc)
theorem EM{l:pB}(ok:qW l):∀(is:List Nat) {V:qd},WF l V->WF l (qk V (qP l is V))
 | [],_,wf=>wf
 | i::r,V,wf=>by unfold qP;rw[rc];exact EM ok r (FI ok wf)
theorem Dt(l:pB)(i:Nat):∀(is:List Nat) (V:qd),qP l (is++[i]) V=qP l is V++sJ l (qk V (qP l is V)) i (x9 l (qk V (qP l is V)) i)
 | [],V=>by show sJ l V i _++[]=[]++_;rw[eO];rfl
 | j::r,V=>by show sJ l V j _++qP l (r++[i]) _=(sJ l V j _++qP l r _)++_;rw[Dt l i r,fj,show qP l (j::r) V=sJ l V j (x9 l V j)++qP l r (qk V (sJ l V j (x9 l V j)))from rfl,rc]
def tN{ss:List Str}{x y:Str}:y∈rC ss x↔y∈ss/\y≠x:=by unfold rC;rw[fJ,gG,gv]
theorem xG{x:Str}:∀{ss:List Str},ss.Nodup->x∈ss->(rC ss x).length+1=ss.length
 | [],_,h=>by cases h
 | y::r,nd,h=>by
  have nd:=dS.mp nd;unfold rC;rw[gK];by_cases e:y=x
  .subst e;rw[show(!(y==y))=false by simp,de (by decide),kD.mpr λz hz=>by
    have:z≠y:=λq=>nd.1 (q ▸ hz)
    simpa using this]
   rfl
  .have h:x∈r:=by
    rcases dh.mp h with q|q
    .exact absurd q.symm e
    .exact q
   rw[dg (by simpa using e)];have:=xG nd.2 h;unfold rC at this;rw[eB,eB,this]
def NV{l:pB}{V:qd}{i:Nat}{c:pj}{x:Str}(wf:WF l V)(hc:V.calls[i]?=some c)(hl:c.nk x=true):WF l (qk V (uS V x i)):=by
 have k:=wf.ok i c hc;unfold uS;rw[hc];dsimp only[Option.elim];by_cases h1:c.mQ x=true
 .rw[dg h1];exact wx (V':=pS V (.over i "left")) wf hc (.inl rfl) (by decide) (rj (V:=qE V _) hc) wf.nx
 .rw[de h1];have e1:(pS V (.leaves i x)).calls=V.calls.set i (c.drop x):=rj (V:=qE V _) hc;by_cases h2:hasS c.at_ x=true
  .rw[dg h2];by_cases h3:rC c.at_ x=[]
   .rw[dg h3];refine wx (V':=pS (pS V (.leaves i x)) (.over i "refused")) wf hc (.inl rfl) (by decide) (w:="refused") ?_ wf.nx;have h4:(pS V (.leaves i x)).calls[i]?=some (c.drop x):=by rw[e1,fF (cX.mp hc).1]
    show(xE (qE (pS V (.leaves i x)) _) i _).calls=_;rw[rj (V:=qE (pS V (.leaves i x)) _) h4];show(pS V (.leaves i x)).calls.set i _=_;rw[e1,jF];rfl
   .rw[de h3];have hs:c.st="rings"/\c.ms=[]/\c.hd=none/\c.wd=none:=by
     rcases k.sh with g|⟨_,g|g|⟨_,g⟩|g⟩
     .exact⟨g.1,g.2.1,g.2.2.1,g.2.2.2.1⟩
     .exfalso;have:=xG k.an (qL.mp h2);rw[g.2.2.2.2]at this;exact h3 (gu.mp (by omega))
     .rw[g.2.2.2.2]at h2;cases h2
     .rw[g.2.2.2.2.2]at h2;cases h2
     .rw[g.2.2.2.1]at h2;cases h2
    refine wf.set (V':=pS V (.leaves i x)) (c':=c.drop x) e1 hc (λ_ _=>rfl) ⟨.inl ⟨hs.1,by show rC c.ms x=[];rw[hs.2.1];rfl,hs.2.2.1,hs.2.2.2,(λh=>by cases h),λ_=>h3⟩,k.cr,λy hy=>k.at_ y (tN.mp hy).1,λy hy=>k.ms y (tN.mp hy).1,k.an.sublist fY,k.mn.sublist fY,λhy=>k.ca (tN.mp hy).1,k.wy⟩ (λy g=>?_) (λy g=>?_) (λy g=>?_) wf.nx
    .exact .inl ((sG hs.1).mpr ((sG (c:=c.drop x) hs.1).mp g))
    .refine .inl ((sD hs.1).mpr (((sD (c:=c.drop x) hs.1).mp g).imp id λh=>(tN.mp h).1))
    .have:=(rX.mp g).1;rw[show(c.drop x).st="rings" from hs.1]at this;exact absurd this (by decide)
  .rw[de h2];by_cases h3:2<c.ms.length
   .rw[dg h3];have hx:x∈c.ms:=by unfold pj.nk at hl;rw[dI.mpr h1,dI.mpr h2,fO,fO]at hl;exact qL.mp hl
    have hs:c.st="talks"/\c.ms.length=3/\c.hd=none/\c.wd=none/\c.at_=[]:=by
     rcases k.sh with g|⟨_,g|g|⟨_,g⟩|g⟩
     .rw[g.2.1]at h3;cases h3
     .rw[g.2.1]at h3;cases h3
     .exact⟨g.1,g.2.1.elim (λq=>by omega) id,g.2.2⟩
     .omega
     .rw[g.2.1]at h3;cases h3
    have dl:=xG k.mn hx;refine wf.set (V':=pS V (.leaves i x)) (c':=c.drop x) e1 hc (λ_ _=>rfl) ⟨.inr ⟨rfl,.inr (.inl ⟨hs.1,.inl (by show(rC c.ms x).length=2;omega),hs.2.2.1,hs.2.2.2.1,by show rC c.at_ x=[];rw[hs.2.2.2.2];rfl⟩)⟩,k.cr,λy hy=>k.at_ y (tN.mp hy).1,λy hy=>k.ms y (tN.mp hy).1,k.an.sublist fY,k.mn.sublist fY,λhy=>k.ca (tN.mp hy).1,k.wy⟩ (λy g=>?_) (λy g=>?_) (λy g=>?_) wf.nx
    .exact .inl ((tF hs.1).mpr (tN.mp ((tF (c:=c.drop x) hs.1).mp g)).1)
    .exact .inl ((sO (.inl hs.1)).mpr (tN.mp ((sO (c:=c.drop x) (.inl hs.1)).mp g)).1)
    .have:=(rX.mp g).1;rw[show(c.drop x).st="talks" from hs.1]at this;exact absurd this (by decide)
   .rw[de h3];exact wx (V':=pS V (.over i "done")) wf hc (.inl rfl) (by decide) (rj (V:=qE V _) hc) wf.nx
def Kv{l:pB}{V:qd}{i:Nat}{c:pj}{x:Str}(wf:WF l V)(hc:V.calls[i]?=some c)(hx:hasS c.at_ x=true)(hi:CM V x)(hf:c.mK x=true->tM l V x=true):WF l (pS V (.talks i [c.cr,x])):=by
 have k:=wf.ok i c hc;have hx:=qL.mp hx;have Xd:c.cr≠x:=λq=>k.ca (q ▸ hx);have hs:(c.st="rings"\/c.st="waits")/\c.wd=none:=by
  rcases k.sh with g|⟨_,g|g|⟨_,g⟩|g⟩
  .exact⟨.inl g.1,g.2.2.2.1⟩
  .exact⟨.inr g.1,g.2.2.2.1⟩
  .rw[g.2.2.2.2]at hx;cases hx
  .rw[g.2.2.2.2.2]at hx;cases hx
  .rw[g.2.2.2.1]at hx;cases hx
 have ec:Bh c c.cr/\c.hasB c.cr=true:=by
  rcases hs.1 with g|g
  .exact⟨(sG g).mpr rfl,(sD g).mpr (.inl rfl)⟩
  .exact⟨(Dl g).mpr rfl,(Dp g).mpr rfl⟩
 refine wf.set (V':=pS V (.talks i [c.cr,x])) (c':=c.ny [c.cr,x]) (rj (V:=qE V _) hc) hc (λ_ _=>rfl) ⟨.inr ⟨rfl,.inr (.inl ⟨rfl,.inl rfl,rfl,hs.2,rfl⟩)⟩,k.cr,(λy h=>by cases h),(λy h=>?_),eK,?_,(λh=>by cases h),k.wy⟩ (λy g=>?_) (λy g=>?_) (λy g=>?_) wf.nx
 .rcases dh.mp h with g|g
  .rw[g];exact k.cr
  .rw[dv.mp g];exact k.at_ x hx
 .exact dS.mpr ⟨λh=>Xd (dv.mp h),dS.mpr ⟨dE,eK⟩⟩
 .rcases dh.mp ((tF (c:=c.ny [c.cr,x]) rfl).mp g)with h|h
  .rw[h];exact .inl ec.1
  .rw[dv.mp h];exact .inr hi
 .rcases dh.mp ((sO (c:=c.ny [c.cr,x]) (.inl rfl)).mp g)with h|h
  .rw[h];exact .inl ec.2
  .rw[dv.mp h];rcases hs.1 with q|q
   .exact .inl ((sD q).mpr (.inr hx))
   .exact .inr (FD (hf (rX.mpr ⟨q,hx⟩)))
 .exact absurd (rX.mp g).1 (show("talks":Str)≠"waits" by decide)
def zY{c:pj}{x:Str}:c.mS x=true↔c.st="talks"/\x∈c.ms/\c.ms.length=2:=by unfold pj.mS pj.mP;rw[dW,dW,fg,qL,fg,and_assoc]
def MY{l:pB}{c:pj}(k:vG l false c)(h:c.st="talks"):c.hd=none/\c.wd=none/\c.at_=[]:=by
 rcases k.sh with g|⟨_,g|g|⟨_,g⟩|g⟩
 .rw[h]at g;exact absurd g.1 (by decide)
 .rw[h]at g;exact absurd g.1 (by decide)
 .exact g.2.2
 .rw[h]at g;exact absurd g.1 (by decide)
 .rw[h]at g;exact absurd g.1 (by decide)
def Fd{l:pB}{c:pj}{x:Str}(k:vG l false c)(h:c.hd=some x):c.st="held"/\c.ms.length=2/\x∈c.ms/\c.wd=none/\c.at_=[]:=by
 rcases k.sh with g|⟨_,g|g|⟨y,g⟩|g⟩
 .rw[h]at g;cases g.2.2.1
 .rw[h]at g;cases g.2.2.1
 .rw[h]at g;cases g.2.2.1
 .have e:=g.2.2.1;rw[h]at e;cases e;exact⟨g.1,g.2.1,g.2.2.2⟩
 .rw[h]at g;cases g.2.2.1
def Py{l:pB}{V:qd}{i:Nat}{c:pj}{x:Str}(wf:WF l V)(hc:V.calls[i]?=some c)(hx:c.mS x=true):WF l (pS V (.held i x)):=by
 have k:=wf.ok i c hc;obtain⟨h1,h2,h3⟩:=zY.mp hx;obtain⟨s1,s2,s3⟩:=MY k h1;refine wf.set (V':=pS V (.held i x)) (c':=c.hold x) (rj (V:=qE V _) hc) hc (λ_ _=>rfl) ⟨.inr ⟨rfl,.inr (.inr (.inl ⟨x,rfl,h3,rfl,h2,s2,s3⟩))⟩,k.cr,k.at_,k.ms,k.an,k.mn,k.ca,k.wy⟩ (λy g=>.inl ?_) (λy g=>.inl ?_) (λy g=>?_) wf.nx
 .exact(tF h1).mpr ((Br (c:=c.hold x) rfl).mp g).1
 .exact(sO (.inl h1)).mpr ((sO (c:=c.hold x) (.inr rfl)).mp g)
 .exact absurd (rX.mp g).1 (show("held":Str)≠"waits" by decide)
def NR{l:pB}{V:qd}{i:Nat}{c:pj}{x:Str}(wf:WF l V)(hc:V.calls[i]?=some c)(hx:c.hd=some x)(hi:CM V x):WF l (pS V (.talks i c.ms)):=by
 have k:=wf.ok i c hc;obtain⟨h1,h2,h3,h4,h5⟩:=Fd k hx;refine wf.set (V':=pS V (.talks i c.ms)) (c':=c.ny c.ms) (rj (V:=qE V _) hc) hc (λ_ _=>rfl) ⟨.inr ⟨rfl,.inr (.inl ⟨rfl,.inl h2,rfl,h4,rfl⟩)⟩,k.cr,(λy h=>by cases h),k.ms,eK,k.mn,(λh=>by cases h),k.wy⟩ (λy g=>?_) (λy g=>.inl ?_) (λy g=>?_) wf.nx
 .have g:=(tF (c:=c.ny c.ms) rfl).mp g;by_cases e:y=x
  .rw[e];exact .inr hi
  .exact .inl ((Br h1).mpr ⟨g,λq=>e (dn (q.symm.trans hx))⟩)
 .exact(sO (.inr h1)).mpr ((sO (c:=c.ny c.ms) (.inl rfl)).mp g)
 .exact absurd (rX.mp g).1 (show("talks":Str)≠"waits" by decide)
def DX{c:pj}{x:Str}(nd:c.ms.Nodup)(h2:c.ms.length=2)(hx:x∈c.ms):qv c x∈c.ms/\qv c x≠x:=by
 have dl:=xG nd hx;obtain⟨y,r,e⟩:=List.exists_cons_of_length_pos (show 0<(rC c.ms x).length by omega);have hm:y∈rC c.ms x:=by rw[e];exact dJ
 unfold qv;rw[e];exact tN.mp hm
def EW{l:pB}{V:qd}{i j:Nat}{c d:pj}{w x:Str}(wf:WF l V)(hc:V.calls[i]?=some c)(hd:V.calls[j]?=some d)(h1:c.hd=some x)(h2:d.mS x=true):i≠j/\WF l (pS V (.merge i j (if (w=="hand")=true then[qv c x,qv d x]else[x,qv c x,qv d x]))):=by
 have k:=wf.ok i c hc;have kd:=wf.ok j d hd;obtain⟨c1,c2,c3,c4,c5⟩:=Fd k h1;obtain⟨d1,d2,d3⟩:=zY.mp h2;obtain⟨a1,a2⟩:=DX k.mn c2 c3;obtain⟨b1,b2⟩:=DX kd.mn d3 d2;have XM:i≠j:=λq=>by subst q;rw[hc]at hd;cases hd;rw[c1]at d1;exact absurd d1 (by decide)
 refine⟨XM,?_⟩;have ea:Bh c (qv c x):=(Br c1).mpr ⟨a1,λq=>a2 (dn (q.symm.trans h1))⟩;have ab:qv c x≠qv d x:=λq=>XM (wf.un i j c d _ hc hd ea (by rw[q];exact(tF d1).mpr b1));generalize hms:(if (w=="hand")=true then[qv c x,qv d x]else[x,qv c x,qv d x])=ms;have mm:∀y∈ms,y=x\/y=qv c x\/y=qv d x:=λy hy=>by
  rw[<-hms]at hy;split at hy
  .rcases dh.mp hy with g|g
   .exact .inr (.inl g)
   .exact .inr (.inr (dv.mp g))
  .rcases dh.mp hy with g|g
   .exact .inl g
   .rcases dh.mp g with g|g
    .exact .inr (.inl g)
    .exact .inr (.inr (dv.mp g))
 have n2:[qv c x,qv d x].Nodup:=dS.mpr ⟨λh=>ab (dv.mp h),dS.mpr ⟨dE,eK⟩⟩;refine Gg (V':=pS V (.merge i j ms)) (ms:=ms) wf (.inl rfl) hc hd XM ?_ wf.nx d1 ?_ ?_ (λy hy=>?_) (λy hy=>?_)
 .show(V.calls.modify i _).modify j _=_;rw[tD hc,tD (show(V.calls.set i _)[j]?=some d by rw[fE XM];exact hd)]
 .rw[<-hms];split
  .exact n2
  .refine dS.mpr ⟨λh=>?_,n2⟩;rcases dh.mp h with g|g
   .exact a2 g.symm
   .exact b2 (dv.mp g).symm
 .rw[<-hms];split
  .exact .inl rfl
  .exact .inr rfl
 .rcases mm y hy with g|g|g
  .rw[g];exact .inl d2
  .rw[g];exact .inr ⟨ea,(sO (.inr c1)).mpr a1⟩
  .rw[g];exact .inl b1
 .rcases mm y hy with g|g|g
  .rw[g];exact k.ms x c3
  .rw[g];exact k.ms _ a1
  .rw[g];exact kd.ms _ b1
def Q4{V:qd}{i:Int}(h:y9 V.calls.length i=true):∃c,V.calls[i.toNat]?=some c:=by unfold y9 at h;rw[dW,eA,eA]at h;exact⟨_,cY (by omega)⟩
def Fk{V:qd}{x:Str}{b:Bool}(h:(if ((um V x).isNone&&b)=true then some ("full":Str)else um V x)=none):um V x=none/\b=false:=by
 cases e:um V x with
 | some w=>rw[e]at h;cases h
 | none=>
  rw[e]at h;cases b with
  | true=>cases h
  | false=>exact⟨rfl,rfl⟩
inductive DE(l:pB)(V:qd)(x:Str):Str->List Int->Prop
 | answer (i:Int) (c:pj):0<=i->V.calls[i.toNat]?=some c->hasS c.at_ x=true->CM V x->(c.mK x=true->tM l V x=true)->DE l V x "answer" [i]
 | hang (i:Int) (c:pj):0<=i->V.calls[i.toNat]?=some c->c.nk x=true->DE l V x "hang" [i]
 | hold (i:Int) (c:pj):0<=i->V.calls[i.toNat]?=some c->c.mS x=true->DE l V x "hold" [i]
 | back (i:Int) (c:pj):0<=i->V.calls[i.toNat]?=some c->c.hd=some x->CM V x->DE l V x "back" [i]
 | two (w:Str) (i j:Int) (c d:pj):0<=i->0<=j->w="hand"\/w="join"->V.calls[i.toNat]?=some c->V.calls[j.toNat]?=some d->c.hd=some x->d.mS x=true->DE l V x w [i,j]
def Fp{l:pB}{V:qd}{w x:Str}{ns:List Int}(f:(tR.num w x ns).ng)(h:w9 l V (.num w x ns)=none):x∈l.pn/\DE l V x w ns:=by
 have hp:hasS l.pn x=true:=by
  cases q:hasS l.pn x with
  | true=>rfl
  | false=>unfold w9 at h;dsimp only at h;rw[dg q]at h;cases h
 refine⟨qL.mp hp,?_⟩;unfold w9 at h;dsimp only at h;rw[de (by rw[hp];decide)]at h;unfold LK at h;cases q1:ns.all (y9 V.calls.length)with
 | false=>rw[dg q1]at h;cases h
 | true=>
 rw[de (by rw[q1];decide)]at h;cases q2:IE w x (tE V ns)with
 | false=>rw[dg q2]at h;cases h
 | true=>
 rw[de (by rw[q2];decide)]at h;have z:∀i∈ns,0<=i/\∃c,V.calls[i.toNat]?=some c:=λi hi=>by have g:=eF.mp q1 i hi;refine⟨?_,Q4 g⟩;unfold y9 at g;rw[dW,eA]at g;exact g.1
 rcases f with⟨fw,fl⟩|⟨fw,fl⟩
 .match ns,fl with
  | [i],_=>
   obtain⟨hi,c,hc⟩:=z i dJ;have ec:tE V [i]=[c]:=by unfold tE;rw[fX,hc];rfl
   rw[ec]at h q2;rcases fw with rfl|rfl|rfl|rfl
   .rw[de (by decide)]at h;obtain⟨h1,h2⟩:=Fk h;refine .answer i c hi hc q2 (En h1) λhw=>?_;have h2:(c.mK x&&!(tM l V x))=false:=h2;rw[hw]at h2
    simpa using h2
   .exact .hang i c hi hc q2
   .exact .hold i c hi hc q2
   .rw[de (by decide)]at h;exact .back i c hi hc (eq_of_beq q2) (En (Fk h).1)
 .match ns,fl with
  | [i,j],_=>
   obtain⟨hi,c,hc⟩:=z i dJ;obtain⟨hj,d,hd⟩:=z j (dC _ dJ);have ec:tE V [i,j]=[c,d]:=by unfold tE;rw[fX,hc];dsimp only;rw[fX,hd];rfl
   rw[ec]at q2;have q3:((c.hd==some x)&&d.mS x)=true:=by rcases fw with rfl|rfl<;>exact q2
   rw[dW]at q3;exact .two w i j c d hi hj fw hc hd (eq_of_beq q3.1) q3.2
def Bj{l:pB}{V:qd}{y z:Str}(h:w9 l V (.call y z)=none):y∈l.pn/\z∈l.nm/\CM V y/\tM l V y=true:=by
 unfold w9 at h;dsimp only at h;cases q:hasS l.pn y with
 | false=>rw[dg q]at h;cases h
 | true=>
 rw[de (by rw[q];decide)]at h;unfold Gj at h;cases q1:hasS l.nm z with
 | false=>rw[dg q1]at h;cases h
 | true=>
 rw[de (by rw[q1];decide)]at h;obtain⟨h1,h2⟩:=Fk h;exact⟨qL.mp q,qL.mp q1,En h1,by simpa using h2⟩
def Qw{l:pB}{V:qd}{b:Bool}{i:Int}(h:w9 l V (.sw b i)=none):0<=i/\i.toNat<V.on.length:=by
 unfold w9 Qd at h;dsimp only at h;cases q:y9 V.on.length i with
 | false=>rw[dg q]at h;cases h
 | true=>unfold y9 at q;rw[dW,eA,eA]at q;omega
def wV{V:qd}{w x:Str}{i:Nat}{c:pj}(h:V.calls[i]?=some c):AJ V w x i=if (w=="answer")=true then .talks i [c.cr,x]else if (w=="hold")=true then .held i x else .talks i c.ms:=by unfold AJ;rw[h];rfl
def EF{V:qd}{w x:Str}{i j:Nat}{c d:pj}(h:V.calls[i]?=some c)(g:V.calls[j]?=some d):DO V w x i j=.merge i j (if (w=="hand")=true then[qv c x,qv d x]else[x,qv c x,qv d x]):=by unfold DO;rw[h,g];rfl
def Qs{l:pB}{V:qd}{e:tR}(ok:qW l)(wf:WF l V)(f:e.ng)(h:w9 l V e=none):WF l (qk V (rO l V e)):=by
 cases e with
 | call y z=>obtain⟨h1,h2,h3,h4⟩:=Bj h;obtain⟨k,hk⟩:=HF (V:=V) (y:=y) (z:=z);show WF l (qk V (_++uK l _ _));rw[rc];exact Qp ok (Em wf h1 h2 h3 h4) hk
 | turn=>exact EM ok _ (A5 wf)
 | sw b i=>exact TY wf
 | num w x ns=>
  obtain⟨_,n⟩:=Fp f h;cases n with
  | answer i c hi hc h1 h2 h3=>show WF l (pS V (AJ V "answer" x i.toNat));rw[wV hc];exact Kv wf hc h1 h2 h3
  | hang i c hi hc h1=>exact NV wf hc h1
  | hold i c hi hc h1=>show WF l (pS V (AJ V "hold" x i.toNat));rw[wV hc];exact Py wf hc h1
  | back i c hi hc h1 h2=>show WF l (pS V (AJ V "back" x i.toNat));rw[wV hc];exact NR wf hc h1 h2
  | two _ i j c d hi hj hw hc hd h1 h2=>show WF l (pS V (DO V w x i.toNat j.toNat));rw[EF hc hd];exact(EW wf hc hd h1 h2).2
def Pp(a:Ad):qX:=λds M Q=>Mu λM0 b A V l c n x i k=>ds=[.ref b,.str x,.int ((i:Nat):Int)]/\tZ a M0 M b A V l c n/\c<=1000000/\n<=7000000/\V.calls[i]?=some k/\∀M' A',tZ a M0 M' b A' (qk V (uS V x i)) l c (n+2)->qO A M A' M'->Q .mH M'
def Oi(a:Ad):qX:=λds M Q=>Iz λA V l L k c=>ds=[.ref A.b,.ref (rm.p k)]/\Rd a M A V l/\rF a M L k c/\Q (vZ (HE l V (GQ c))) M
def Oy(a:Ad):qX:=λds M Q=>Mu λM0 b A V l c n i k r=>ds=[.ref b,.int ((i:Nat):Int),vZ (k::r)]/\tZ a M0 M b A V l c n/\c<=1000000/\n<=6900000/\WF l V/\UQ l V i (k::r)/\∀M' A',tZ a M0 M' b A' (qk V (sJ l V i (k::r))) l c (n+33)->qO A M A' M'->Q .mH M'
def Qb(a:Ad):qX:=λds M Q=>S5 λM0 b A V l c n=>ds=[.ref b]/\tZ a M0 M b A V l c n/\c<=10000/\n<=6000000/\WF l V/\∀M' A',tZ a M0 M' b A' (qk V (Eh l V)) l c (n+1+33*c)->qO A M A' M'->Q .mH M'
def RO{a:Ad}{M:Mp}{L:List Addr}{k:rm}{c:pj}{v:Wi}{r:Addr}{Q:DK}(h:M r=some (.ins (v.cls a) v.nC))(hk:rF a M L k c)(q:Q (.bl (GQ c v)) M):LW a v [.ref r,.ref k.p] M Q:=by
 cases v with
 | silent x y n=>exact⟨r,L,k,c,rfl,h,hk,q⟩
 | _=>exact⟨_,_,rfl,q⟩
def Qf(G:Gl K mg a):Fq P w K mg base 4 a.ba (Pp a):=by
 refine fq G.ba.toDG BG (λr u=>⟨_,(oY (pG 3 BG (pF (pk v0) U2))
 (o9 (pM (uM (pQ U3 G.e.toCls G.U (Bq G) r (pY U1)))
 (o9 (pI (pQ v0 G.c.toCls G.k (qM G) r (pY (pJ (qY pf U2 pf))))))
 (o9 (pM (pC u U1 (pk U3))
 (oY (pI (pQ v0 G.c.toCls G.k (qM G) r (pY (pJ (qY pf U2 U1)))))
 (o9 (pM (pC u (pN qu rfl G.g qm (pY (pk U3))) pb)
 (o9 (pI (pQ v0 G.c.toCls G.k (qM G) r (pY (pJ (qY pf U2 pf))))))
 pE)))
 (o9 (pM (pC u (pN qu rfl G.g qm (pY (pk U3))) pb)
 (o9 (pI (pQ v0 G.c.toCls G.k (qM G) r (pY (pJ (qY pf U2 U1))))))
 (o9 (pI (pQ v0 G.c.toCls G.k (qM G) r (pY (pJ (qY pf U2 pf))))))))))))),?_⟩)
 rintro ds M Q ⟨M0,b,A,V,l,cc,n,x,i,c,rfl,cu,Zb,hn,hc,q⟩
 obtain⟨ka,ci⟩:=cu.call hc;obtain⟨ad,md,h1,h2,h3,h4,n1,n2⟩:=ci.cell;have hi:=(cX.mp hc).1;refine oZ cu.at_ (i' rfl (i' rfl (i' ci.bd.ca (i' (ra ci.e1) ?_))));refine oZ h1 ⟨rfl,_,⟨rfl,rfl⟩,_,ka,c,x,rfl,ci.cell,?_⟩;unfold uS at q;rw[hc]at q;dsimp only[Option.elim]at q;have over:∀(w0:Str),(∀M' A',tZ a M0 M' b A' (qk V [.over i w0]) l cc (n+2)->qO A M A' M'->Q .mH M')->∀(M1:Mp) (A1:tW),A1.b=A.b->qO A M A1 M1->pH a M1 A1 (pS V (.over i w0))->∃WS,qx WS M1/\Q .mH WS:=λw0 q M1 A1 eb st bd=>⟨M1,.refl,q M1 A1 ((cu.after (e:=.over i w0) hi eb st bd).mono (dw _) (by omega)) st⟩;refine qA (c:=c.mQ x) (λg=>?_) (λg=>?_)
 .rw[dg g]at q;exact oZ cu.at_ ⟨rfl,_,⟨rfl,rfl⟩,oW rfl,b,A,V,.over i "left",rfl,cu.b,cu.bd,cu.lim Zb (by omega),hi,over "left" q⟩
 rw[de g]at q;refine oZ h1 (i' rfl (i' h3 ⟨rfl,qr _,?_⟩));show if inD (.str x) (c.at_.map D.str)=true then _ else _
 rw[sy];refine qA (c:=hasS c.at_ x) (λg2=>?_) (λg2=>?_)
 .rw[dg g2]at q;refine oZ cu.at_ ⟨rfl,_,⟨rfl,rfl⟩,oW rfl,b,A,V,.leaves i x,rfl,cu.b,cu.bd,cu.lim Zb (by omega),hi,λM1 A1 eb st bd=>?_⟩;have c1:=cu.after (e:=.leaves i x) hi eb st bd;have Zd:(pS V (.leaves i x)).calls=V.calls.set i (c.drop x):=rj (V:=qE V _) hc;have hc1:(pS V (.leaves i x)).calls[i]?=some (c.drop x):=by rw[Zd,fF hi]
  obtain⟨ad',md',g1,Y6,g3,g4,_⟩:=c1.bd.cs i ka _ (st.2.2.1 i ka ci.e1) hc1;have le0:((((c.drop x).at_.map D.str).length:Int)==0)=decide (rC c.at_ x=[]):=by rw[cV,gk,fg,eA];show((rC c.at_ x).length:Int)=0↔_;rw[<-gu];omega
  refine oZ g1 (i' rfl (i' g3 ?_));refine qA (c:=(((c.drop x).at_.map D.str).length:Int)==0) (λg5=>?_) (λg5=>?_)
  .rw[le0,eA]at g5;rw[dg g5]at q;have Xz:i<(pS V (.leaves i x)).calls.length:=(cX.mp hc1).1;refine oZ c1.at_ ⟨rfl,_,⟨rfl,rfl⟩,oW rfl,b,A1,_,.over i "refused",rfl,c1.b,c1.bd,c1.lim Zb (by omega),Xz,λM2 A2 ZW W8 X9=>?_⟩;exact⟨M2,.refl,q M2 A2 (c1.after (e:=.over i "refused") Xz ZW W8 X9) (st.trans W8)⟩
  .rw[le0,eA]at g5;rw[de g5]at q;exact⟨M1,.refl,q M1 A1 (c1.mono (dw _) (by omega)) st⟩
 .rw[de g2]at q;refine oZ h1 (i' rfl (i' h4 ?_));have lm:decide ((2:Int)<((c.ms.map D.str).length:Int))=decide (2<c.ms.length):=by rw[cV,gk,eA,eA];omega
  refine qA (c:=decide ((2:Int)<((c.ms.map D.str).length:Int))) (λg3=>?_) (λg3=>?_)
  .rw[lm,eA]at g3;rw[dg g3]at q;refine oZ cu.at_ ⟨rfl,_,⟨rfl,rfl⟩,oW rfl,b,A,V,.leaves i x,rfl,cu.b,cu.bd,cu.lim Zb (by omega),hi,λM1 A1 eb st bd=>?_⟩;exact⟨M1,.refl,q M1 A1 ((cu.after (e:=.leaves i x) hi eb st bd).mono (dw _) (by omega)) st⟩
  .rw[lm,eA]at g3;rw[de g3]at q;exact oZ cu.at_ ⟨rfl,_,⟨rfl,rfl⟩,oW rfl,b,A,V,.over i "done",rfl,cu.b,cu.bd,cu.lim Zb (by omega),hi,over "done" q⟩
def On(G:Gl K mg a):Fq P w K mg base 2 a.bb (Oi a):=by
 refine fq G.bb.toDG yd (λr u=>⟨_,(oY (pG 2 yd (pk (pk v0)))
 (o9 (pq (pP sf rfl G.A sj (pY (qC rfl (yb (ix:=[none,none,some 2,some 1]) (N':=["i","on","wishes","call"])) (wI rfl G.bV (pY (pk v0))) (vN (n:=2) rfl (qI (qz 0) (qI (qz 1) uB))) (vJ (W3.b3 (yG (uM U1) (xQ (uM (ER (R:=G8 a) (pF U2 v0) (Uw G) (r.mono (by first|decide|omega)) (pY U3))))))) v0)))))),?_⟩)
 rintro ds M Q ⟨A,V,l,L,k,c,rfl,rd,hk,q⟩
 obtain⟨ph,gr,ws,Yf,pr,gd,rs,i1,i2,i3,i4,i5,i6,i7,i8⟩:=rd.pl;refine oZ rd.bd.at_ (i' rfl (oZ i1 (i' rfl ?_)));refine oZ rd.bd.at_ (i' rfl (i' rd.bd.on ?_));refine IS (rest:=[some (.ref ws),some (.ref k.p)]) rd.on rd.ok.w16 rd.bd.on (λi w0 ew y kk hkk=>?_) λp hp=>i' pA ⟨M,.new hp,q⟩;obtain⟨r,e1,e2⟩:=Bg i8 ew;exact i' i4 (i' e1 (oZ e2 ⟨by cases w0.2<;>rfl,_,⟨w0.2,rfl,rfl⟩,RO e2 hk hkk⟩))
def Pz(G:Gl K mg a):Fq P w K mg base 10 a.bc (Oy a):=by
 refine fq G.bc.toDG Cb (λr u=>⟨_,(oY (pG 3 Cb (Bp (R:=Li a) (pF (pk (pk v0)) (pF U2 pb)) (Sx G) (r.mono (by first|decide|omega))))
 (oY (pI (pQ v0 G.c.toCls G.k (qM G) r (pY (pJ (pT pf (qY U1 (pF U3 pb) U2))))))
 (oY (pI (pQ v0 G.c.toCls G.k (qM G) r (pY (pJ (rK pf U1)))))
 (oY (pI (pQ v0 G.c.toCls G.k (qM G) r (pY (pJ (pT pf (pT U1 (qY (pF U3 pb) (pF U3 pb) (pF U3 pb))))))))
 (o9 (pI (pD (Jc G) r G.ae (rK v0 U1)))))))),?_⟩)
 rintro ds M Q ⟨M0,b,A,V,l,c,n,i,k,r,rfl,cu,hc,hn,wf,du,q⟩
 obtain⟨ph,gr,ws,Yf,pr,gd,rs,i1,i2,i3,i4,i5,i6,i7,i8⟩:=cu.pl;cases du with
 | on k0 _ _ b0 x y m hk hs hw hl hy=>
  have hi:=(cX.mp hk).1;rw[xU hw]at q;rw[rc]at q;obtain⟨r0,e1,e2⟩:=Bg i8 hw;refine oZ cu.at_ (i' rfl (oZ i1 (i' rfl (i' (yZ _ _) (i' i4 (i' e1 (oZ e2 ⟨rfl,_,⟨⟨.silent x y m,rfl⟩,rfl⟩,r0,.silent x y m,rfl,e2,?_⟩)))))));refine oZ cu.at_ ⟨rfl,_,⟨rfl,rfl⟩,oW rfl,b,A,V,.asks i x (k::r),rfl,cu.b,cu.bd,cu.lim hc (by omega),trivial,λM1 A1 eb1 Xi bd1=>?_⟩;have c1:=cu.after (e:=.asks i x (k::r)) trivial eb1 Xi bd1;refine oZ c1.at_ ⟨rfl,_,⟨rfl,rfl⟩,oW rfl,b,A1,_,.quiet i,rfl,c1.b,c1.bd,c1.lim hc (by omega),hi,λM2 A2 ZW W8 X9=>?_⟩;have c2:=c1.after (e:=.quiet i) hi ZW W8 X9;have XG:i<(pS (pS V (.asks i x (k::r))) (.quiet i)).calls.length:=by show i<(V.calls.modify i pj.nA).length;rw[eX];exact hi
  refine oZ c2.at_ ⟨rfl,_,⟨rfl,rfl⟩,oW rfl,b,A2,_,.leg ⟨i,x,y,x⟩,rfl,c2.b,c2.bd,c2.lim hc (by omega),XG,λM3 A3 eb3 XC bd3=>?_⟩;have c3:=c2.after (e:=.leg ⟨i,x,y,x⟩) XG eb3 XC bd3;exact⟨M0,b,A3,_,l,c,n+3,i,_,rfl,c3,hc,by omega,A0 wf hk hs hy,Bd hk,λM4 A4 c4 st4=>⟨M4,.refl,q M4 A4 (c4.mono (dw _) (by omega)) (Xi.trans (W8.trans (XC.trans st4)))⟩⟩
def Qh(G:Gl K mg a):Fq P w K mg base 11 a.bd (Qb a):=by
 refine fq G.bd.toDG tG (λr u=>⟨_,(oY (pI (pQ v0 G.c.toCls G.k (qM G) r (pY (pJ (pY pf)))))
 (o9 (uI ft rfl (wI rfl G.bV (pY (pP rZ rfl G.q rN (pY (pk v0))))) (vN (n:=2) rfl (qI (sF 1 tG) (qI (sF 2 tG) uB)))
 (o9 (pM (pC u (pk U2) pf)
 (oY (pG 3 tG (pD (On G) r G.bb (rK v0 U2)))
 (o9 (pM (pC u (pN qu rfl G.g qm (pY U3)) pb)
 (o9 (pI (pD (Pz G) r G.bc (qY v0 U1 U3))))
 pE)))
 pE))))),?_⟩)
 rintro ds M Q ⟨M0,b,A,V,l,c,n,rfl,cu,hc,hn,wf,q⟩
 refine oZ cu.at_ ⟨rfl,_,⟨rfl,rfl⟩,oW rfl,b,A,V,.turn,rfl,cu.b,cu.bd,cu.lim (by omega) (by omega),trivial,λM1 A1 eb st bd=>?_⟩;have c1:=cu.after (e:=.turn) trivial eb st bd;have wf1:=A5 wf;have lv:(pS V .turn).calls.length=V.calls.length:=cV ..;have ev:Eh l V=.turn::qP l (List.range V.calls.length) (pS V .turn):=rfl;rw[ev,<-lv]at q;have q:∀M' A',tZ a M0 M' b A' (qk (pS V .turn) (qP l (List.range (pS V .turn).calls.length) (pS V .turn))) l c (n+1+33*c)->qO A M A' M'->Q .mH M':=q;have c1:tZ a M0 M1 b A1 (pS V .turn) l c (n+1):=c1;generalize pS V .turn=V1 at c1 wf1 q bd;refine oZ c1.at_ (i' rfl (i' c1.bd.ca λr hr=>i' pA ?_));have t:=qx.new (c:=.lst (A1.cs.map λk=>D.ref k.p)) hr;have lr:=@pA M1 r (A1.cs.map λk=>D.ref k.p);have nf:=c1.bd.nQ hr;have c2:=c1.sub t;have cl:V1.calls.length<=c:=c1.sz.ca;generalize pz M1 r (.lst (A1.cs.map λk=>D.ref k.p))=M2 at t lr c2 ⊢;refine wq (ul 0 (A1.cs.map λk=>D.ref k.p)) (λpre δ M'=>(∃A',tZ a M0 M' b A' (qk V1 (qP l (List.range pre.length) V1)) l c (n+1+33*pre.length)/\qO A1 M2 A' M')/\∃y1 y2 y3,δ=[some (.ref b),y1,y2,y3]) (λpre δ M' j=>?_) _ [] _ _ rfl ⟨⟨A1,c2,.refl⟩,none,none,none,rfl⟩ ?_ ?_
 .obtain⟨⟨A',c3,XC⟩,_⟩:=j;exact rT (XC.1 r _ nf (pW lr))
 .rintro pre d post e δ M' ⟨⟨A',c3,XC⟩,y1,y2,y3,rfl⟩ nx WZ
  rw[cZ,dP,iS,Dt,rc]at WZ;have wf3:=EM cu.ok (List.range pre.length) wf1;generalize qk V1 (qP l (List.range pre.length) V1)=V3 at c3 wf3 WZ;obtain⟨x,hx,rfl⟩:=IW e;rw[dD]at hx;cases ek:A1.cs[pre.length]? with
  | none=>rw[ek]at hx;cases hx
  | some k=>
   rw[ek]at hx;have hx:D.ref k.p=x:=dn hx;subst hx;have hp:pre.length<c:=by have:=(cX.mp ek).1;rw[c1.bd.len]at this;omega
   have ek3:=XC.2.2.1 _ k ek;have hi:pre.length<V3.calls.length:=by rw[<-c3.bd.len];exact(cX.mp ek3).1
   have ec:V3.calls[pre.length]?=some V3.calls[pre.length]:=cY hi;generalize V3.calls[pre.length]=cv at ec;have ca:=c3.bd.cs _ k cv ek3 ec;obtain⟨ad,md,g1,_⟩:=ca;refine⟨rfl,oZ g1 (i' rfl ?_)⟩;have hdv:x9 l V3 pre.length=if (cv.st=="rings")=true then HE l V3 (GQ cv)else[]:=by unfold x9;rw[ec];rfl
   have mH:x9 l V3 pre.length=[]->∀y1' y2' y3',nx [some (.ref b),y1',y2',y3'] M':=λh0 y1' y2' y3'=>WZ _ _ ⟨⟨A',by rw[h0];exact c3.mono (dw _) (by omega),XC⟩,_,_,_,rfl⟩;have du:=Ez (V:=V3) (i:=pre.length) cu.ok;refine qA (c:=cv.st=="rings") (λg=>?_) (λg=>mH (by rw[hdv,de g]) _ _ _);rw[dg g]at hdv;refine⟨A',V3,l,_,k,cv,by rw[c3.b],c3.rd (by omega) wf3,c3.bd.cs _ k cv ek3 ec,?_⟩;rw[<-hdv];cases hdq:x9 l V3 pre.length with
   | nil=>exact mH hdq _ _ _
   | cons k0 r0=>rw[hdq]at du WZ;refine Ac (dZ (by rw[cV];show(0:Int)<((k0::r0).length:Nat);rw[eB];omega)) ?_;exact⟨M0,b,A',V3,l,c,_,pre.length,k0,r0,rfl,c3,by omega,by omega,wf3,du,λM4 A4 c4 st4=>WZ _ _ ⟨⟨A4,c4.mono (dw _) (by omega),XC.trans st4⟩,_,_,_,rfl⟩⟩
 .rintro δ M' ⟨⟨A',c3,XC⟩,y1,y2,y3,rfl⟩
  have hl:(ul 0 (A1.cs.map λk=>D.ref k.p)).length=V1.calls.length:=by rw[vg,cV,c1.bd.len]
  rw[hl]at c3;exact⟨M',.refl,q M' A' (c3.mono (dw _) (by omega)) (st.trans ((qO.sub t).trans XC))⟩
inductive QI(l:pB)(V:qd):tR->Ev->Prop
 | sw (b:Bool) (i:Nat):i<V.on.length->QI l V (.sw b (i:Nat)) (.sw b i)
 | answer (x:Str) (i:Nat) (c:pj):V.calls[i]?=some c->QI l V (.num "answer" x [(i:Nat)]) (.talks i [c.cr,x])
 | hold (x:Str) (i:Nat) (c:pj):V.calls[i]?=some c->QI l V (.num "hold" x [(i:Nat)]) (.held i x)
 | back (x:Str) (i:Nat) (c:pj):V.calls[i]?=some c->QI l V (.num "back" x [(i:Nat)]) (.talks i c.ms)
 | two (w x:Str) (i j:Nat) (c d:pj):i≠j->w="hand"\/w="join"->V.calls[i]?=some c->V.calls[j]?=some d->rC c.ms x≠[]->rC d.ms x≠[]->QI l V (.num w x [(i:Nat),(j:Nat)]) (.merge i j (if (w=="hand")=true then[qv c x,qv d x]else[x,qv c x,qv d x]))
def G6(a:Ad):qX:=λds M Q=>FJ λA V l e ev=>ds=[.ref A.b,tR.d e]/\Rd a M A V l/\QI l V e ev/\Q ev.d M
def SW(a:Ad):qX:=λds M Q=>S7 λM0 b A V l c n e=>ds=[.ref b,tR.d e]/\tZ a M0 M b A V l c n/\c<10000/\n<=5000000/\WF l V/\e.ng/\w9 l V e=none/\∀M' A',tZ a M0 M' b A' (qk V (rO l V e)) l (c+1) (n+40+33*c)->qO A M A' M'->Q .mH M'
def Wm(a:Ad)(M0 M:Mp)(b:Addr)(A:tW)(V:qd)(l:pB)(c n:Nat)(e:tR)(Q:DK):Prop:=w9 l V e=none->∀M' A' r,tZ a M0 M' b A' (qk V (rO l V e)) l (c+1) (n+40+33*c)->qO A M A' M'->M' r=none->Q (.ref r) (pz M' r (.lst ((rO l V e).map Ev.d)))
def Tx(a:Ad):D5:=λds M Q R=>S7 λM0 b A V l c n e=>ds=[.ref b,tR.d e]/\tZ a M0 M b A V l c n/\c<10000/\n<=5000000/\WF l V/\e.ng/\Wm a M0 M b A V l c n e Q/\(w9 l V e≠none->R a.J M)
def Rd.call{a:Ad}{M:Mp}{A:tW}{V:qd}{l:pB}(rd:Rd a M A V l){i:Nat}{c:pj}(e:V.calls[i]?=some c):∃k,A.cs[i]?=some k/\rF a M (A.lists++V.fo) k c:=by
 have hi:i<A.cs.length:=by rw[rd.bd.len];exact(cX.mp e).1
 exact⟨A.cs[i],cY hi,rd.bd.cs i _ c (cY hi) e⟩
def yB{i:Int}(h:0<=i):∃m:Nat,i=(m:Int):=eC h
def Jp{c:pj}{x:Str}(nd:c.ms.Nodup)(h2:c.ms.length=2)(hx:x∈c.ms):rC c.ms x≠[]:=λz=>by have:=xG nd hx;rw[z]at this;simp only[dN]at this;omega
def Lv(G:Gl K mg a):Fq P w K mg base 2 a.be (G6 a):=by
 refine fq G.be.toDG tz (λr u=>⟨_,(oY (pG 2 tz (pF U1 pb))
 (oY (pM (pC u U2 (pJ (rK pf pf)))
 (o9 (pq (pJ (rK U2 (pF U1 pb)))))
 pE)
 (oY (pG 3 tz (pF U1 pb))
 (oY (pG 4 tz (pF U1 pb))
 (oY (pG 5 tz (pF (pk v0) v4))
 (oY (pM (pC u U2 pf)
 (o9 (pq (pJ (qY pf v4 (pJ (rK (pk v5) U3))))))
 pE)
 (oY (pM (pC u U2 pf)
 (o9 (pq (pJ (qY pf v4 U3))))
 pE)
 (oY (pM (pC u U2 pf)
 (o9 (pq (pJ (qY pf v4 (pP sf rfl G.A sj (pY (pk v5)))))))
 pE)
 (oY (pG 6 tz (pF U1 pb))
 (oY (pG 7 tz (pJ (rK (pQ v5 G.e.toCls G.ax (FT G) r (pY U3)) (pQ (pF (pk v0) v6) G.e.toCls G.ax (FT G) r (pY U3)))))
 (oY (pM (pC u U2 pf)
 (o9 (pq (pJ (pT pf (qY v4 v6 v7)))))
 pE)
 (o9 (pq (pJ (pT pf (qY v4 v6 (pR (pJ (pY U3)) v7))))))))))))))))),?_⟩)
 rintro ds M Q ⟨A,V,l,e,ev,rfl,rd,sg,q⟩
 cases sg with
 | sw b i hi=>
  cases b with
  | true=>exact⟨oW rfl,rfl,rfl,oW rfl,M,.refl,q⟩
  | false=>exact⟨oW rfl,rfl,rfl,oW rfl,M,.refl,q⟩
 | answer x i c hc=>obtain⟨k,ek,ca⟩:=rd.call hc;obtain⟨ad,md,h1,h2,h3,h4,n1,n2⟩:=ca;refine⟨oW rfl,rfl,rfl,?_⟩;refine oZ rd.bd.at_ (i' rfl (i' rfl (i' rd.bd.ca (i' (ra ek) ?_))));exact oZ h1 (i' rfl ⟨oW rfl,oW rfl,M,.refl,q⟩)
 | hold x i c hc=>obtain⟨k,ek,ca⟩:=rd.call hc;refine⟨oW rfl,rfl,rfl,?_⟩;refine oZ rd.bd.at_ (i' rfl (i' rfl (i' rd.bd.ca (i' (ra ek) ?_))));exact⟨oW rfl,M,.refl,q⟩
 | back x i c hc=>obtain⟨k,ek,ca⟩:=rd.call hc;obtain⟨ad,md,h1,h2,h3,h4,n1,n2⟩:=ca;refine⟨oW rfl,rfl,rfl,?_⟩;refine oZ rd.bd.at_ (i' rfl (i' rfl (i' rd.bd.ca (i' (ra ek) ?_))));exact oZ h1 (i' rfl (i' h4 ⟨oW rfl,M,.refl,q⟩))
 | two wd x i j c d XM hw hc hd nc nd=>
  obtain⟨k,ek,ca⟩:=rd.call hc;obtain⟨k',ek',ca'⟩:=rd.call hd;have ca0:=ca;have ca1:=ca';obtain⟨ad,md,h1,h2,h3,h4,n1,n2⟩:=ca0;obtain⟨ad',md',f1,_⟩:=ca1;obtain⟨y1,r1,e1⟩:=gf nc;obtain⟨y2,r2,e2⟩:=gf nd;have o1:qv c x=y1:=by unfold qv;rw[e1];rfl
  have o2:qv d x=y2:=by unfold qv;rw[e2];rfl
  rw[o1,o2]at q;rcases hw with rfl|rfl
  .refine⟨oW rfl,rfl,rfl,?_⟩;refine oZ rd.bd.at_ (i' rfl (i' rfl (i' rd.bd.ca (i' (ra ek) ?_))));refine oZ h1 ⟨rfl,_,⟨rfl,rfl⟩,_,k,c,x,y1,r1,rfl,ca,(rd.ms c (qN hc)).2,e1,?_⟩;refine oZ rd.bd.at_ (i' rfl (i' rfl (i' rd.bd.ca (i' (ra ek') ?_))));refine oZ f1 ⟨rfl,_,⟨rfl,rfl⟩,_,k',d,x,y2,r2,rfl,ca',(rd.ms d (qN hd)).2,e2,?_⟩;exact⟨oW rfl,oW rfl,M,.refl,q⟩
  .refine⟨oW rfl,rfl,rfl,?_⟩;refine oZ rd.bd.at_ (i' rfl (i' rfl (i' rd.bd.ca (i' (ra ek) ?_))));refine oZ h1 ⟨rfl,_,⟨rfl,rfl⟩,_,k,c,x,y1,r1,rfl,ca,(rd.ms c (qN hc)).2,e1,?_⟩;refine oZ rd.bd.at_ (i' rfl (i' rfl (i' rd.bd.ca (i' (ra ek') ?_))));refine oZ f1 ⟨rfl,_,⟨rfl,rfl⟩,_,k',d,x,y2,r2,rfl,ca',(rd.ms d (qN hd)).2,e2,?_⟩;exact⟨oW rfl,oW rfl,fA _ _,by show 1+2<=sizeLine;have hz:=dM;omega,oW rfl,M,.refl,q⟩
def SJ(G:Gl K mg a):Fq P w K mg base 12 a.bf (SW a):=by
 refine fq G.bf.toDG Np (λr u=>⟨_,(oY (pG 2 Np (pF U1 pb))
 (o9 (pM (pC u U2 pf)
 (o9 (pI (pD (Lf G) r G.a9 (qY v0 (pF U1 pb) (pF U1 pb)))))
 (o9 (pM (pC u U2 pf)
 (o9 (pI (pD (Qf G) r G.ba (qY v0 (pF U1 pb) (pF U1 pb)))))
 (o9 (pM (pC u U2 pf)
 (o9 (pI (pD (Qh G) r G.bd (pY v0))))
 (o9 (pI (pQ v0 G.c.toCls G.k (qM G) r (pY (pD (Lv G) r G.be (rK v0 U1))))))))))))),?_⟩)
 rintro ds M Q ⟨M0,b,A,V,l,c,n,e,rfl,cu,hc,hn,wf,hf,hr,q⟩
 have rd:=cu.rd (by omega) wf;have one:∀(ev:Ev),QI l V e ev->rO l V e=[ev]->ev.ok V->ev.nw=0->zU (M b) λC fs'=>fs'.lookup ("apply":Str)=none/\∃sp,(C=a.c/\sp=vI a)/\G6 a [.ref b,e.d] M λd M1=>sp [.ref b,d] M1 λ_ M'=>∃WS,qx WS M'/\Q .mH WS:=λev sg he ok h0=>by refine oZ cu.at_ ⟨rfl,_,⟨rfl,rfl⟩,A,V,l,e,ev,by rw[cu.b],rd,sg,b,A,V,ev,rfl,cu.b,cu.bd,cu.lim (by omega) (by omega),ok,λM1 A1 eb st bd=>?_⟩;rw[he]at q;have c1:=cu.after ok eb st bd;rw[h0]at c1;exact⟨M1,.refl,q M1 A1 (c1.mono (by omega) (by omega)) st⟩
 cases e with
 | call y z=>obtain⟨h1,h2,h3,h4⟩:=Bj hr;exact⟨M0,b,A,V,l,c,n,y,z,rfl,cu,by omega,by omega,Em wf h1 h2 h3 h4,λM' A' c1 st=>⟨M',.refl,q M' A' (c1.mono (by omega) (by omega)) st⟩⟩
 | turn=>exact⟨M0,b,A,V,l,c,n,rfl,cu,by omega,by omega,wf,λM' A' c1 st=>⟨M',.refl,q M' A' (c1.mono (by omega) (by omega)) st⟩⟩
 | sw b0 i=>
  obtain⟨h1,h2⟩:=Qw hr;obtain⟨i,rfl⟩:=yB h1;cases b0 with
  | true=>exact one (.sw true i) (.sw true i h2) rfl h2 rfl
  | false=>exact one (.sw false i) (.sw false i h2) rfl h2 rfl
 | num wd x ns=>
  obtain⟨hx,no⟩:=Fp hf hr;cases no with
  | answer i c0 hi hc0 h1 h2 h3=>obtain⟨i,rfl⟩:=yB hi;have lt:=(cX.mp hc0).1;exact one (.talks i [c0.cr,x]) (.answer x i c0 hc0) (eY (λev=>[ev]) (wV hc0)) ⟨lt,by show 2<=100;decide⟩ rfl
  | hang i c0 hi hc0 h1=>obtain⟨i,rfl⟩:=yB hi;exact⟨M0,b,A,V,l,c,n,x,i,c0,rfl,cu,by omega,by omega,hc0,λM' A' c1 st=>⟨M',.refl,q M' A' (c1.mono (by omega) (by omega)) st⟩⟩
  | hold i c0 hi hc0 h1=>obtain⟨i,rfl⟩:=yB hi;have lt:=(cX.mp hc0).1;exact one (.held i x) (.hold x i c0 hc0) (eY (λev=>[ev]) (wV hc0)) lt rfl
  | back i c0 hi hc0 h1 h2=>obtain⟨i,rfl⟩:=yB hi;have lt:=(cX.mp hc0).1;exact one (.talks i c0.ms) (.back x i c0 hc0) (eY (λev=>[ev]) (wV hc0)) ⟨lt,(cu.sz.cs c0 (qN hc0)).2.2⟩ rfl
  | two _ i j c0 d0 hi hj hw hc0 hd0 h1 h2=>
   obtain⟨i,rfl⟩:=yB hi;obtain⟨j,rfl⟩:=yB hj;have lt:=(cX.mp hc0).1;have lt':=(cX.mp hd0).1;have XM:=(EW (w:=wd) wf hc0 hd0 h1 h2).1;have k0:=wf.ok _ c0 hc0;have k1:=wf.ok _ d0 hd0;obtain⟨_,u2,u3,_⟩:=Fd k0 h1;obtain⟨_,v2,v3⟩:=zY.mp h2;have sg:=QI.two (l:=l) wd x i j c0 d0 XM hw hc0 hd0 (Jp k0.mn u2 u3) (Jp k1.mn v3 v2);have ok:(Ev.merge i j (if (wd=="hand")=true then[qv c0 x,qv d0 x]else[x,qv c0 x,qv d0 x])).ok V:=⟨lt,lt',XM,by split;exact(by decide:2<=100);exact(by decide:3<=100)⟩;have he:rO l V (.num wd x [(i:Int),(j:Int)])=[.merge i j (if (wd=="hand")=true then[qv c0 x,qv d0 x]else[x,qv c0 x,qv d0 x])]:=eY (λev=>[ev]) (EF hc0 hd0);rcases hw with rfl|rfl
   .exact one _ sg he ok rfl
   .exact one _ sg he ok rfl
def JR(G:Gl K mg a):xb P w K mg base (Az P w) 1 a.I.f a.I.d a.I.p (vW K "word"):=
 LJ G.I.toDG Cp λWW A outer s H E=>IU (Os (pv 0) (pv 1))
def Js(G:Gl K mg a):VT P w K mg base 13 a.t (Tx a):=by
 refine UL G.t.toDG Hk (by walk_at "m") (λ_ _ _ _ _ _ R hr hR=>⟨_,(oY (pG 2 Hk (pD (Hc G) hr G.a4 (rK v0 U1)))
 (oY (pM (pC (We hr) U2 rL)
 (o9 (JZ G.b6 (JR G) (hr.mono (by first|decide|omega)) G.I.b G.b7 G.I.at_ rfl G.bW hR (pY U2)))
 pE)
 (oY (pG 3 Hk (pN qu rfl G.g qm (pY (pk v0))))
 (oY (pI (pD (SJ G) hr G.bf (rK v0 U1)))
 (o9 (pq (r6 (pk v0) (sU U3) sT))))))),?_⟩)
 .rintro ds M Q ⟨M0,b,A,V,l,c,n,e,rfl,cu,hc,hn,wf,hf,q,rr⟩
  refine⟨A,V,l,e,by rw[cu.b],cu.rd (by omega) wf,hf,?_⟩;cases er:w9 l V e with
  | some w0=>exact⟨rfl,rr (by rw[er];exact λh=>by cases h)⟩
  | none=>
   refine oZ cu.at_ (i' rfl (i' cu.bd.lo ?_));refine⟨M0,b,A,V,l,c,n,e,rfl,cu,hc,hn,wf,hf,er,λM' A' c1 st=>?_⟩;refine oZ c1.at_ (i' rfl (i' c1.bd.lo λp hp=>?_));have ZX:L3.uD ((qk V (rO l V e)).log.map Ev.d) (some (((V.log.map Ev.d).length:Nat):Int)) none=(rO l V e).map Ev.d:=by rw[yV,dQ,Io _ _ (by rw[cZ];omega),List.drop_left]
   rw[ZX];exact⟨_,.refl,q er M' A' p c1 st hp⟩
def Px(a:Ad):qX:=λds M Q=>S7 λM0 b A V l c n e=>ds=[.ref b,tR.d e]/\tZ a M0 M b A V l c n/\c<10000/\n<=5000000/\WF l V/\e.ng/\Wm a M0 M b A V l c n e Q/\(w9 l V e≠none->Q .mH M)
def P3(G:Gl K mg a):Fq P w K mg base 14 a.bw (Px a):=by
 refine fq G.bw.toDG vt (λr u=>⟨_,(oY (pG 2 vt rL)
 (oY (O4 (ix:=2) (K1 (Js G) (r.mono (by first|decide|omega)) rfl G.t.mg G.t.toDG.kp G.t.b (rK v0 U1)) rfl rfl rfl G.bW vt.nd rfl rfl (λev E'=>
 (o9 (pG 2 vt rL))))
 (o9 (pq U2)))),?_⟩)
 rintro ds M Q ⟨M0,b,A,V,l,c,n,e,rfl,cu,hc,hn,wf,hf,q,qf⟩
 refine⟨λC M'=>(C=a.J/\w9 l V e≠none)/\M=M',?_,?_⟩
 .exact⟨M0,b,A,V,l,c,n,e,rfl,cu,hc,hn,wf,hf,λh M' A' r c1 st hm=>⟨_,.refl,q h M' A' r c1 st hm⟩,λh=>⟨⟨rfl,h⟩,rfl⟩⟩
 .rintro C M' ⟨⟨rfl,h⟩,rfl⟩
  exact⟨G.b8,M,.refl,qf h⟩
noncomputable def vA(g:ui):Bool:=g.2.1==("turns":Str)
noncomputable def uU(l:pB):List (Str×Int):=(l.groups.filter vA).map λg=>(g.1,0)
noncomputable def V0(p:Addr)(h:Int)(l:pB)(F:List Addr):qd:=⟨p,h,0,[],[],uU l,l.mE.map (·.1),[],F⟩
def Ec(a:Ad):qX:=λds M Q=>FJ λb p h F (l:pB)=>ds=[.ref b,.ref p,.int h]/\M b=some (.ins a.c [])/\sP a M p l/\qW l/\p≠b/\(∀x∈F,∃c,M x=some c)/\∀M' A,A.b=b->sr b M M'->(∀x∈A.foot,x=b\/M x=none)->pH a M' A (V0 p h l F)->Q .mH M'
noncomputable def Ln(g:D):Bool:=match g with
 | .tup (_::.str m::_)=>m=="turns"
 | _=>false
noncomputable def QJ(d:D):D:=.tup [CJ d,.int 0]
def Ha(gs:List ui):((gs.map qD).filter Ln).map QJ=(gs.filter vA).map λg=>D.tup [.str g.1,.int 0]:=by rw[gR,d6];rfl
def J7(l:pB):((l.groups.filter vA).map λg=>((Sum.inr g.1:qS),D.int 0))=sZ (uU l):=by unfold sZ uU;rw[d6];rfl
def FU(G:Gl K mg a):Fq P w K mg base 1 a.S (Ec a):=by
 refine fq G.S.toDG CV (λr u=>⟨_,(oY (pV v0 U1)
 (oY (pV v0 U2)
 (oY (pV v0 pb)
 (oY (pV v0 (qV sR))
 (oY (pV v0 (qV sR))
 (oY (pV v0 (pP (EU rfl) rfl G.bU Fz (pY (qC rfl (yb (ix:=[none]) (N':=["group"])) (qG (pk U1)) (qz 0) (vJ (pC u (pF v0 pb) pf)) (pJ (rK (pF v0 pb) pb))))))
 (oY (pV v0 (pP rZ rfl G.q rN (pY (pk U1))))
 (o9 (pV v0 (qV sR)))))))))),?_⟩)
 rintro ds M Q ⟨b,p,h,F,l,rfl,hb,⟨ph,gr,ws,on,pr,gd,rs,i1,i2,i3,i4,i5,i6,i7,i8⟩,ok,nbp,hF,q⟩
 have hz:=dM;have l2:=ok.g3;refine oZ hb ⟨(G.F "plan" rfl),by show 0<1000;decide,?_⟩;have k1:sr b M (pz M b (.ins a.c [("plan",.ref p)])):=.put;have b1:pz M b (.ins a.c [("plan",.ref p)]) b=some (.ins a.c [("plan",.ref p)]):=pL;show tQ _ _ _ _ (pz M b (.ins a.c [("plan",.ref p)]));generalize pz M b (.ins a.c [("plan",.ref p)])=N1 at k1 b1 ⊢;refine oZ b1 ⟨(G.F "hour" rfl),by show 1<1000;decide,?_⟩;have k2:=k1.trans (sr.put (p:=b) (c:=.ins a.c [("plan",.ref p),("hour",.int h)]));have b2:pz N1 b (.ins a.c [("plan",.ref p),("hour",.int h)]) b=some (.ins a.c [("plan",.ref p),("hour",.int h)]):=pL;show tQ _ _ _ _ (pz N1 b (.ins a.c [("plan",.ref p),("hour",.int h)]));generalize pz N1 b (.ins a.c [("plan",.ref p),("hour",.int h)])=N2 at k2 b2 ⊢;refine oZ b2 ⟨(G.F "turn" rfl),by show 2<1000;decide,?_⟩;have k3:=k2.trans (sr.put (p:=b) (c:=.ins a.c [("plan",.ref p),("hour",.int h),("turn",.int 0)]));have b3:pz N2 b (.ins a.c [("plan",.ref p),("hour",.int h),("turn",.int 0)]) b=some (.ins a.c [("plan",.ref p),("hour",.int h),("turn",.int 0)]):=pL;show tQ _ _ _ _ (pz N2 b (.ins a.c [("plan",.ref p),("hour",.int h),("turn",.int 0)]));generalize pz N2 b (.ins a.c [("plan",.ref p),("hour",.int h),("turn",.int 0)])=N3 at k3 b3 ⊢;clear k1 k2 b1 b2;refine⟨oW rfl,λca hca=>?_⟩;obtain⟨n4,e4,k4,c4,b4⟩:=sX (fs':=[("plan",.ref p),("hour",.int h),("turn",.int 0),("calls",.ref ca)]) (c:=.lst []) b3 hca;refine oZ e4 ⟨(G.F "calls" rfl),by show 3<1000;decide,?_⟩;show tQ _ _ _ _ (pz (pz N3 ca (.lst [])) b (.ins a.c [("plan",.ref p),("hour",.int h),("turn",.int 0),("calls",.ref ca)]));generalize pz (pz N3 ca (.lst [])) b (.ins a.c [("plan",.ref p),("hour",.int h),("turn",.int 0),("calls",.ref ca)])=N4 at k4 c4 b4 ⊢;have YM:=k3.trans k4;have z1:M ca=none:=rB k3 b3 hca;have lc4:oJ N4 ca=some []:=rT c4;refine⟨oW rfl,λle hle=>?_⟩;obtain⟨n5,e5,k5,c5,b5⟩:=sX (fs':=[("plan",.ref p),("hour",.int h),("turn",.int 0),("calls",.ref ca),("legs",.ref le)]) (c:=.lst []) b4 hle;refine oZ e5 ⟨(G.F "legs" rfl),by show 4<1000;decide,?_⟩;show tQ _ _ _ _ (pz (pz N4 le (.lst [])) b (.ins a.c [("plan",.ref p),("hour",.int h),("turn",.int 0),("calls",.ref ca),("legs",.ref le)]));generalize pz (pz N4 le (.lst [])) b (.ins a.c [("plan",.ref p),("hour",.int h),("turn",.int 0),("calls",.ref ca),("legs",.ref le)])=N5 at k5 c5 b5 ⊢;have YN:=YM.trans k5;have z2:M le=none:=rB YM b4 hle;have le5:oJ N5 le=some []:=rT c5;have mcl:le≠ca:=λz=>by rw[z,pW lc4]at hle;cases hle
 have lc5:=k5.lst (pO lc4 b4) lc4;have p5:=YN _ _ nbp i1;have g5:=YN.lst (pO i3 hb) i3;clear k3 k4 k5 YM lc4 c4 c5 e4 e5 b3 b4;refine oZ p5 (i' rfl (i' g5 ?_));refine tH (f:=QJ) (t:=Ln) g5 _ [] _ (by rw[cV];simp only[dN];omega) (λd hd k hk=>?_) (λd hd _ k hk=>?_) λq1 XH=>?_
 .obtain⟨v,_,rfl⟩:=dF.mp hd;exact hk
 .obtain⟨v,_,rfl⟩:=dF.mp hd;exact⟨oW rfl,hk⟩
 rw[d9,Ha];have Zn:=qx.new (c:=.lst ((l.groups.filter vA).map λg=>D.tup [.str g.1,.int 0])) XH;refine i' pA (i' (wQ (λg:ui=>g.1) (λ_=>D.int 0) _) ⟨yq (iy (List.Sublist.map _ fY) (iy (js _ _) ok.nd)),λnx WZ=>?_⟩);have z3:M nx=none:=rB YN b5 (Zn.none WZ);obtain⟨n6,e6,k6,c6,b6⟩:=sX (fs':=[("plan",.ref p),("hour",.int h),("turn",.int 0),("calls",.ref ca),("legs",.ref le),("nexts",.ref nx)]) (c:=.dk ((l.groups.filter vA).map λg=>((Sum.inr g.1:qS),D.int 0))) (Zn _ _ b5) WZ;refine oZ e6 ⟨(G.F "nexts" rfl),by show 5<1000;decide,?_⟩;have k6:=Zn.keep.trans k6;have YA:vQ "nexts" (.ref nx) [("plan",.ref p),("hour",.int h),("turn",.int 0),("calls",.ref ca),("legs",.ref le)]=([("plan",.ref p),("hour",.int h),("turn",.int 0),("calls",.ref ca),("legs",.ref le),("nexts",.ref nx)]:List (Str×D)):=rfl;rw[YA];generalize pz (pz (pz N5 q1 (.lst ((l.groups.filter vA).map λg=>D.tup [.str g.1,.int 0]))) nx (.dk ((l.groups.filter vA).map λg=>((Sum.inr g.1:qS),D.int 0)))) b (.ins a.c [("plan",.ref p),("hour",.int h),("turn",.int 0),("calls",.ref ca),("legs",.ref le),("nexts",.ref nx)])=N6 at k6 b6 c6 ⊢;have x6:zt N6 nx=some ((l.groups.filter vA).map λg=>((Sum.inr g.1:qS),D.int 0)):=Cf c6;have kk6:=YN.trans k6;have lc6:=k6.lst (pO lc5 b5) lc5;have le6:=k6.lst (pO le5 b5) le5;have p6:=kk6 _ _ nbp i1;have o6:=kk6.lst (pO i5 hb) i5;clear YN k6 lc5 p5 g5 e6 c6;refine oZ p6 (i' rfl (i' o6 λYE ZS=>?_));have z4:M YE=none:=rB kk6 b6 ZS;obtain⟨n7,e7,k7,c7,b7⟩:=sX (fs':=[("plan",.ref p),("hour",.int h),("turn",.int 0),("calls",.ref ca),("legs",.ref le),("nexts",.ref nx),("on",.ref YE)]) (c:=.lst (l.mE.map λw=>D.bl w.1)) b6 ZS;refine oZ e7 ⟨(G.F "on" rfl),by show 6<1000;decide,?_⟩;have YA:vQ "on" (.ref YE) [("plan",.ref p),("hour",.int h),("turn",.int 0),("calls",.ref ca),("legs",.ref le),("nexts",.ref nx)]=([("plan",.ref p),("hour",.int h),("turn",.int 0),("calls",.ref ca),("legs",.ref le),("nexts",.ref nx),("on",.ref YE)]:List (Str×D)):=rfl;rw[YA];generalize pz (pz N6 YE (.lst (l.mE.map λw=>D.bl w.1))) b (.ins a.c [("plan",.ref p),("hour",.int h),("turn",.int 0),("calls",.ref ca),("legs",.ref le),("nexts",.ref nx),("on",.ref YE)])=N7 at k7 b7 c7 ⊢;have kk7:=kk6.trans k7;have lc7:=k7.lst (pO lc6 b6) lc6;have le7:=k7.lst (pO le6 b6) le6;have x7:=k7.dk (BA x6 b6) x6;have lo7:oJ N7 YE=some ((l.mE.map (·.1)).map D.bl):=by rw[d6];exact rT c7
 refine⟨oW rfl,λlg hlg=>?_⟩;obtain⟨n8,e8,k8,c8,b8⟩:=sX (fs':=tL (.ref p) h 0 ca le nx YE lg) (c:=.lst []) b7 hlg;refine oZ e8 ⟨(G.F "log" rfl),by show 7<1000;decide,_,.refl,?_⟩;have apart:∀{N:Mp} {x y:Addr} {ds:List D},N x=none->oJ N y=some ds->x≠y:=λ{N x y ds} h1 h2 z=>by have:=pW h2;rw[<-z,h1]at this;cases this
 have y5:=rB kk7 b7 hlg;refine q _ ⟨b,ca,le,nx,YE,lg,[]⟩ rfl (kk7.trans k8) (λx hx=>?_) ⟨b8,k8.lst (pO lc7 b7) lc7,k8.lst (pO le7 b7) le7,?_,k8.lst (pO lo7 b7) lo7,rT c8,rfl,λi k c e=>by simp at e,?_,dS.mpr ⟨dE,eK⟩,λx hx=>?_⟩
 rotate_right
 .by_cases z:x=b
  .exact⟨_,by rw[z];exact b8⟩
  .obtain⟨c,e⟩:=hF x hx;exact⟨c,(kk7.trans k8) x c z e⟩
 .have hx:x∈[b,nx,ca,le,YE,lg]:=by
   unfold tW.foot tW.lists at hx
   simpa using hx
  simp only[dh,dE,eP]at hx;rcases hx with rfl|rfl|rfl|rfl|rfl|rfl
  .exact .inl rfl
  .exact .inr z3
  .exact .inr z1
  .exact .inr z2
  .exact .inr z4
  .exact .inr y5
 .show zt _ nx=some (sZ (uU l));rw[<-J7];exact k8.dk (BA x7 b7) x7
 .have m1:=apart hlg lc7;have m2:=apart hlg le7;have m3:=apart hlg lo7;have m4:=apart ZS lc6;have m5:=apart ZS le6;show[ca,le,YE,lg].Nodup;simp only[dS,dh,dE,eP,fM,not_false_eq_true,eK,and_true];exact⟨⟨dO mcl,dO m4,dO m1⟩,⟨dO m5,dO m2⟩,dO m3⟩
def VS{p:Addr}{h:Int}{l:pB}{F:List Addr}(ok:qW l):WF l (V0 p h l F):=by
 refine⟨λi c e=>by simp[V0]at e,λi j ci cj x e=>by simp[V0]at e,λx hx=>?_,λi j ci cj x e=>by simp[V0]at e,λz hz ht=>?_⟩
 .show((0:Nat):Int)<=wH l x;unfold wH;cases e:l.mX x with
  | none=>exact Int.le_refl _
  | some v=>have:=(ok.po v (gh e)).l1;show(0:Int)<=v.2.1;omega
 .show ∃v,(uU l).find? (λp=>decide (p.1=z))=some v/\_;unfold pB.mL at ht;cases e:l.group z with
  | none=>rw[e]at ht;exact absurd ht (by decide)
  | some g=>
   rw[e]at ht;have hg:=gh e;have hn:g.1=z:=by simpa using l0 e
   have hm:((g.1,0):Str×Int)∈uU l:=dF.mpr ⟨g,fJ.mpr ⟨hg,ht⟩,rfl⟩;cases q:(uU l).find? (λp=>decide (p.1=z))with
   | none=>exact absurd (gS.mp q _ hm) (by simp[hn])
   | some v=>refine⟨v,rfl,?_⟩;obtain⟨g',_,rfl⟩:=dF.mp (gh q);exact⟨Int.le_refl _,Int.natCast_nonneg _⟩
def Ev.old:Ev->Prop
 | .new _ _=>False
 | _=>True
def NE{V:qd}{e:Ev}(h:e.old):(pS V e).calls.length=V.calls.length:=by
 cases e with
 | new _ _=>cases h
 | merge i j ms=>exact(eX ..).trans (eX ..)
 | turn=>exact cV ..
 | asks _ _ _=>rfl
 | next _ _=>rfl
 | sw _ _=>rfl
 | _=>exact eX ..
theorem I9:∀{es:List Ev} {V:qd},(∀e∈es,e.old)->(qk V es).calls.length=V.calls.length
 | [],_,_=>rfl
 | e::r,V,h=>(I9 (es:=r) (V:=pS V e) λx hx=>h x (dC _ hx)).trans (NE (h e dJ))
theorem zR(i:Nat):∀(st:sQ) (q:Option Str) {V:qd},i<V.calls.length->C7 V (rg i q st)
 | [],_,V,_=>by unfold rg;trivial
 | (y,gs)::r,none,V,h=>⟨trivial,zR i r (some y) h⟩
 | (y,gs)::r,some u,V,h=>⟨h,trivial,zR i r (some y) (by
  show i<(V.calls.modify i _).length;rw[eX];exact h)⟩
def Oa{l:pB}{V V1:qd}{i:Nat}{e:vi}(h:DW l V i e)(hi:i<V.calls.length)(hl:V1.calls.length=V.calls.length):C7 V1 (rR l V i e):=by
 have Xz:i<V1.calls.length:=by rw[hl];exact hi
 cases e with
 | rings z ps=>
  have h4:ps.length<=100:=h.2.2.2;show C7 V1 ((if (l.mL z=="turns")=true then _ else _)++[.rings i ps]);split
  .exact⟨trivial,⟨Xz,h4⟩,trivial⟩
  .exact⟨⟨Xz,h4⟩,trivial⟩
 | waits z=>exact⟨Xz,trivial⟩
 | breaks z=>
  obtain⟨j,k,t1,t2,t3,t4⟩:=h;have e1:V.calls[i]?=some V.calls[i]:=cY hi;have ZV:rR l V i (.breaks z)=[.merge i j (k.ms++[V.calls[i].cr])]:=by unfold rR;dsimp only;rw[t1,e1];dsimp only;rw[t2];rfl
  rw[ZV];exact⟨⟨Xz,by rw[hl];exact(cX.mp t2).1,t3,by rw[cZ,t4];exact(by decide:3<=100)⟩,trivial⟩
 | engaged z=>exact⟨Xz,trivial⟩
 | barred=>exact⟨Xz,trivial⟩
 | ring ns=>exact⟨Xz,trivial⟩
def L6{l:pB}{V:qd}{i:Nat}{k:pj}(ok:qW l)(wf:zo l V (some i))(hk:V.calls[i]?=some k):C7 V (uK l V i):=by
 have Xv:=wf.ok i k hk;have hi:=(cX.mp hk).1;unfold uK;rw[hk];dsimp only[Option.elim];obtain⟨z,hz⟩:∃z,k.way.getLast?=some z:=by
  cases e:k.way.getLast? with
  | none=>exact absurd (gi.mp e) Xv.wy.1
  | some z=>exact⟨z,rfl⟩
 rw[show k.way.getLastD Str.empty=z by rw[gI,hz];rfl];have ro:wk l V k.cr (l.nm.length+1) [] (uo l V k.cr z k.way.dropLast):=xl ok _ _ _ _ (Xv.wy.2 z (ib hz)) λx hx=>Xv.wy.2 x (ic _ hx);have eo:=Ic ok wf hk ro.e;generalize uo l V k.cr z k.way.dropLast=R at ro eo;obtain⟨e,st⟩:=R;have s1:=(ur i st none V).len;refine wn (zR i st none hi) (wn ?_ (Oa eo hi ?_))
 .unfold sV;cases e with
  | ring ns=>
   dsimp only;cases st.getLast? with
   | none=>trivial
   | some s0=>exact⟨by show i<_;rw[s1];exact hi,trivial⟩
  | _=>trivial
 .refine(I9 λx hx=>?_).trans s1;unfold sV at hx;cases e with
  | ring ns=>
   dsimp only at hx;cases q:st.getLast? with
   | none=>rw[q]at hx;cases hx
   | some s0=>rw[q]at hx;rw[dv.mp hx];trivial
  | _=>cases hx
def ME{l:pB}{V:qd}{i:Nat}(ok:qW l)(wf:WF l V):C7 V (sJ l V i (x9 l V i)):=by
 have d:=Ez (V:=V) (i:=i) ok;generalize x9 l V i=fs at d;cases d with
 | no=>trivial
 | on c k r b x y n hc hs hk hw hy=>rw[xU hk];have hi:=(cX.mp hc).1;exact wn ⟨trivial,hi,(by show i<(V.calls.modify i pj.nA).length;rw[eX];exact hi),trivial⟩ (L6 ok (A0 wf hc hs hy) (Bd hc))
theorem Ga{l:pB}(ok:qW l):∀(is:List Nat) {V:qd},WF l V->C7 V (qP l is V)
 | [],V,_=>by unfold qP;trivial
 | i::r,V,wf=>by unfold qP;exact wn (ME ok wf) (Ga ok r (FI ok wf))
def SV{l:pB}{V:qd}{e:tR}(ok:qW l)(wf:WF l V)(hm:∀c∈V.calls,c.ms.length<=100)(f:e.ng)(h:w9 l V e=none):C7 V (rO l V e):=by
 cases e with
 | call y z=>obtain⟨h1,h2,h3,h4⟩:=Bj h;obtain⟨k,hk⟩:=HF (V:=V) (y:=y) (z:=z);refine wn ⟨trivial,?_,trivial⟩ (L6 ok (Em wf h1 h2 h3 h4) hk);show V.calls.length<(V.calls++[yx y]).length;rw[cZ];exact fu _
 | turn=>exact⟨trivial,Ga ok _ (A5 wf)⟩
 | sw b i=>exact⟨(Qw h).2,trivial⟩
 | num w x ns=>
  obtain⟨_,n⟩:=Fp f h;cases n with
  | answer i c hi hc h1 h2 h3=>show C7 V [AJ V "answer" x i.toNat];rw[wV hc];exact⟨⟨(cX.mp hc).1,(by decide:2<=100)⟩,trivial⟩
  | hang i c hi hc h1=>
   have lt:=(cX.mp hc).1;show C7 V (uS V x i.toNat);unfold uS;rw[hc];dsimp only[Option.elim];split
   .exact⟨lt,trivial⟩
   split
   .refine⟨lt,?_⟩;split
    .exact⟨by show _<(V.calls.modify _ _).length;rw[eX];exact lt,trivial⟩
    .trivial
   split
   .exact⟨lt,trivial⟩
   .exact⟨lt,trivial⟩
  | hold i c hi hc h1=>show C7 V [AJ V "hold" x i.toNat];rw[wV hc];exact⟨(cX.mp hc).1,trivial⟩
  | back i c hi hc h1 h2=>show C7 V [AJ V "back" x i.toNat];rw[wV hc];exact⟨⟨(cX.mp hc).1,hm c (qN hc)⟩,trivial⟩
  | two _ i j c d hi hj hw hc hd h1 h2=>
   show C7 V [DO V w x i.toNat j.toNat];rw[EF hc hd];refine⟨⟨(cX.mp hc).1,(cX.mp hd).1,(EW (w:=w) wf hc hd h1 h2).1,?_⟩,trivial⟩;split
   .exact(by decide:2<=100)
   .exact(by decide:3<=100)
noncomputable def qd.at_(V:qd)(p:Addr)(F:List Addr):qd:={V with p:=p,fo:=F}
def IV(V:qd)(p:Addr)(F:List Addr)(e:Ev):pS (V.at_ p F) e=(pS V e).at_ p F:=by cases e<;>rfl
theorem Iu(p:Addr)(F:List Addr):∀(es:List Ev) (V:qd),qk (V.at_ p F) es=(qk V es).at_ p F
 | [],_=>rfl
 | e::r,V=>by show qk (pS (V.at_ p F) e) r=_;rw[IV,Iu p F r];rfl
theorem LF(p:Addr)(F:List Addr):∀(es:List Ev) (V:qd),C7 V es->C7 (V.at_ p F) es
 | [],_,_=>trivial
 | e::r,V,h=>⟨by cases e<;>exact h.1,by rw[IV];exact LF p F r _ h.2⟩
noncomputable def FH(c:pj):D:=.tup [.str c.st,.str c.cr,.tup (c.way.map D.str),.tup (c.at_.map D.str),.tup (c.ms.map D.str),CB c.hd,.int c.si,CB c.wd]
noncomputable def HP(V:qd):D:=.tup [.int V.t,.tup (V.calls.map FH),.tup ((s8 V.ps).map Ai),.tup (V.on.map D.bl)]
def PX(a:Ad):qX:=λds M Q=>CK λL k c=>ds=[.ref k.p]/\rF a M L k c/\Q (FH c) M
def Hb(a:Ad):qX:=λds M Q=>Ca λA V=>ds=[.ref A.b]/\pH a M A V/\V.calls.length<=10000/\V.ps.length<=3/\Q (HP V) M
def GU(a:Ad):qX:=λds M Q=>Iz λp h r F (l:pB) (es:List Ev)=>ds=[.ref p,.int h,.ref r]/\sP a M p l/\qW l/\(∀x∈F,∃c,M x=some c)/\oJ M r=some (es.map Ev.d)/\es.length<=900000/\C7 (V0 p h l F) es/\∀M' A,tZ a M M' A.b A (qk (V0 p h l F) es) l es.length (3+es.length)->Q (.ref A.b) M'
def TC(e:Ev):e.nw<=1:=by cases e<;>first|exact dw _|exact eG _
def z9{l:pB}(ok:qW l):(uU l).length<=3:=by unfold uU;rw[cV];exact dX (gD _ _) ok.g3
def Lp{es:List Ev}{pre post:List D}{d:D}(e:pre++d::post=es.map Ev.d):∃ev,es[pre.length]?=some ev/\d=ev.d/\es.take (pre.length+1)=es.take pre.length++[ev]/\es.drop pre.length=ev::es.drop (pre.length+1):=by
 have h:(es.map Ev.d)[pre.length]?=some d:=by rw[<-e];simp
 rw[dD]at h;cases q:es[pre.length]? with
 | none=>rw[q]at h;cases h
 | some ev=>rw[q]at h;have hl:=(cX.mp q).1;have eg:es[pre.length]=ev:=(cX.mp q).2;exact⟨ev,rfl,(dn h).symm,by rw[List.take_succ,q];rfl,by rw[gH hl,eg]⟩
def NP(G:Gl K mg a):Fq P w K mg base 1 a.aT (PX a):=by
 refine fq G.aT.toDG wU (λr u=>⟨_,(oY (pG 1 wU (pJ (qY (pP sf rfl G.A sj (pY (pk v0))) (pP sf rfl G.A sj (pY (pk v0))) (pP sf rfl G.A sj (pY (pk v0))))))
 (o9 (pq (pR (pR (pJ (rK (pk v0) (pk v0))) U1) (pJ (qY (pk v0) (pk v0) (pk v0))))))),?_⟩)
 rintro ds M Q ⟨L,k,c,rfl,⟨ad,md,h1,h2,h3,h4,_⟩,q⟩
 have hz:=dM;refine oZ h1 (i' rfl (i' h2 (oZ h1 (i' rfl (i' h3 (oZ h1 (i' rfl (i' h4 ⟨oW rfl,?_⟩))))))));refine oZ h1 (i' rfl (oZ h1 (i' rfl ⟨oW rfl,fA _ _,by show 2+3<=sizeLine;omega,?_⟩)));exact oZ h1 (i' rfl (oZ h1 (i' rfl (oZ h1 (i' rfl ⟨oW rfl,fA _ _,by show 5+3<=sizeLine;omega,M,.refl,q⟩)))))
def wG(G:Gl K mg a):Fq P w K mg base 2 a.L (Hb a):=by
 refine fq G.L.toDG B6 (λr u=>⟨_,(oY (pG 1 B6 (pP sf rfl G.A sj (pY (qC rfl (yb (ix:=[none]) (N':=["call"])) (qG (pk v0)) (qz 0) rS (pD (NP G) r G.aT (pY v0))))))
 (o9 (pq (pJ (pT (pk v0) (qY U1 (pP sf rfl G.A sj (pY (FB rfl (pk v0) rfl G.cF))) (pP sf rfl G.A sj (pY (pk v0))))))))),?_⟩)
 rintro ds M Q ⟨A,V,rfl,bd,Xg,h3,q⟩
 have hz:=dM;refine oZ bd.at_ (i' rfl (i' bd.ca ?_));refine Bb (A.cs.map λk=>D.ref k.p) (λpre acc δ M'=>M=M'/\acc=(V.calls.take pre.length).map FH/\∃y,δ=[y]) (λ_ _ _ M' j=>by rw[<-j.1];exact bd.ca) _ [] [] _ _ rfl ?_ ⟨rfl,rfl,none,rfl⟩ ?_ ?_
 .rw[cV,bd.len];simp only[dN];omega
 .rintro pre d post e acc δ M' ⟨rfl,rfl,y,rfl⟩ k hk
  obtain⟨ka,c,e1,e2,rfl,hc,et⟩:=EB bd e;refine⟨_,ka,c,rfl,hc,hk _ _ _ ⟨rfl,?_,_,rfl⟩⟩;rw[cZ,dP,et,dQ];rfl
 .rintro acc δ M' ⟨rfl,rfl,y,rfl⟩ p1 Ye
  rw[cV,bd.len,fG];refine i' pA ?_;have s1:=qx.new (c:=.lst (V.calls.map FH)) Ye;generalize pz M p1 (.lst (V.calls.map FH))=M1 at s1 ⊢;refine oZ (s1 _ _ bd.at_) (i' rfl (oZ (s1 _ _ bd.at_) (i' rfl ⟨V.ps,s1.dk bd.nx,h3,λS hS=>i' pA ?_⟩)));have s2:=s1.trans (qx.new (c:=.lst ((s8 V.ps).map Ai)) hS);generalize pz M1 S (.lst ((s8 V.ps).map Ai))=M2 at s2 ⊢;exact oZ (s2 _ _ bd.at_) (i' rfl (i' (s2.lst bd.on) ⟨oW rfl,M,s2,q⟩))
def GA(G:Gl K mg a):Fq P w K mg base 4 a.aU (GU a):=by
 refine fq G.aU.toDG xq (λr u=>⟨_,(oY (pG 3 xq (uH (FU G) r G.c G.bX G.S.toDG (rK v0 U1)))
 (oY (uI ft rfl (qG U2) (sF 4 xq)
 (o9 (pI (pQ U3 G.c.toCls G.k (qM G) r (pY v4)))))
 (o9 (pq U3)))),?_⟩)
 rintro ds M Q ⟨p,h,r,F,l,es,rfl,pl,ok,hF,lr,hes,mO,q⟩
 refine λb hb=>?_;obtain⟨hb0,s0⟩:pz M b (.ins a.c []) b=some (.ins a.c [])/\qx M (pz M b (.ins a.c [])):=⟨pL,.new hb⟩;refine⟨b,p,h,F,l,rfl,hb0,pl.sub s0,ok,λz=>?_,λx hx=>(hF x hx).imp λc e=>s0 x c e,λM1 A eb kp fr bd=>⟨rfl,?_⟩⟩
 .obtain⟨ph,gr,ws,Yf,pr,gd,rs,i1,_⟩:=pl;rw[z,hb]at i1;cases i1
 have s1:qx M M1:=λx c e=>kp x c (λz=>by rw[z,hb]at e;cases e) (s0 x c e);have c0:tZ a M M1 b A (V0 p h l F) l 0 3:=⟨bd,pl,s1,λx hx=>?_,eb,⟨eG _,eG _,dw _,z9 ok,λk hk=>by cases hk⟩,ok,cV ..⟩
 rotate_left
 .rcases fr x hx with z|z
  .rw[z];exact hb
  .exact s0.none z
 have nf:r∉A.foot:=λz=>by have:=c0.fr r z;rw[pW lr]at this;cases this
 have lr1:=s1.lst lr;refine i' lr1 (wq (es.map Ev.d) (λpre δ M'=>(∃A',tZ a M M' b A' (qk (V0 p h l F) (es.take pre.length)) l pre.length (3+pre.length)/\qO A M1 A' M'/\C7 (qk (V0 p h l F) (es.take pre.length)) (es.drop pre.length))/\∃y,δ=[some (.ref p),some (.int h),some (.ref r),some (.ref b),y]) (λpre δ M' j=>?_) _ [] _ _ rfl ⟨⟨A,c0,.refl,mO⟩,none,rfl⟩ ?_ ?_)
 .obtain⟨⟨A',c1,Xi,_⟩,_⟩:=j;exact rT (Xi.1 r _ nf (pW lr1))
 .rintro pre d post e δ M' ⟨⟨A',c1,Xi,o1⟩,y,rfl⟩ nx WZ
  obtain⟨ev,e1,rfl,e2,e3⟩:=Lp e;have hp:pre.length<es.length:=(cX.mp e1).1;rw[e3]at o1;rw[cZ,dP,e2,rc]at WZ;generalize qk (V0 p h l F) (es.take pre.length)=V1 at c1 o1 WZ;refine oZ c1.at_ ⟨rfl,_,⟨rfl,rfl⟩,b,A',V1,ev,rfl,c1.b,c1.bd,c1.lim (by omega) (by omega),o1.1,λM2 A2 ZW W8 X9=>WZ _ _ ⟨⟨A2,(c1.after o1.1 ZW W8 X9).mono (Nat.add_le_add_left (TC ev) _) (by omega),Xi.trans W8,o1.2⟩,_,rfl⟩⟩
 .rintro δ M' ⟨⟨A',c1,Xi,o1⟩,y,rfl⟩
  rw[cV,fG]at c1;have qq:=q M' A' (by rw[c1.b];exact c1);rw[c1.b]at qq;exact⟨M',.refl,qq⟩
def Ev.oB:Ev->Prop
 | .turn=>False
 | _=>True
def Ev.noN:Ev->Prop
 | .next _ _=>False
 | _=>True
theorem Qo:∀{es:List Ev} {V:qd},(∀e∈es,e.oB)->(qk V es).t=V.t
 | [],_,_=>rfl
 | e::r,V,h=>(Qo (es:=r) (V:=pS V e) λx hx=>h x (dC _ hx)).trans (by have:=h e dJ;cases e<;>first|rfl|cases this)
theorem Fi:∀{es:List Ev} {V:qd},(∀e∈es,e.noN)->(qk V es).ps=V.ps
 | [],_,_=>rfl
 | e::r,V,h=>(Fi (es:=r) (V:=pS V e) λx hx=>h x (dC _ hx)).trans (by have:=h e dJ;cases e<;>first|rfl|cases this)
theorem yW(i:Nat):∀(st:sQ) (q:Option Str),∀e∈rg i q st,e.oB/\e.noN
 | [],_,e,h=>by unfold rg at h;cases h
 | (y,gs)::r,none,e,h=>by
  rcases dh.mp (show e∈Ev.asks i y gs::rg i (some y) r from h)with rfl|h
  .exact⟨trivial,trivial⟩
  .exact yW i r _ e h
 | (y,gs)::r,some u,e,h=>by
  rcases dh.mp (show e∈Ev.leg ⟨i,u,y,u⟩::Ev.asks i y gs::rg i (some y) r from h)with rfl|h
  .exact⟨trivial,trivial⟩
  rcases dh.mp h with rfl|h
  .exact⟨trivial,trivial⟩
  .exact yW i r _ e h
def IL{i:Nat}{st:sQ}{en:vi}:∀e∈sV i st en,e.oB/\e.noN:=λe h=>by
 unfold sV at h;cases en with
 | ring ns=>
  dsimp only at h;cases q:st.getLast? with
  | none=>rw[q]at h;cases h
  | some s0=>rw[q]at h;rw[dv.mp h];exact⟨trivial,trivial⟩
 | _=>cases h
def NU{l:pB}{V:qd}{i:Nat}{en:vi}:∀e∈rR l V i en,e.oB:=λe h=>by
 cases en with
 | rings z ps=>
  rcases dU.mp (show e∈(if (l.mL z=="turns")=true then[Ev.next z (NS (l.mD z) (ps.headD Str.empty))]else[])++[.rings i ps]from h)with g|g
  .split at g
   .rw[dv.mp g];trivial
   .cases g
  .rw[dv.mp g];trivial
 | breaks z=>
  unfold rR at h;dsimp only at h;split at h
  .rw[dv.mp h];trivial
  .cases h
 | waits z=>rw[dv.mp h];trivial
 | engaged z=>rw[dv.mp h];trivial
 | barred=>rw[dv.mp h];trivial
 | ring ns=>rw[dv.mp h];trivial
def SU{l:pB}{V:qd}{i:Nat}:∀e∈uK l V i,e.oB:=λe h=>by
 unfold uK at h;cases q:V.calls[i]? with
 | none=>rw[q]at h;cases h
 | some c=>
  rw[q]at h;dsimp only[Option.elim]at h;rcases dU.mp h with h|h
  .exact(yW i _ _ e h).1
  rcases dU.mp h with h|h
  .exact(IL e h).1
  .exact NU e h
def L0{l:pB}{V:qd}{i:Nat}{fs:List Nat}:∀e∈sJ l V i fs,e.oB:=λe h=>by
 unfold sJ at h;split at h
 .rename_i x y n _;dsimp only at h;rcases dU.mp h with h|h
  .simp only[dh,dE,eP]at h;rcases h with rfl|rfl|rfl<;>trivial
  .exact SU e h
 .cases h
theorem F4{l:pB}:∀(is:List Nat) (V:qd),∀e∈qP l is V,e.oB
 | [],_,e,h=>by unfold qP at h;cases h
 | i::r,V,e,h=>by
  unfold qP at h;rcases dU.mp h with h|h
  .exact L0 e h
  .exact F4 r _ e h
def SL{l:pB}{V:qd}:(qk V (rO l V .turn)).t=V.t+1:=Qo (V:=pS V .turn) (F4 _ _)
def OS{ps:List (Str×Int)}{z:Str}{n:Int}(h:ps.any (λp=>decide (p.1=z))=true):(Cv ps z n).length=ps.length:=by unfold Cv;rw[dg h,cV]
def Q6{l:pB}{V V1:qd}{i:Nat}{en:vi}(nx:uf l V1)(he:DW l V i en):(qk V1 (rR l V i en)).ps.length=V1.ps.length:=by
 cases en with
 | rings z ps=>
  show(qk V1 ((if (l.mL z=="turns")=true then[Ev.next z (NS (l.mD z) (ps.headD Str.empty))]else[])++[.rings i ps])).ps.length=_;rw[rc];by_cases ht:(l.mL z=="turns")=true
  .rw[dg ht];refine OS ?_;obtain⟨v,e,_⟩:=nx z he.1 ht;exact gz.mpr ⟨v,gh e,by simpa using l0 e⟩
  .rw[de ht];rfl
 | breaks z=>
  unfold rR;dsimp only;split
  .rfl
  .rfl
 | waits z=>rfl
 | engaged z=>rfl
 | barred=>rfl
 | ring ns=>rfl
def QF{l:pB}{V:qd}{i:Nat}{k:pj}(ok:qW l)(wf:zo l V (some i))(hk:V.calls[i]?=some k):(qk V (uK l V i)).ps.length=V.ps.length:=by
 have Xv:=wf.ok i k hk;unfold uK;rw[hk];dsimp only[Option.elim];obtain⟨z,hz⟩:∃z,k.way.getLast?=some z:=by
  cases e:k.way.getLast? with
  | none=>exact absurd (gi.mp e) Xv.wy.1
  | some z=>exact⟨z,rfl⟩
 rw[show k.way.getLastD Str.empty=z by rw[gI,hz];rfl];have ro:wk l V k.cr (l.nm.length+1) [] (uo l V k.cr z k.way.dropLast):=xl ok _ _ _ _ (Xv.wy.2 z (ib hz)) λx hx=>Xv.wy.2 x (ic _ hx);have eo:=Ic ok wf hk ro.e;generalize uo l V k.cr z k.way.dropLast=R at eo;obtain⟨e,st⟩:=R;have e1:(qk (qk V (rg i none st)) (sV i st e)).ps=V.ps:=(Fi λx hx=>(IL x hx).2).trans (Fi λx hx=>(yW i st none x hx).2);rw[rc,rc];refine(Q6 (λz hz ht=>?_) eo).trans (eY List.length e1);rw[e1];exact wf.nx z hz ht
theorem Jy{l:pB}(ok:qW l):∀(is:List Nat) {V:qd},WF l V->(qk V (qP l is V)).ps.length=V.ps.length
 | [],V,_=>by unfold qP;rfl
 | i::r,V,wf=>by
  unfold qP;rw[rc];refine(Jy ok r (FI ok wf)).trans ?_;have d:=Ez (V:=V) (i:=i) ok;generalize x9 l V i=fs at d;cases d with
  | no=>rfl
  | on c k r b x y n hc hs hk hw hy=>rw[xU hk,rc];exact QF ok (A0 wf hc hs hy) (Bd hc)
def Qt{l:pB}{V:qd}{e:tR}(ok:qW l)(wf:WF l V)(f:e.ng)(h:w9 l V e=none):(qk V (rO l V e)).ps.length=V.ps.length:=by
 cases e with
 | call y z=>obtain⟨h1,h2,h3,h4⟩:=Bj h;obtain⟨k,hk⟩:=HF (V:=V) (y:=y) (z:=z);show(qk V (_++uK l _ _)).ps.length=_;rw[rc];exact QF ok (Em wf h1 h2 h3 h4) hk
 | turn=>exact Jy ok _ (A5 wf)
 | sw b i=>rfl
 | num w x ns=>
  refine eY List.length (Fi λev hev=>?_);obtain⟨_,n⟩:=Fp f h;cases n with
  | answer i c hi hc h1 h2 h3=>rw[dv.mp (show ev∈[AJ V "answer" x i.toNat]from hev),wV hc];trivial
  | hang i c hi hc h1=>
   have hev:ev∈uS V x i.toNat:=hev;unfold uS at hev;rw[hc]at hev;dsimp only[Option.elim]at hev;split at hev
   .rw[dv.mp hev];trivial
   split at hev
   .rcases dh.mp hev with rfl|hev
    .trivial
    split at hev
    .rw[dv.mp hev];trivial
    .cases hev
   split at hev
   .rw[dv.mp hev];trivial
   .rw[dv.mp hev];trivial
  | hold i c hi hc h1=>rw[dv.mp (show ev∈[AJ V "hold" x i.toNat]from hev),wV hc];trivial
  | back i c hi hc h1 h2=>rw[dv.mp (show ev∈[AJ V "back" x i.toNat]from hev),wV hc];trivial
  | two _ i j c d hi hj hw hc hd h1 h2=>rw[dv.mp (show ev∈[DO V w x i.toNat j.toNat]from hev),EF hc hd];trivial
theorem zE(n:Nat):∀ss:List Str,(ss.map D.str).all (so n)=true
 | []=>rfl
 | s::r=>by rw[dY,eW,zE n r];cases n<;>rfl
theorem DL(n:Nat):∀ss:List Nat,(ss.map λi=>D.int (i:Nat)).all (so n)=true
 | []=>rfl
 | s::r=>by rw[dY,eW,DL n r];cases n<;>rfl
theorem GF(n:Nat):∀ss:List Bool,(ss.map D.bl).all (so n)=true
 | []=>rfl
 | s::r=>by rw[dY,eW,GF n r];cases n<;>rfl
def Pq(e:Ev):so 6 e.d=true:=by
 have t:∀ss:List Str,so 5 (names ss)=true:=λss=>zE 4 ss;have u:∀ss:List Nat,so 5 (vZ ss)=true:=λss=>DL 4 ss;cases e with
 | asks i z ns=>show([D.str "asks",.int (i:Nat),.str z,vZ ns].all (so 5))=true;simp only[eW,u];rfl
 | merge i j ms=>show([D.str "merge",.int (i:Nat),.int (j:Nat),names ms].all (so 5))=true;simp only[eW,t];rfl
 | rings i ps=>show([D.str "rings",.int (i:Nat),names ps].all (so 5))=true;simp only[eW,t];rfl
 | talks i ps=>show([D.str "talks",.int (i:Nat),names ps].all (so 5))=true;simp only[eW,t];rfl
 | _=>rfl
def MT{n:Nat}(V:qd):so (n+4) (HP V)=true:=by
 have c1:∀c∈V.calls,so (n+2) (FH c)=true:=λc hc=>by
  have h0:∀o:Option Str,so (n+1) (CB o)=true:=λo=>by cases o<;>rfl
  have t:∀ss:List Str,so (n+1) (.tup (ss.map D.str))=true:=λss=>zE n ss;show([D.str c.st,.str c.cr,.tup (c.way.map D.str),.tup (c.at_.map D.str),.tup (c.ms.map D.str),CB c.hd,.int c.si,CB c.wd].all (so (n+1)))=true;simp only[eW,t,h0];rfl
 have c2:so (n+3) (.tup (V.calls.map FH))=true:=by show(V.calls.map FH).all (so (n+2))=true;rw[jD,eF];exact c1
 have c3:so (n+3) (.tup ((s8 V.ps).map L3.Ai))=true:=by show((s8 V.ps).map L3.Ai).all (so (n+2))=true;rw[jD,eF];exact λx _=>rfl
 have c4:so (n+3) (.tup (V.on.map D.bl))=true:=GF (n+2) _;show([D.int V.t,.tup (V.calls.map FH),.tup ((s8 V.ps).map L3.Ai),.tup (V.on.map D.bl)].all (so (n+3)))=true;simp only[eW,c2,c3,c4];rfl
noncomputable def Ba(c:pj):List Str:=if (c.st=="talks"||c.st=="held")=true then c.ms else c.cr::c.at_
def Kx(a:Ad):qX:=λds M Q=>CK λL k c=>ds=[.ref (rm.p k)]/\rF a M L k c/\c.at_.length<=100/\∀r M',qx M M'->oJ M' r=some ((Ba c).map D.str)->Q (.ref r) M'
noncomputable def LL(V:qd)(XW:List Str):List Nat:=(List.range V.calls.length).filter λi=>(V.calls[i]?).elim false λc=>hasS XW c.st
def Oj(a:Ad):qX:=λds M Q=>CC λA V l XW=>ds=[.ref A.b,.tup (List.map D.str XW)]/\Rd a M A V l/\∀r M',qx M M'->oJ M' r=some ((LL V XW).map λn=>D.int (n:Nat))->Q (.ref r) M'
noncomputable def RJ(V:qd)(XW:List Str):D->Bool
 | .int n=>(V.calls[n.toNat]?).elim false λc=>hasS XW c.st
 | _=>false
def Kt(G:Gl K mg a):Fq P w K mg base 1 a.br (Kx a):=by
 refine fq G.br.toDG CU (λr u=>⟨_,(oY (pM (W3.b3 (vn (pC u (pk v0) pf) (vK (pC u (pk v0) pf))))
 (o9 (pq (pP rZ rfl G.q rN (pY (pk v0)))))
 pE)
 (o9 (pq (pR (qV (pY (pk v0))) (pP rZ rfl G.q rN (pY (pk v0))))))),?_⟩)
 rintro ds M Q ⟨L,k,c,rfl,⟨ad,md,h1,h2,h3,h4,_⟩,ha,q⟩
 have hz:=dM;unfold Ba at q;refine oZ h1 (i' rfl (qA (c:=c.st=="talks") (λg=>?_) (λg=>?_)))
 .rw[g,gZ,dg rfl]at q;exact oZ h1 (i' rfl (i' h4 λr hr=>⟨_,.refl,q r _ (.new hr) pA⟩))
 rw[dI.mpr g,fO]at q;refine oZ h1 (i' rfl (qA (c:=c.st=="held") (λg=>?_) (λg=>?_)))
 .rw[dg g]at q;exact oZ h1 (i' rfl (i' h4 λr hr=>⟨_,.refl,q r _ (.new hr) pA⟩))
 rw[de g]at q;refine oZ h1 (i' rfl ⟨oW rfl,λr1 Xu=>?_⟩);have t1:=qx.new (c:=.lst [D.str c.cr]) Xu;have l1:=@pA M r1 [D.str c.cr];show zU (pz M r1 (.lst [D.str c.cr]) k.p) _;generalize pz M r1 (.lst [D.str c.cr])=M1 at t1 l1 ⊢;refine oZ (t1 _ _ h1) (i' rfl (i' (t1.lst h3) λr2 Y5=>?_));have t2:=qx.new (c:=.lst (c.at_.map D.str)) Y5;refine i' (t2.lst l1) (i' pA ⟨?_,λr3 YO=>⟨_,.refl,q r3 _ (t1.trans (t2.trans (.new YO))) pA⟩⟩);rw[cV];show 1+c.at_.length<=sizeLine;omega
def O6(G:Gl K mg a):Fq P w K mg base 1 a.bs (Oj a):=by
 refine fq G.bs.toDG Ay (λr u=>⟨_,(o9 (pq (qC rfl (yb (ix:=[none,some 0,some 1]) (N':=["_law_k","_law_board","_law_states"])) (wg rfl G.ab (pY (pN qu rfl G.g qm (pY (pk v0))))) (qz 0) (vJ (pC u (pk (pF (pk U1) v0)) U2)) v0))),?_⟩)
 rintro ds M Q ⟨A,V,l,XW,rfl,rd,q⟩
 have hz:=dM;have lc:((A.cs.map λk=>D.ref k.p).length:Int)=(V.calls.length:Nat):=by rw[cV,rd.bd.len]
 have hb:=rd.k;refine oZ rd.bd.at_ (i' rfl (i' rd.bd.ca ?_));rw[lc];refine⟨rfl,⟨by omega,by omega⟩,?_⟩;refine tH (f:=id) (t:=RJ V XW) trivial _ [] _ (by rw[cV,eE];simp only[dN];omega) (λd hd k hk=>?_) (λd hd _ k hk=>?_) λr hr=>?_
 .obtain⟨i,hi,rfl⟩:=dF.mp hd;rw[gg]at hi;have hi:i<V.calls.length:=by omega
  obtain⟨k',ek,⟨ad,md,h1,_⟩⟩:=rd.call (cY hi);have ea:wj (A.cs.map λk=>D.ref k.p) (0+(i:Nat))=some (.ref k'.p):=by rw[mx];exact ra ek
  refine oZ rd.bd.at_ (i' rfl (i' rfl (i' rd.bd.ca (i' ea (oZ h1 (i' rfl (i' rfl ⟨rfl,qr _,?_⟩)))))));show k (inD (.str V.calls[i].st) (XW.map D.str)) M;rw[sy];have e1:RJ V XW (.int (0+(i:Nat)))=hasS XW V.calls[i].st:=by show(V.calls[(0+(i:Int)).toNat]?).elim false _=_;rw[show(0+(i:Int)).toNat=i by omega,cY hi];rfl
  show k (hasS XW V.calls[i].st) M;rw[<-e1];exact hk
 .exact hk
 .refine⟨_,.refl,q r _ (.new hr) (pA.trans (eY some ?_))⟩;rw[d9,jb,gR,show(((V.calls.length:Nat):Int)).toNat=V.calls.length from rfl];unfold LL;have e1:(RJ V XW∘λi:Nat=>D.int (0+(i:Nat)))=λi=>(V.calls[i]?).elim false λc=>hasS XW c.st:=funext λi=>by show(V.calls[(0+(i:Int)).toNat]?).elim false _=_;rw[show(0+(i:Int)).toNat=i by omega]
  rw[e1];exact gw λi _=>by rw[mx]
noncomputable def GB:Str->List Str:=λw=>if (w=="answer")=true then["rings","waits"]else if (w=="hold")=true then["talks"]else if (w=="hang")=true then["rings","waits","talks","held"]else["held"]
def QT(w:Str):Prop:=w="answer"\/w="hang"\/w="hold"\/w="back"\/w="hand"\/w="join"
def KC(a:Ad):qX:=λds M Q=>FJ λA V l c w=>ds=[.ref A.b,.int c,.str w,.tup ((GB w).map D.str)]/\Rd a M A V l/\WF l V/\(∀k∈V.calls,k.at_.length<=100)/\QT w/\∀M',qx M M'->Q .mH M'/\∀e:tR,e.ng->Q e.d M'
def Se{M:Mp}{n:Nat}{a b:Addr}{ds:List D}(ha:oJ M a=some ds)(hb:oJ M b=some []):yc M (n+1) (.ref a) (.ref b)=some ds.isEmpty:=by
 show(oJ M a).bind (λi=>(oJ M b).bind λj=>if i.length=j.length then sI (yc M n) i j else some false)=_;rw[ha,hb];cases ds with
 | nil=>rfl
 | cons x r=>rfl
def uz{α:Type}(f:α->D){xs:List α}(h:xs≠[])(c k:Int):(0:Int)<((xs.map f).length:Nat)/\∃x∈xs,wj (xs.map f) (qh c k ((xs.map f).length:Nat))=some (f x):=by
 have hp:(0:Int)<((xs.map f).length:Nat):=by have:=fB.mpr h;rw[cV];omega
 have d0:=qR (c:=c) (f:=k) hp;have d1:=qF (c:=c) (f:=k) hp;obtain⟨n,e⟩:=eC d0;rw[e]at d1 ⊢;have hn:n<xs.length:=by rw[cV]at d1;omega
 exact⟨hp,xs[n],h9 hn,uV (by rw[dD,cY hn];rfl)⟩
def Sb{V:qd}{XW:List Str}{i:Nat}(h:i∈LL V XW):∃c,V.calls[i]?=some c/\c.st∈XW:=by
 have h:=(fJ.mp h).2;cases e:V.calls[i]? with
 | none=>rw[e]at h;cases h
 | some c=>rw[e]at h;exact⟨c,rfl,qL.mp h⟩
def Dn{l:pB}{c:pj}(k:vG l false c)(h:c.st≠"over"):Ba c≠[]:=by
 unfold Ba;split
 .rename_i g;rcases k.sh with z|⟨_,z|z|⟨_,z⟩|z⟩
  .rw[z.1]at g;exact absurd g (by decide)
  .rw[z.1]at g;exact absurd g (by decide)
  .intro y;rw[y]at z;rcases z.2.1 with u|u<;>cases u
  .intro y;rw[y]at z;cases z.2.1
  .exact absurd z.1 h
 .exact fA _ _
def UD{l:pB}{c:pj}(k:vG l false c)(h:c.st∈GB "answer"):c.at_≠[]:=by
 have h:c.st="rings"\/c.st="waits":=by
  rcases dh.mp h with g|g
  .exact .inl g
  .exact .inr (dv.mp g)
 rcases k.sh with z|⟨_,z|z|⟨_,z⟩|z⟩
 .exact z.2.2.2.2.2 rfl
 .intro y;rw[y]at z;cases z.2.2.2.2
 all_goals(rw[z.1]at h;exact absurd h (by decide))
def I0{l:pB}{c:pj}(k:vG l false c)(h:c.st="held"):∃x,c.hd=some x:=by
 rcases k.sh with z|⟨_,z|z|⟨x,z⟩|z⟩
 .rw[h]at z;exact absurd z.1 (by decide)
 .rw[h]at z;exact absurd z.1 (by decide)
 .rw[h]at z;exact absurd z.1 (by decide)
 .exact⟨x,z.2.2.1⟩
 .rw[h]at z;exact absurd z.1 (by decide)
def KB(G:Gl K mg a):Fq P w K mg base 4 a.bt (KC a):=by
 refine fq G.bt.toDG rn (λr u=>⟨_,(oY (pG 4 rn (pD (O6 G) r G.bs (rK v0 U3)))
 (oY (pM (pC u v4 (qV sR))
 (o9 (pq rL))
 pE)
 (oY (pG 5 rn (pF v4 (pD (qB G) r G.i (qY U1 pb (pN qu rfl G.g qm (pY v4))))))
 (oY (pG 6 rn (pD (Kt G) r G.br (pY (pF (pk v0) v5))))
 (oY (pM (pC u U2 pf)
 (o9 (pG 6 rn (pP rZ rfl G.q rN (pY (pk (pF (pk v0) v5))))))
 pE)
 (oY (pM (W3.b3 (vn (pC u U2 pf) (vn (pC u U2 pf) (vK (pC u U2 pf)))))
 (o9 (pG 6 rn (qV (pY (pk (pF (pk v0) v5))))))
 pE)
 (oY (pG 7 rn (pF v6 (pD (qB G) r G.i (qY U1 pb (pN qu rfl G.g qm (pY v6))))))
 (oY (pM (W3.b3 (vn (pC u U2 pf) (vK (pC u U2 pf))))
 (oY (pG 8 rn (pQ v0 G.c.toCls G.V (yu G) r (pY v7)))
 (o9 (pq (pJ (pT U2 (qY v7 v5 (QP (pC u v8 rL) pb v8)))))))
 pE)
 (o9 (pq (pJ (qY U2 v7 v5)))))))))))),?_⟩)
 rintro ds M Q ⟨A,V,l,c,wd,rfl,rd,wf,ha,ho,q⟩
 have hz:=dM;refine⟨A,V,l,GB wd,rfl,rd,λr M1 s1 lr=>?_⟩;refine⟨oW rfl,λr0 ZT=>?_⟩;have t2:=qx.new (c:=.lst []) ZT;have Zs:=t2.lst lr;refine i' (Se Zs pA) ?_;have s2:=s1.trans t2;generalize pz M1 r0 (.lst [])=M2 at s2 Zs ⊢;clear t2 lr ZT s1;refine qA (c:=((LL V (GB wd)).map λn=>D.int (n:Nat)).isEmpty) (λ_=>⟨M2,.refl,(q M2 s2).1⟩) (λg=>?_);have gne:LL V (GB wd)≠[]:=λz=>g (by rw[z];rfl);obtain⟨hp,i,hi,ei⟩:=uz (λn:Nat=>D.int (n:Nat)) gne c 40692;obtain⟨cv,hc,hs⟩:=Sb hi;have YS:=rd.sub s2;obtain⟨k,ek,ca⟩:=YS.call hc;have ca0:=ca;obtain⟨ad,md,h1,h2,h3,h4,_⟩:=ca0;have Xv:=wf.ok i cv hc;refine i' Zs ⟨c,_,_,rfl,hp,i' Zs (i' ei ?_)⟩;refine oZ YS.bd.at_ (i' rfl (i' rfl (i' YS.bd.ca (i' (ra ek) ?_))));refine⟨_,k,cv,rfl,ca,ha cv (qN hc),λr3 M3 s3 lr3=>?_⟩;have Xt:=s3 _ _ h1;have q3:=λM' (s:qx M3 M')=>q M' (s2.trans (s3.trans s));have Y8:=YS.sub s3;have Zm:=s3.lst h3;clear q Zs s2 h1 h2 h3 h4 ca;rcases ho with rfl|rfl|rfl|rfl|rfl|rfl
 .
  refine oZ Y8.bd.at_ (i' rfl (i' rfl (i' Y8.bd.ca (i' (ra ek) (oZ Xt (i' rfl (i' Zm λr4 Zt=>?_)))))));obtain⟨WY,x,hx,ex⟩:=uz D.str (UD Xv hs) c 742938285;refine i' pA ⟨c,_,_,rfl,WY,i' pA (i' ex ?_)⟩;exact⟨oW rfl,_,.refl,(q3 _ (.new Zt)).2 (.num "answer" x [(i:Nat)]) (.inl ⟨.inl rfl,rfl⟩)⟩
 .
  obtain⟨WY,x,hx,ex⟩:=uz D.str (Dn Xv (λz=>by rw[z]at hs;exact absurd hs (by decide))) c 742938285;refine i' lr3 ⟨c,_,_,rfl,WY,i' lr3 (i' ex ?_)⟩;exact⟨oW rfl,_,.refl,(q3 _ .refl).2 (.num "hang" x [(i:Nat)]) (.inl ⟨.inr (.inl rfl),rfl⟩)⟩
 .
  obtain⟨WY,x,hx,ex⟩:=uz D.str (Dn Xv (λz=>by rw[z]at hs;exact absurd hs (by decide))) c 742938285;refine i' lr3 ⟨c,_,_,rfl,WY,i' lr3 (i' ex ?_)⟩;exact⟨oW rfl,_,.refl,(q3 _ .refl).2 (.num "hold" x [(i:Nat)]) (.inl ⟨.inr (.inr (.inl rfl)),rfl⟩)⟩
 .
  obtain⟨y,hy⟩:=I0 Xv (dv.mp hs);refine oZ Y8.bd.at_ (i' rfl (i' rfl (i' Y8.bd.ca (i' (ra ek) (oZ Xt (i' rfl ⟨oW rfl,λr4 Zt=>?_⟩))))));rw[show CB cv.hd=.str y by rw[hy];rfl];obtain⟨WY,x,hx,ex⟩:=uz D.str (fA y []) c 742938285;refine i' pA ⟨c,_,_,rfl,WY,i' pA (i' ex ?_)⟩;exact⟨oW rfl,_,.refl,(q3 _ (.new Zt)).2 (.num "back" x [(i:Nat)]) (.inl ⟨.inr (.inr (.inr rfl)),rfl⟩)⟩
 all_goals
  obtain⟨y,hy⟩:=I0 Xv (dv.mp hs);refine oZ Y8.bd.at_ (i' rfl (i' rfl (i' Y8.bd.ca (i' (ra ek) (oZ Xt (i' rfl ⟨oW rfl,λr4 Zt=>?_⟩))))));rw[show CB cv.hd=.str y by rw[hy];rfl];obtain⟨WY,x,hx,ex⟩:=uz D.str (fA y []) c 742938285;refine i' pA ⟨c,_,_,rfl,WY,i' pA (i' ex ?_)⟩;have t4:=qx.new (c:=.lst [D.str y]) Zt;refine oZ (t4 _ _ Y8.bd.at_) ⟨rfl,_,⟨rfl,rfl⟩,A,V,x,rfl,Y8.bd.sub t4,Y8.k,?_⟩;unfold Ak;cases vv V x with
  | none=>first|exact⟨oW rfl,_,.refl,(q3 _ t4).2 (.num "hand" x [(i:Nat),(0:Nat)]) (.inr ⟨.inl rfl,rfl⟩)⟩|exact⟨oW rfl,_,.refl,(q3 _ t4).2 (.num "join" x [(i:Nat),(0:Nat)]) (.inr ⟨.inr rfl,rfl⟩)⟩
  | some j=>first|exact⟨oW rfl,_,.refl,(q3 _ t4).2 (.num "hand" x [(i:Nat),(j:Nat)]) (.inr ⟨.inl rfl,rfl⟩)⟩|exact⟨oW rfl,_,.refl,(q3 _ t4).2 (.num "join" x [(i:Nat),(j:Nat)]) (.inr ⟨.inr rfl,rfl⟩)⟩
def IJ:qX:=λds M Q=>Iz λc o n own nm m=>ds=[.int c,.ref o,.ref n,.int ((m:Nat):Int)]/\oJ M o=some (List.map D.str own)/\oJ M n=some (List.map D.str nm)/\own.length<=100/\nm.length<=100/\m<=1000000/\∀M' (e:tR),qx M M'->e.ng->Q e.d M'
def MJ(a:Ad):qX:=λds M Q=>S7 λA V l c o n own nm=>ds=[.ref A.b,.int c,.ref o,.ref n]/\Rd a M A V l/\WF l V/\(∀k∈V.calls,k.at_.length<=100)/\oJ M o=some (List.map D.str own)/\oJ M n=some (List.map D.str nm)/\own≠[]/\nm≠[]/\own.length<=100/\nm.length<=100/\∀M' (e:tR),qx M M'->e.ng->Q e.d M'
def Jn{α:Type}(f:α->D){xs:List α}(h:xs≠[]){m:Int}(hm:m=(xs.length:Nat))(c k:Int):(0:Int)<m/\∃x∈xs,wj (xs.map f) (qh c k m)=some (f x):=by have:=uz f h c k;rw[cV,<-hm]at this;exact this
def O1{α:Type}(xs:List α)(x:α):xs++[x]≠[]:=by simp
noncomputable def Hy:List Str:=["call","call","call","call","call","answer","answer","answer","answer","answer","hang","hang","hold","hold","hold","back","hand","join","turn","turn","turn"]
theorem Dm(d:D):∀n:Nat,(List.replicate n [d]).flatten=List.replicate n d
 | 0=>rfl
 | n+1=>by rw[eJ,fP,Dm d n,eJ];rfl
noncomputable def zz:Str:="zzzzzz"
noncomputable def K9(a b:Str)(k m:Int):List tR:=[.call a b,.num "answer" a [k],.num "hang" a [k],.num "hold" a [k],.num "back" a [k],.num "hand" a [k,m],.num "join" a [k,m],.turn,.sw true k,.sw false k]
def Lk{a b:Str}{k m:Int}{e:tR}(h:e∈K9 a b k m):e.ng:=by
 unfold K9 at h;simp only[dh,dE,eP]at h;rcases h with rfl|rfl|rfl|rfl|rfl|rfl|rfl|rfl|rfl|rfl
 .trivial
 .exact .inl ⟨.inl rfl,rfl⟩
 .exact .inl ⟨.inr (.inl rfl),rfl⟩
 .exact .inl ⟨.inr (.inr (.inl rfl)),rfl⟩
 .exact .inl ⟨.inr (.inr (.inr rfl)),rfl⟩
 .exact .inr ⟨.inl rfl,rfl⟩
 .exact .inr ⟨.inr rfl,rfl⟩
 .trivial
 .trivial
 .trivial
def P5(G:Gl K mg a):Fq P w K mg base 2 a.bu IJ:=by
 refine fq G.bu.toDG ux (λr u=>⟨_,(oY (pG 4 ux (pF (pR U1 (qV (pY pf))) (pD (qB G) r G.i (qY v0 pb (pR (pN qu rfl G.g qm (pY U1)) pb)))))
 (oY (pG 5 ux (pF (pR U2 (qV (pY pf))) (pD (qB G) r G.i (qY v0 pb (pR (pN qu rfl G.g qm (pY U2)) pb)))))
 (oY (pG 6 ux (pR (pD (qB G) r G.i (qY v0 pb (pR U3 pb))) pb))
 (oY (pG 7 ux (pR (pD (qB G) r G.i (qY v0 pb (pR U3 pb))) pb))
 (oY (pG 8 ux (qV (pT (pJ (qY pf v4 v5)) (pT (pJ (qY pf v4 v6)) (pT (pJ (qY pf v4 v6)) (qY (pJ (qY pf v4 v6)) (pJ (qY pf v4 v6)) (pJ (pT pf (qY v4 v6 v7)))))))))
 (o9 (pq (pF (pR v8 (qV (pT (pJ (pT pf (qY v4 v6 v7))) (qY (pJ (pY pf)) (pJ (rK pf v6)) (pJ (rK pf v6)))))) (pD (qB G) r G.i (qY v0 pb pb)))))))))),?_⟩)
 rintro ds M Q ⟨c,o,n,own,nm,m,rfl,ho,hn,ol,nl,ml,q⟩
 have hz:=dM;have add:∀{M1:Mp} {p:Addr} {xs:List Str} (f:Int) (nx:DK),qx M M1->oJ M1 p=some (xs.map D.str)->xs.length<=100->(∀x M',qx M M'->nx (.str x) M')->∀r1,M1 r1=none->(oJ (pz M1 r1 (.lst [D.str zz])) p).elim False λi=>(oJ (pz M1 r1 (.lst [D.str zz])) r1).elim False λj=>i.length+j.length<=sizeLine/\∀r2,pz M1 r1 (.lst [D.str zz]) r2=none->(oJ (pz (pz M1 r1 (.lst [D.str zz])) r2 (.lst (i++j))) p).elim False λys=>Jm [.int c,.int f,.int ((ys.length:Nat)+1)] (pz (pz M1 r1 (.lst [D.str zz])) r2 (.lst (i++j))) λy M2=>match y with
  | .int n=>(oJ M2 r2).elim False λzs=>(wj zs n).elim False λd=>nx d M2
  | _=>False:=λ{M1 p xs} f nx s hx lx WZ r1 Xu=>by
  have t1:=qx.new (c:=.lst [D.str zz]) Xu;refine i' (t1.lst hx) (i' pA ⟨by rw[cV];show xs.length+1<=sizeLine;omega,λr2 Y5=>?_⟩);have t2:=qx.new (c:=.lst (xs.map D.str++[D.str zz])) Y5;obtain⟨hp,x,_,ex⟩:=Jn D.str (O1 xs zz) (m:=((xs.map D.str).length:Nat)+1) (by rw[cV,cZ];rfl) c f;rw[dQ]at ex;exact i' ((t1.trans t2).lst hx) ⟨c,f,_,rfl,hp,i' pA (i' ex (WZ x _ (s.trans (t1.trans t2))))⟩
 refine⟨oW rfl,add 16807 _ .refl ho ol λx M1 s1=>⟨oW rfl,add 39373 _ s1 (s1.lst hn) nl λy M2 s2=>?_⟩⟩;refine⟨c,_,_,rfl,by show(0:Int)<(m:Nat)+2;omega,⟨c,_,_,rfl,by show(0:Int)<(m:Nat)+2;omega,?_⟩⟩;generalize qh c 69621 ((m:Nat)+2) - 1=k0;refine⟨oW rfl,oW rfl,oW rfl,oW rfl,oW rfl,oW rfl,oW rfl,λr8 hr8=>⟨oW rfl,oW rfl,oW rfl,oW rfl,oW rfl,λr9 hr9=>?_⟩⟩;have t8:=qx.new (c:=.lst (((K9 x y k0 (qh c 22695477 ((m:Nat)+2) - 1)).take 6).map tR.d)) hr8;have t9:=qx.new (c:=.lst (((K9 x y k0 (qh c 22695477 ((m:Nat)+2) - 1)).drop 6).map tR.d)) hr9;refine i' (t9.lst pA) (i' pA ⟨by show 6+4<=sizeLine;omega,λr10 hr10=>?_⟩);obtain⟨hp,e,he,ee⟩:=Jn tR.d (xs:=K9 x y k0 (qh c 22695477 ((m:Nat)+2) - 1)) (fA _ _) (m:=10) rfl c 1664525;exact⟨c,_,_,rfl,hp,i' pA (i' ee ⟨_,.refl,q _ e (s2.trans (t8.trans (t9.trans (.new hr10)))) (Lk he)⟩)⟩
def MP(G:Gl K mg a):Fq P w K mg base 5 a.bv (MJ a):=by
 refine fq G.bv.toDG rq (λr u=>⟨_,(oY (pG 4 rq (pR (pR (pR (pR (pR (B5 (qV (pY pf)) pb) (B5 (qV (pY pf)) pb)) (B5 (qV (pY pf)) pb)) (B5 (qV (pY pf)) pb)) (qV (qY pf pf pf))) (B5 (qV (pY pf)) pb)))
 (oY (pG 4 rq (pF v4 (pD (qB G) r G.i (qY U1 pb (pN qu rfl G.g qm (pY v4))))))
 (oY (pG 5 rq (pJ (pT pf (qY pf pf pf))))
 (oY (pM (pC u v4 pf)
 (o9 (pG 5 rq (pJ (rK pf pf))))
 pE)
 (oY (pM (pC u v4 pf)
 (o9 (pG 5 rq (pJ (pY pf))))
 pE)
 (oY (pM (W3.b3 (vn (pC u v4 pf) (vn (pC u v4 pf) (vK (pC u v4 pf)))))
 (o9 (pG 5 rq (pJ (pY pf))))
 pE)
 (oY (pM (pC u v4 pf)
 (o9 (pq (pJ (pY pf))))
 pE)
 (oY (pM (pC u (pD (qB G) r G.i (qY U1 pb pb)) pb)
 (o9 (pq (pD (P5 G) r G.bu (pT U1 (qY U2 U3 (pN qu rfl G.g qm (pY (pk v0))))))))
 pE)
 (oY (pG 6 rq rL)
 (oY (pM (pC u v4 pf)
 (o9 (pG 6 rq (pD (KB G) r G.bt (pT v0 (qY U1 v4 v5)))))
 pE)
 (oY (pM (pC u v6 rL)
 (oY (pG 7 rq (pF U2 (pD (qB G) r G.i (qY U1 pb (pN qu rfl G.g qm (pY U2))))))
 (o9 (pG 6 rq (pJ (qY pf v7 (pF U3 (pD (qB G) r G.i (qY U1 pb (pN qu rfl G.g qm (pY U3))))))))))
 pE)
 (o9 (pq v6))))))))))))),?_⟩)
 rintro ds M Q ⟨A,V,l,c,o,n,own,nm,rfl,rd,wf,ha,ho,hn,one,nne,ol,nl,q⟩
 have hz:=dM;refine UP (t:=GX _ _) (λδ M'=>qx M M'/\∃r,oJ M' r=some (Hy.map D.str)/\δ=[some (.ref A.b),some (.int c),some (.ref o),some (.ref n),some (.ref r),none,none,none]) (λnx h=>?_) ?_
 .have YF:∀{N:Mp} {δ:vh} (w0:Str) (m:Int) (nx:DK),qx M N->(0<=m/\m<=10)->(∀r N',qx M N'->qx N N'->oJ N' r=some ((List.replicate m.toNat w0).map D.str)->nx (.ref r) N')->UF (Uc (uY (L3.c3 (.str w0)) xj)) (L3.c3 (.int m)) δ N nx:=λ{N δ} w0 m nx sn hm WZ=>by refine⟨oW rfl,λr1 Xu=>?_⟩;refine i' pA ⟨⟨by omega,by omega,by show 1<=1000;decide⟩,λr2 Y5=>?_⟩;have t:=(qx.new (c:=.lst [D.str w0]) Xu).trans (qx.new (c:=.lst (List.replicate m.toNat [D.str w0]).flatten) Y5);refine WZ r2 _ (sn.trans t) t (pA.trans (eY some ?_));rw[List.map_replicate];exact Dm _ _
  have XX:∀{N:Mp} {p r:Addr} {xs ys:List Str} (nx:DK),qx M N->oJ N p=some (xs.map D.str)->oJ N r=some (ys.map D.str)->xs.length+ys.length<=100->(∀r N',qx M N'->oJ N' r=some ((xs++ys).map D.str)->nx (.ref r) N')->UW .Add (.ref p) (.ref r) N nx:=λ{N p r xs ys} nx sn hx hy hl WZ=>by refine i' hx (i' hy ⟨by rw[cV,cV];omega,λr2 Y5=>?_⟩);refine WZ r2 _ (sn.trans (.new Y5)) (pA.trans (eY some ?_));rw[dQ]
  dsimp only[GX,o3];refine YF "call" 5 _ .refl (by decide) λp1 N1 s1 _ l1=>YF "answer" 5 _ s1 (by decide) λq2 N2 s2 t2 l2=>XX _ s2 (t2.lst l1) l2 (by decide) λp2 N3 s3 l3=>YF "hang" 2 _ s3 (by decide) λq4 N4 s4 t4 l4=>XX _ s4 (t4.lst l3) l4 (by decide) λp5 N5 s5 l5=>YF "hold" 3 _ s5 (by decide) λq6 N6 s6 t6 l6=>XX _ s6 (t6.lst l5) l6 (by decide) λp7 N7 s7 l7=>⟨oW rfl,λr8 hr8=>?_⟩;have t8:=qx.new (c:=.lst ((["back","hand","join"]:List Str).map D.str)) hr8;exact XX (ys:=["back","hand","join"]) _ (s7.trans t8) (t8.lst l7) pA (by decide) λp9 N9 s9 l9=>YF "turn" 3 _ s9 (by decide) λq10 N10 s10 t10 l10=>XX _ s10 (t10.lst l9) l10 (by decide) λp11 N11 s11 l11=>h _ _ ⟨s11,p11,l11,rfl⟩
 rintro δ M1 ⟨s1,r,lr,rfl⟩
 have s1n:=s1.lst hn;have s1o:=s1.lst ho;obtain⟨hp,w0,hw,ew⟩:=uz D.str (show Hy≠[]from fA _ _) c 48271;refine i' lr ⟨c,_,_,rfl,hp,i' lr (i' ew ?_)⟩;obtain⟨Ye,x1,hx1,ex1⟩:=uz D.str one c 16807;obtain⟨WY,x2,hx2,ex2⟩:=uz D.str nne c 39373;have YC:=rd.sub s1;have lc:((A.cs.map λk=>D.ref k.p).length:Int)=(V.calls.length:Nat):=by rw[cV,rd.bd.len]
 clear lr hp ew;have hw:w0="call"\/w0="turn"\/QT w0:=by unfold Hy at hw;simp only[dh,dE,eP]at hw;unfold QT;rcases hw with h|h|h|h|h|h|h|h|h|h|h|h|h|h|h|h|h|h|h|h|h<;>simp[h]
 have WR:∀M' (e:tR),qx M1 M'->e.ng->∃WS,qx WS M'/\Q e.d WS:=λM' e s f=>⟨M',.refl,q M' e (s1.trans s) f⟩;rcases hw with rfl|rfl|hw
 .refine⟨oW rfl,c,_,_,rfl,by decide,qA (c:=qh c 950706376 9==0) (λ_=>oZ YC.bd.at_ (i' rfl (i' YC.bd.ca ?_))) (λ_=>?_)⟩
  .rw[lc];exact⟨c,o,n,own,nm,V.calls.length,rfl,s1o,s1n,ol,nl,rd.k,WR⟩
  exact i' s1o ⟨c,_,_,rfl,Ye,i' s1o (i' ex1 (i' s1n ⟨c,_,_,rfl,WY,i' s1n (i' ex2 ⟨oW rfl,WR M1 (.call x1 x2) .refl trivial⟩)⟩))⟩
 .exact⟨oW rfl,oW rfl,WR M1 .turn .refl trivial⟩
 have lany:IJ [.int c,.ref o,.ref n,.int ((V.calls.length:Nat):Int)] M1 λd M'=>∃WS,qx WS M'/\Q d WS:=⟨c,o,n,own,nm,V.calls.length,rfl,s1o,s1n,ol,nl,rd.k,WR⟩;have hw':=hw;rcases hw with rfl|rfl|rfl|rfl|rfl|rfl
 all_goals
  first
   | refine⟨oW rfl,oW rfl,c,_,_,rfl,by decide,qA (c:=qh c 950706376 9==0) (λ_=>oZ YC.bd.at_ (i' rfl (i' YC.bd.ca ?_))) (λ_=>⟨A,V,l,c,_,rfl,YC,wf,ha,hw',λM' s=>⟨?_,λe f=>?_⟩⟩)⟩
   | refine⟨oW rfl,c,_,_,rfl,by decide,qA (c:=qh c 950706376 9==0) (λ_=>oZ YC.bd.at_ (i' rfl (i' YC.bd.ca ?_))) (λ_=>⟨A,V,l,c,_,rfl,YC,wf,ha,hw',λM' s=>⟨?_,λe f=>?_⟩⟩)⟩
  .rw[lc];exact lany
  .exact i' (s.lst s1o) ⟨c,_,_,rfl,Ye,i' (s.lst s1o) (i' ex1 (i' (s.lst s1n) ⟨c,_,_,rfl,WY,i' (s.lst s1n) (i' ex2 ⟨oW rfl,WR M' (.call x1 x2) s trivial⟩)⟩))⟩
  .cases e with
   | call y z=>exact WR M' (.call y z) s f
   | num v y ns=>exact WR M' (.num v y ns) s f
   | turn=>exact WR M' .turn s f
   | sw b i=>exact WR M' (.sw b i) s f
def LP(a:Ad):qX:=λds M Q=>CC λr1 r2 r3 (l:pB)=>ds=[.tup [.ref r1,.ref r2,.ref r3]]/\oJ M r1=some (l.mG.map qy)/\oJ M r2=some (l.groups.map qD)/\oJ M r3=some (l.mE.map uE)/\qW l/\∀p M',qx M M'->sP a M' p l->Q (.ref p) M'
def MO:qX:=λds M Q=>∃ns,ds=[.rl (List.map D.int ns)]/\Q (.int (qh (cell ns 0) 1664525 24)) M
def LY(a:Ad):qX:=λds M Q=>FJ λA V l ns k=>ds=[.ref A.b,.rl (List.map D.int ns),.int k]/\Rd a M A V l/\WF l V/\(∀k∈V.calls,k.at_.length<=100)/\(0<=k/\k<=1000)/\∀M' (e:tR),qx M M'->e.ng->Q e.d M'
structure AF(a:Ad)(M0 M:Mp)(A:tW)(V:qd)(l:pB)(p:Addr)(h:Int)(F:List Addr)(c n:Nat):Prop where
 cu:tZ a M0 M A.b A V l c n
 wf:WF l V
 oks:C7 (V0 p h l F) V.log
 run:V=qk (V0 p h l F) V.log
 ps:V.ps.length<=3
def J8(a:Ad):qX:=λds M Q=>FJ λns r1 r2 r3 (l:pB)=>ds=[.rl (List.map D.int ns),.tup [.ref r1,.ref r2,.ref r3]]/\oJ M r1=some (l.mG.map qy)/\oJ M r2=some (l.groups.map qD)/\oJ M r3=some (l.mE.map uE)/\qW l/\∀M0 M' A V p,qx M M0->AF a M0 M' A V l p (qh (cell ns 0) 1664525 24) [] 64 200000->Q (.ref A.b) M'
def AF.after{a:Ad}{M0 M M':Mp}{A A':tW}{V:qd}{l:pB}{p:Addr}{h:Int}{F:List Addr}{c n:Nat}{e:tR}(g:AF a M0 M A V l p h F c n)(f:e.ng)(hr:w9 l V e=none){c' n':Nat}(cu:tZ a M0 M' A.b A' (qk V (rO l V e)) l c' n'):AF a M0 M' A' (qk V (rO l V e)) l p h F c' n':=by
 have ok:=SV g.cu.ok g.wf (λk hk=>(g.cu.sz.cs k hk).2.2) f hr;have Zr:tZ a M0 M' A'.b A' (qk V (rO l V e)) l c' n':=by rw[cu.b];exact cu
 refine⟨Zr,Qs g.cu.ok g.wf f hr,?_,?_,?_⟩
 .rw[yV];exact wn g.oks (by rw[<-g.run];exact ok)
 .rw[yV,rc,<-g.run]
 .rw[Qt g.cu.ok g.wf f hr];exact g.ps
def AF.sub{a:Ad}{M0 M M':Mp}{A:tW}{V:qd}{l:pB}{p:Addr}{h:Int}{F:List Addr}{c n:Nat}(g:AF a M0 M A V l p h F c n)(s:qx M M'):AF a M0 M' A V l p h F c n:=⟨g.cu.sub s,g.wf,g.oks,g.run,g.ps⟩
def AF.mono{a:Ad}{M0 M:Mp}{A:tW}{V:qd}{l:pB}{p:Addr}{h:Int}{F:List Addr}{c n c' n':Nat}(g:AF a M0 M A V l p h F c n)(hc:c<=c')(hn:n<=n'):AF a M0 M A V l p h F c' n':=⟨g.cu.mono hc hn,g.wf,g.oks,g.run,g.ps⟩
def J2{n:Nat}{pre post:List D}{d:D}(e:pre++d::post=(List.range n).map λi=>D.int (1+(i:Nat))):d=.int (1+(pre.length:Nat))/\pre.length<n:=by
 have h:((List.range n).map λi=>D.int (1+(i:Nat)))[pre.length]?=some d:=by rw[<-e];simp
 have hl:pre.length<n:=by
  have:=(cX.mp h).1
  simpa using this
 rw[dD,iW hl]at h;exact⟨(dn h).symm,hl⟩
def FW(G:Gl K mg a):Fq P w K mg base 9 a.ai (LP a):=by
 refine fq G.ai.toDG GI (λr u=>⟨_,(o9 (pq (uH (Of G) r G.h G.ca G.al.toDG (qY (pP rZ rfl G.q rN (pY (pF v0 pb))) (pP rZ rfl G.q rN (pY (pF v0 pb))) (pP rZ rfl G.q rN (pY (pF v0 pb))))))),?_⟩)
 rintro ds M Q ⟨r1,r2,r3,l,rfl,h1,h2,h3,ok,q⟩
 refine i' h1 λp1 Ye=>?_;have t1:=qx.new (c:=.lst (l.mG.map qy)) Ye;have l1:=@pA M p1 (l.mG.map qy);generalize pz M p1 (.lst (l.mG.map qy))=M1 at t1 l1 ⊢;refine i' (t1.lst h2) λp2 WY=>?_;have t2:=qx.new (c:=.lst (l.groups.map qD)) WY;have l2:=@pA M1 p2 (l.groups.map qD);generalize pz M1 p2 (.lst (l.groups.map qD))=M2 at t2 l2 ⊢;refine i' ((t1.trans t2).lst h3) λp3 hp3=>?_;have t3:=qx.new (c:=.lst (l.mE.map uE)) hp3;have l3:=@pA M2 p3 (l.mE.map uE);generalize pz M2 p3 (.lst (l.mE.map uE))=M3 at t3 l3 ⊢;refine λp hp=>?_;have t4:=qx.new (c:=.ins a.h []) hp;refine⟨p,p1,p2,p3,l,rfl,pL,(t2.trans (t3.trans t4)).lst l1,(t3.trans t4).lst l2,t4.lst l3,ok,λM5 kp pa _=>⟨rfl,_,.refl,q p M5 ?_ pa⟩⟩;exact t1.trans (t2.trans (t3.trans λx c e=>kp x c (λz=>by rw[z,hp]at e;cases e) (t4 x c e)))
def F7(G:Gl K mg a):Fq P w K mg base 2 a.aj MO:=by
 refine fq G.aj.toDG Ge (λr u=>⟨_,(o9 (pq (pD (qB G) r G.i (qY (pD (IM G) r G.M (rK v0 pb)) pb pb)))),?_⟩)
 rintro ds M Q ⟨ns,rfl,q⟩
 exact⟨ns,0,rfl,_,_,_,rfl,by decide,M,.refl,q⟩
def Lz(G:Gl K mg a):Fq P w K mg base 6 a.bx (LY a):=by
 refine fq G.bx.toDG GL (λr u=>⟨_,(o9 (pq (pD (MP G) r G.bv (pT v0 (qY (pR (pD (IM G) r G.M (rK U1 U2)) (pR (pR pb U2) U2)) (vC (pk v0) G.h.toCls G.N (sv G) r) (vC (pk v0) G.h.toCls G.am (yi G) r)))))),?_⟩)
 rintro ds M Q ⟨A,V,l,ns,k,rfl,rd,wf,ha,hk,q⟩
 obtain⟨ph,gr,ws,Yf,pr,gd,rs,i1,_⟩:=rd.pl;have p1:=rd.ok.p1;have p8:=rd.ok.p8;have g3:=rd.ok.g3;have pl:l.pn.length=l.mG.length:=cV ..;have nl:l.nm.length=l.mG.length+l.groups.length:=by unfold pB.nm pB.pn pB.gn;rw[cZ,cV,cV]
 refine⟨ns,k,rfl,?_⟩;refine⟨.inl ⟨by decide,by decide⟩,.inr ⟨by omega,by omega⟩,?_⟩;refine oZ rd.bd.at_ (i' rfl (oZ i1 ⟨rfl,_,⟨rfl,rfl⟩,V.p,l,rfl,rd.pl,by omega,λq1 XH=>?_⟩));have t1:=qx.new (c:=.lst (l.pn.map D.str)) XH;have l1:=@pA M q1 (l.pn.map D.str);show zU (pz M q1 (.lst (l.pn.map D.str)) A.b) _;generalize pz M q1 (.lst (l.pn.map D.str))=M1 at t1 l1 ⊢;refine oZ (t1 _ _ rd.bd.at_) (i' rfl (oZ (t1 _ _ i1) ⟨rfl,_,⟨rfl,rfl⟩,V.p,l,rfl,rd.pl.sub t1,by omega,by omega,λq2 YB=>?_⟩));have t2:=qx.new (c:=.lst (l.nm.map D.str)) YB;exact⟨A,V,l,_,q1,q2,l.pn,l.nm,rfl,rd.sub (t1.trans t2),wf,ha,t2.lst l1,pA,λz=>by rw[z]at pl;simp only[dN]at pl;omega,λz=>by rw[z]at nl;simp only[dN]at nl;omega,by omega,by omega,λM' e s f=>⟨M',.refl,q M' e (t1.trans (t2.trans s)) f⟩⟩
def JT(G:Gl K mg a):Fq P w K mg base 16 a.bz (J8 a):=by
 refine fq G.bz.toDG vP (λr u=>⟨_,(oY (pG 2 vP (uH (FU G) r G.c G.bX G.S.toDG (rK (pD (FW G) r G.ai (pY U1)) (pD (F7 G) r G.aj (pY v0)))))
 (oY (uI ft rfl (Kz rfl G.ab (rK pb (pN (Md rfl) rfl G.b2 LB (rK (pN qu rfl G.g qm (pY v0)) pb)))) (sF 3 vP)
 (o9 (pI (pD (P3 G) r G.bw (rK U2 (pD (Lz G) r G.bx (qY U2 v0 U3)))))))
 (o9 (pq U2)))),?_⟩)
 .rintro ds M Q ⟨ns,r1,r2,r3,l,rfl,h1,h2,h3,ok,q⟩
  have hz:=dM;refine⟨r1,r2,r3,l,rfl,h1,h2,h3,ok,λp M0 s0 pa=>⟨ns,rfl,λb hb=>?_⟩⟩;have t1:=qx.new (c:=.ins a.c []) hb;refine⟨b,p,_,[],l,rfl,pL,pa.sub t1,ok,λz=>?_,(λx hx=>by cases hx),λM1 A eb kp fr bd=>⟨rfl,?_⟩⟩
  .obtain⟨ph,gr,ws,Yf,pr,gd,rs,i1,_⟩:=pa;rw[z,hb]at i1;cases i1
  have s1:qx M0 M1:=λx c e=>kp x c (λz=>by rw[z,hb]at e;cases e) (t1 x c e);have oS:AF a M0 M1 A (V0 p (qh (cell ns 0) 1664525 24) l []) l p (qh (cell ns 0) 1664525 24) [] 1 3:=⟨⟨bd,pa,s1,λx hx=>?_,rfl,⟨eG _,eG _,eG _,z9 ok,λk hk=>by cases hk⟩,ok,cV ..⟩,VS ok,trivial,rfl,z9 ok⟩
  rotate_left
  .rcases fr x hx with z|z
   .rw[z];exact hb
   .exact t1.none z
  refine⟨rfl,?_⟩;generalize hN:(if (63:Int)<((ns.map D.int).length:Nat)then(63:Int)else((ns.map D.int).length:Nat))=N;have hN0:0<=N/\N<=63:=by rw[<-hN];split<;>omega
  subst eb;refine⟨⟨by decide,by decide,by omega,by omega⟩,?_⟩;refine wq ((List.range (N - 1).toNat).map λn=>D.int (1+(n:Nat))) (λpre δ M'=>(∃A' V',A'.b=A.b/\AF a M0 M' A' V' l p (qh (cell ns 0) 1664525 24) [] (1+pre.length) (3+2200*pre.length))/\∃y,δ=[some (.rl (ns.map D.int)),some (.tup [.ref r1,.ref r2,.ref r3]),some (.ref A.b),y]) (λ_ _ _ _=>trivial) _ [] _ _ rfl ⟨⟨A,_,rfl,oS⟩,none,rfl⟩ ?_ ?_
  .rintro pre d post e δ M' ⟨⟨A',V',eb',g⟩,y,rfl⟩ nx WZ
   obtain⟨rfl,W1⟩:=J2 e;have W1:pre.length<62:=by omega
   rw[cZ,dP]at WZ;rw[<-eb']at WZ ⊢;refine⟨A',V',l,ns,_,rfl,g.cu.rd (by omega) g.wf,g.wf,λk hk=>(g.cu.sz.cs k hk).2.1,⟨by omega,by omega⟩,λM2 e s f=>?_⟩;refine⟨M0,A'.b,A',V',l,_,_,e,rfl,g.cu.sub s,by omega,by omega,g.wf,f,λhr M3 A3 r c3 XC YO=>WZ _ _ ⟨⟨A3,_,c3.b,((g.after f hr c3).mono (by omega) (by omega)).sub (.new YO)⟩,_,rfl⟩,λ_=>WZ _ _ ⟨⟨A',V',rfl,(g.sub s).mono (by omega) (by omega)⟩,_,rfl⟩⟩
  .rintro δ M' ⟨⟨A',V',eb',g⟩,y,rfl⟩
   rw[cV,eE]at g;rw[<-eb'];exact⟨M',.refl,q M0 M' A' V' p s0 (g.mono (by omega) (by omega))⟩
seal L3.E3 L3.B3 L3.A3 L3.S3 L3.G9
def L9:qX:=λds M Q=>∃ns:List Int,ds=[.rl (ns.map D.int)]/\ns.length<=63/\Q (.bl true) M
theorem IQ:∀(n:Nat) (d:D),so n d=true->so (n+1) d=true
 | 0,d,h=>by
  cases d with
  | tup ds=>cases h
  | ref _=>cases h
  | ty _=>cases h
  | rl _=>cases h
  | _=>rfl
 | n+1,d,h=>by
  cases d with
  | tup ds=>exact eF.mpr λd hd=>IQ n d (eF.mp (show ds.all (so n)=true from h) d hd)
  | ref _=>cases h
  | ty _=>cases h
  | rl _=>cases h
  | _=>rfl
def JQ{d:D}(h:so 6 d=true):so 7 d=true:=IQ 6 d h
def Rt{M:Mp}{x:Addr}{ds:List D}(h:oJ M x=some ds):U6 M (.ref x)=some (.type "list"):=by show Fu (M x)=_;rw[pW h];rfl
theorem LC:∀(es:List Ev) (V:qd),(qk V es).fo=V.fo
 | [],_=>rfl
 | e::r,V=>(LC r _).trans (O8 V e)
def QW(G:Gl K mg a):Fq P w K mg base 17 a.ak L9:=by
 refine fq G.ak.toDG yE (λr u=>⟨_,(oY (pG 1 yE (pD (Le G) r G.bq (rK v0 pb)))
 (oY (pG 2 yE (pD (JT G) r G.bz (rK v0 U1)))
 (oY (pG 3 yE (pP rZ rfl G.q rN (pY (pk U2))))
 (oY (pG 4 yE (pP rZ rfl G.q rN (pY (pk U2))))
 (oY (pG 5 yE (pD (wG G) r G.L (pY U2)))
 (oY (pG 6 yE (pD (GA G) r G.aU (qY (pD (FW G) r G.ai (pY U1)) (pD (F7 G) r G.aj (pY v0)) U3)))
 (oY (pM (W3.b3 (vn (wC (uM (pN Dk rfl G.b1 yj (rK v6 (Oq rfl G.c.mg))))) (vK (pC u (pD (wG G) r G.L (pY v6)) v5))))
 (o9 (pq xk))
 pE)
 (oY (pM (W3.b3 (vn (pC u (pk v6) (pk U2)) (vn (wC (uM (pN Dk rfl G.b1 yj (rK (pk v6) (Tz rfl G.q rN))))) (vK (pC u (pk v6) v4)))))
 (o9 (pq xk))
 pE)
 (oY (pI (BQ (Js G) (r.mono (by first|decide|omega)) rfl G.t.mg G.t.toDG.kp G.t.b EK Sl (rK v6 (pJ (pY pf)))))
 (oY (pM (W3.b3 (vn (pC u U3 v4) (vn (pC u (pk U2) v4) (vK (pC u (pD (wG G) r G.L (pY U2)) v5)))))
 (o9 (pq xk))
 pE)
 (oY (pI (BQ (Js G) (r.mono (by first|decide|omega)) rfl G.t.mg G.t.toDG.kp G.t.b EK Sl (rK U2 (pJ (pY pf)))))
 (oY (pI (BQ (Js G) (r.mono (by first|decide|omega)) rfl G.t.mg G.t.toDG.kp G.t.b EK Sl (rK U2 (pJ (pY pf)))))
 (o9 (pq (sS (qc u (pF (pD (wG G) r G.L (pY v6)) pb) (pR (pF v5 pb) pb)) (sH (qc u (r6 (pk v6) sT (sU (pN qu rfl G.g qm (pY v4)))) v4))))))))))))))))),?_⟩)
 rintro ds M Q ⟨ns,rfl,hns,q⟩
 have hz:=dM;have ok:qW (BY ns 4):=PH (by decide) (by decide);refine⟨ns,4,rfl,by decide,by decide,λr1 r2 r3 M1 s1 h1 h2 h3=>?_⟩;generalize BY ns 4=l at h1 h2 h3 ok;refine⟨ns,r1,r2,r3,l,rfl,h1,h2,h3,ok,λM0 M2 A V p s2 g=>?_⟩;have s02:=s2.trans g.cu.s0;refine oZ g.cu.at_ (i' rfl (i' g.cu.bd.lo λr4 Zt=>?_));have t4:=qx.new (c:=.lst (V.log.map Ev.d)) Zt;have l4:=@pA M2 r4 (V.log.map Ev.d);have g4:=g.sub t4;show tQ _ _ _ _ (pz M2 r4 (.lst (V.log.map Ev.d)));generalize pz M2 r4 (.lst (V.log.map Ev.d))=M3 at t4 l4 g4 ⊢;refine oZ g4.cu.at_ (i' rfl (i' g4.cu.bd.lo λr5 hr5=>?_));have t5:=qx.new (c:=.lst (V.log.map Ev.d)) hr5;have l5:=@pA M3 r5 (V.log.map Ev.d);have g5:=g4.sub t5;have nf5:=g4.cu.bd.nQ hr5;have l4:=t5.lst l4;have s15:=s02.trans (t4.trans t5);show tQ _ _ _ _ (pz M3 r5 (.lst (V.log.map Ev.d)));generalize pz M3 r5 (.lst (V.log.map Ev.d))=M4 at t5 l4 l5 g5 s15 ⊢;clear t4 t5 g4 Zt hr5 s02;have cc:V.calls.length<=64:=g5.cu.sz.ca;refine⟨A,V,rfl,g5.cu.bd,by omega,g5.ps,?_⟩;refine⟨r1,r2,r3,l,rfl,s15.lst h1,s15.lst h2,s15.lst h3,ok,λp2 M5 s5 pa=>⟨ns,rfl,?_⟩⟩;have g6:=g5.sub s5;have ll:V.log.length<=200000:=g6.cu.sz.lo;generalize qh (cell ns 0) 1664525 24=hh at g6 ⊢;have e2:qk (V0 p2 hh l A.foot) V.log=V.at_ p2 A.foot:=(Iu p2 A.foot V.log (V0 p hh l [])).trans (by rw[<-g6.run]);refine⟨p2,hh,r4,A.foot,l,V.log,rfl,pa,ok,g6.cu.bd.dom.2,s5.lst l4,by omega,LF p2 A.foot V.log (V0 p hh l []) g6.oks,λM6 A2 c6=>?_⟩;rw[e2]at c6;have c6:tZ a M5 M6 A2.b A2 (V.at_ p2 A.foot) l 64 200010:=⟨c6.bd,c6.oS,c6.s0,c6.fr,c6.b,⟨dX c6.sz.lo (by omega),dX c6.sz.le (by omega),cc,dX c6.sz.ps (by omega),λk hk=>⟨dX (c6.sz.cs k hk).1 (by omega),(c6.sz.cs k hk).2⟩⟩,c6.ok,c6.on⟩;have s46:=s5.trans c6.s0;have g7:=g5.sub s46;have ep:HP (V.at_ p2 A.foot)=HP V:=rfl;have eqp:∀N:Mp,yc N 9 (HP V) (HP V)=some true:=λN=>zw 8 _ (MT V);have wf2:WF l (V.at_ p2 A.foot):=⟨g5.wf.ok,g5.wf.un,g5.wf.ln,g5.wf.wt,g5.wf.nx⟩;have ty:U6 M6 (.ref A2.b)=some (.ref a.c):=by show Fu (M6 A2.b)=_;rw[c6.at_];rfl
 refine i' ty ⟨λC z=>(by cases z;exact G.b9),i' G.cD (Cm ?_)⟩;refine⟨A2,V.at_ p2 A.foot,rfl,c6.bd,dX cc (by decide),g5.ps,?_⟩;rw[ep];refine i' rfl (i' (eqp M6) (Cm ?_));have el:yc M6 9 (.ref A2.le) (.ref A.le)=some true:=DF c6.bd.le g7.cu.bd.le λd hd=>by obtain⟨v,_,rfl⟩:=dF.mp hd;exact zw 7 _ rfl
 have Y9:∀{N:Mp} {x y:Addr},oJ N x=some (V.log.map Ev.d)->oJ N y=some (V.log.map Ev.d)->yc N 9 (.ref x) (.ref y)=some true:=λh1 h2=>DF h1 h2 λd hd=>by obtain⟨v,_,rfl⟩:=dF.mp hd;exact zw 7 _ (JQ (Pq v))
 refine oZ c6.at_ (i' rfl (oZ g7.cu.at_ (i' rfl (i' el (Cm ?_)))));refine oZ c6.at_ (i' rfl (i' (Rt c6.bd.lo) ⟨λC z=>(by cases z),i' G.cE (Cm ?_)⟩));refine oZ c6.at_ (i' rfl (i' rfl (i' (Y9 c6.bd.lo (s46.lst l5)) (Cm ?_))));refine⟨oW rfl,M5,A2.b,A2,_,l,64,200010,.turn,rfl,c6,by decide,by decide,wf2,trivial,λ_ M7 A3 r7 c7 st7 hr7=>?_,λh=>absurd rfl h⟩;have t7:=qx.new (c:=.lst ((rO l (V.at_ p2 A.foot) .turn).map Ev.d)) hr7;have c7:=c7.sub t7;have ht:(qk (V.at_ p2 A.foot) (rO l (V.at_ p2 A.foot) .turn)).t=V.t+1:=SL;have hl:(qk (V.at_ p2 A.foot) (rO l (V.at_ p2 A.foot) .turn)).log=V.log++rO l (V.at_ p2 A.foot) .turn:=yV _ _;have hf:(qk (V.at_ p2 A.foot) (rO l (V.at_ p2 A.foot) .turn)).fo=A.foot:=LC _ _;have Y3:(qk (V.at_ p2 A.foot) (rO l (V.at_ p2 A.foot) .turn)).ps.length<=3:=by rw[Qt (e:=.turn) ok wf2 trivial rfl];exact g5.ps
 show tQ _ _ _ _ (pz M7 r7 (.lst ((rO l (V.at_ p2 A.foot) .turn).map Ev.d)));generalize pz M7 r7 (.lst ((rO l (V.at_ p2 A.foot) .turn).map Ev.d))=M8 at c7 ⊢;generalize qk (V.at_ p2 A.foot) (rO l (V.at_ p2 A.foot) .turn)=V3 at c7 ht hl hf Y3;generalize rO l (V.at_ p2 A.foot) .turn=es at hl;have s58:=c7.s0;have g8:=g6.sub s58;have s48:=s5.trans s58;have l5':=s48.lst l5;refine i' (Y9 (s48.lst l4) l5') (Cm ?_);refine oZ g8.cu.at_ (i' rfl (i' rfl (i' (Y9 g8.cu.bd.lo l5') (Cm ?_))));refine⟨A,V,rfl,g8.cu.bd,by omega,g8.ps,i' rfl (i' (eqp M8) (Cm ?_))⟩;have cc3:V3.calls.length<=65:=c7.sz.ca;refine⟨oW rfl,M0,A.b,A,V,l,64,200000,.turn,rfl,g8.cu,by decide,by decide,g8.wf,trivial,λ_ M9 A9 r9 c9 st9 hr9=>?_,λh=>absurd rfl h⟩;have t9:=qx.new (c:=.lst ((rO l V .turn).map Ev.d)) hr9;have c9:=c9.sub t9;have wf9:=Qs ok g8.wf (e:=.turn) trivial rfl;have st9:=st9.trans (.sub t9);show tQ _ _ _ _ (pz M9 r9 (.lst ((rO l V .turn).map Ev.d)));generalize pz M9 r9 (.lst ((rO l V .turn).map Ev.d))=M10 at c9 st9 ⊢;generalize qk V (rO l V .turn)=V9 at c9 wf9;refine⟨oW rfl,M0,A.b,A9,V9,l,_,_,.turn,rfl,c9,by decide,by decide,wf9,trivial,λ_ M11 A11 r11 c11 st11 hr11=>?_,λh=>absurd rfl h⟩;have t11:=qx.new (c:=.lst ((rO l V9 .turn).map Ev.d)) hr11;have st:=st9.trans (st11.trans (.sub t11));have s012:=c11.s0.trans t11;generalize pz M11 r11 (.lst ((rO l V9 .turn).map Ev.d))=M12 at st s012 ⊢;have ZY:pH a M12 A3 V3:=c7.bd.frame st (λx hx z=>?_) (λx hx=>.inl (by rw[hf];exact hx))
 rotate_left
 .obtain⟨c,e⟩:=g6.cu.bd.dom.2 x hx;have:=c7.fr x z;rw[e]at this;cases this
 have lk:oJ M12 r5=some (V.log.map Ev.d):=rT (st.1 r5 _ nf5 (pW l5'));refine⟨A3,V3,by rw[c7.b],ZY,by omega,Y3,?_⟩;unfold HP;refine Ac (c:=V3.t==V.t+1) (by rw[ht];exact fz _) ?_;have ZX:L3.uD (V3.log.map Ev.d) none (some (((V.log.map Ev.d).length:Nat):Int))=V.log.map Ev.d:=by rw[hl,Im,dQ,List.take_left]
 refine oZ (c7.b ▸ ZY.at_) (i' rfl ?_);refine i' lk (i' ZY.lo λr12 hr12=>?_);rw[ZX];exact i' rfl (i' (Y9 pA ((qx.new hr12).lst lk)) ⟨M,s1.trans (s2.trans (s012.trans (.new hr12))),q⟩)
end Z
structure PySem.W.Fast:Prop where(tw7574231893347643411 tw13751261000639907448 tw1228277563600971754 tw9175317484967175733 tw5671419408848963376 tw7765228949645599900 tw14936759936427589683 tw2038743118162594692 tw4884389244725437983 tw960375614696155604 tw9659214696392698555 tw1668339363976221185 tw946261779387822768 tw15134531944567804475 tw716466471869799081 tw137200704821754015 tw15911416114115368978 tw16546247441362597243 tw9110759013004452842 tw9334445173572414971 tw11860367487070126436 tw14042085335306490350 tw4063747727496241424 tw16912345964102837964 tw3521191514336024454 tw11420009026016881732 tw4186776627337219647 tw11267718935288989649 tw16012112705332215176 tw7960223157694287661 tw7032911713004203917 tw13134293924033022220 tw16767553775067294090 tw14480809210471877257 tw4537448922246801270 tw7965942941353775032 tw14750432908173267397 tw14936844378751008999 tw7770059415193690953 tw8582443188437254400 tw2631994167961689505 tw6091817323247268233 tw1734577139289870013 tw9057413268154056510 tw16386480772739085041 tw13067305908946465036 tw10429390832080554239 tw12482159256482990441 tw8246194871239607260 tw15932312345091104405 tw10508823551785047479 tw9298852491281321954 tw2885969727296553316 tw9223486111765639062 tw11708890807554749077 tw12967831993406494797 tw17911871352978053271 tw8259802007047692011 tw6401242704066153514 tw8392434859458845941 tw16721628326927377517 tw14415613203389529397 tw14986158311539272079 tw2650273489948854287 tw8497697502976999324 tw17190148910953815606 tw16260575938548088975 tw9007378284617399161 tw14498953190711582186 tw16906648287996999494 tw12501755961002531461 tw7777803762479738578 tw9694079958032953946 tw16345412648266406999 tw3110220458228959680 tw991609487655445846 tw7337834640945883543 tw18289806420178520204 tw13730577221690504657 tw4524914783254762165 tw9617335386613064467 tw14892645326319410518 tw7683688860071557313 tw16401480629000517428 tw4652089996576807121 tw1560551540473926459 tw7565098366662482970 tw7324980452180000276 tw17683461300412547291 tw8995775818156723829 tw15425278111479444200 tw3680838344548121334 tw16313060245287915226 tw13288808118517043902 tw17559784992951445068 tw8202443412409339034 tw18047149268484069995 tw1240953242164094994 tw11659464241217031163 tw2158956778415949919 tw17393004053696982808 tw12125257484836562188 tw18217032423234183691 tw10196692008660686389 tw1664106160280982382 tw17861839426567681844 tw16260795568183382292 tw11017484465797105529 tw15010394977090512409 tw5073807049444979628 tw17052114133751941659 tw12973443031583309815 tw16456927958711942629 tw1783248863018675618 tw17211557361598257888 tw4816361091855626285 tw14602413560026998971 tw15532678489313833351 tw2937072773864981804 tw8726048217907929301 tw15374072588458808938 tw11889031437476114373 tw2383633549552131533 tw1949610661764604214 tw4923057370751175623 tw5952189694406272150 tw16102496361281429843 tw12539355294403416777 tw2987824628139369202 tw6850190986853529760 tw10053282740850353269 tw5351935000017521119 tw533310529864338297 tw9452986148358668517 tw10009682232503456418 tw12386067791121813684 tw1826305779325702007 tw17952642331188723649 tw12113303036809672481 tw1799399633426862025 tw13768739371204257094 tw3340963450008717946 tw3558640501639540699 tw3169276393196062942 tw13179113147781838641 tw10744852215134055326 tw9165732197634334121 tw4071727066658544226 tw8428649995038449419 tw15014169062981619300 tw2552938940206922654 tw3218584316392926941 tw8218043867097854118 tw1647768457673426698 tw13525198178804135726 tw12810426856013216077 tw8417752394936498259 tw2317764399818643653 tw16288534393124915129 tw3482066971123307224 tw9795985564489663003 tw10614008670754874047 tw11200584742967947074 tw5505059118603580833 tw12928493183766007303 tw5780409704286057157 tw18071784042528053587 tw14190566529958252788 tw10400399753741675757 tw12922155115918397585 tw8993699016691932236 tw10211090647023816612 tw63923724196487038 tw4655956800802044572 tw16949059589871702451 tw4704724800667699228 tw6717682589580850295 tw5115158491733515195 tw2219068678252970203 tw6558351129165484306 tw4205034073501432202 tw15297459629173898421 tw1418061251366744911 tw4417552492699726388 tw544632083002852559 tw10935625699265609241 tw6806930494093349354 tw11691148185118536426 tw8134689611129869302 tw15246930847347989638 tw9491987201634980124 tw5585301845573088760 tw987744143668093318 tw314350760365114591 tw10018792335959098271 tw13227629570252432991 tw8802827395975609294 tw1218256147647166666 tw15460954816501969708 tw4596083266231117794 tw2693603562210056753 tw8844943862055093492 tw3073241343135655868 tw13952566605978119111 tw15328116764470896570 tw2028788303419576404 tw12076395433284689258 tw14700445493717315917 tw2601655459778502230 tw10578818304287304215 tw11708593953844187115 tw9535844916680673927 tw5571165552135746686 tw13354797945593039149 tw12084449918208706196 tw2069854535880211380 tw3204152981342841382 tw12716871948566411817 tw4166436641772398555 tw9205786379338714699 tw1571624751705622718 tw15419878132570997961 tw1300760623027958612 tw15500362516899605212 tw18231373919352520507 tw11386622411593556305 tw9829732101674533314 tw8991129367429857308 tw2630447751570400798 tw12683392834815892149 tw2363727651225844767 tw11619129862530080189 tw7790297462207861226 tw7481926110723434911 tw5681034790433919249 tw929669523096281023 tw13608312105314190173 tw16921721618813683031 tw11402660163814991563 tw17905195521665263172 tw6489704774241674089 tw14855864118315967854 tw6787460808720407425 tw6652373061312142891 tw11877786130699280329 tw8546990434603640057 tw4574307649910663995 tw13217246229890147491 tw12444795095053498245 tw2009872613603892621 tw9962937577204658060 tw14076898359297016048 tw15994288187063500115 tw13149977301757324377 tw15326554217353779882 tw16082054650739648860 tw8545208502778760634 tw11491121857866953854 tw2201134271070646166 tw6229169658044913731 tw15598316996778826288 tw7340958336690198225 tw8043951336228619081 tw2167141911012564499 tw11790810860808811982 tw3980001712373016029 tw425982472327520617 tw11664568994917892582 tw8306713041892449212 tw18108120539651255029 tw2672803600116378155 tw13036144297999431378 tw16220926846361619504 tw16025841182625318743 tw876970252911001536 tw8882780959905370092 tw11293492698859118527 tw18221368816983530160 tw11653122739654976960 tw13523267241085629711 tw11302651217332267601 tw14865152801288907033 tw17429403002834073022 tw9965866749446751877 tw5321377153021981314 tw223111750570410628 tw1045129053418773830 tw16360489813856326259 tw957387408167050549 tw6532637293770234499 tw13596885919882171090 tw11140272658146573202 tw12540308578267157385 tw15816050029691224263 tw9416684275614566009 tw16324652929179010947 tw5766455724376714594 tw8901195215981088742 tw13708192164301721044 tw9032278934274193017 tw7855630732372871439 tw2027742339029761346 tw14333532099628923230 tw11456673465287471679 tw12865917507082343560 tw1345751371704500237 tw10017970800662812407 tw17907609858832147791 tw13592495289388882581 tw12486196208663028226 tw4639567212822452204 tw5532092387621716576 tw11175145598142097595 tw4198000513077050296 tw4420873756519943435 tw12806565616865927490 tw6761913848340849850 tw10893327104636786241 tw8505755946537497598 tw13491828505978659205 tw15939477845594239875 tw14079109580620078858 tw6501394077819603434 tw4346319562208195150 tw3143171683160369834 tw8300079108739648271 tw7724083432959975025 tw16660998692170149033 tw16748998311835219179 tw145551657799878522 tw11625444815352933300 tw14426439300342499490 tw70326994525606706 tw8723537668612091658 tw1443786436351149871 tw13591841542494066854 tw17611849115504913841 tw10495521029630587069 tw13371770576140427733 tw2535794076257886293 tw6696264707641627335 tw661361086284080084 tw5353192165504278006 tw17458463153170586671 tw6595125516520388742 tw3043041838594381061 tw12326230577467297775 tw3806977747612775864 tw18121797502646685508 tw2772180508703810107 tw4281876991027854539 tw9853339065309546860 tw4575158286712484354 tw8676567900723169204 tw14154590597608992726 tw10266846712536154420 tw528344715495059613 tw4669612287456484106 tw12736325271164885054 tw1401337762830383765 tw3127953956322328643 tw5864117347195662131 tw17002065140061779977 tw4251317825165362394 tw1087108973905074077 tw8787911826087142123 tw13121295593195083107 tw811019997264048404 tw3859816676769562153 tw7008507852131311941 tw8568744992419984088 tw3225453072530808152 tw17899048724306962926 tw3971260769656799744 tw15884693359111419915 tw13061803461737307663 tw12635647143420012810 tw9600849467494364180 tw11773638190251256761 tw15377580344236697019 tw14443071900598520945 tw17519607417642086414 tw9703416649597953824 tw1887775067670738814 tw14834476886483581749 tw16331597689981281990 tw7189484986563591107 tw62790861037313997 tw6643365124915979248 tw14810508516010185224 tw4590685478881387774 tw7854122765756664 tw16170810534322979205 tw101955926471316773 tw14597300778776016376 tw13843406898292575785 tw6039276724395454106 tw3886595734329959424 tw4662169151222725235 tw16444488389642135317 tw17931374045351655179 tw1955899041054338199 tw15760256892558291328 tw12733352021057599331 tw8337821546172710777 tw14146362061838448870 tw3929129695943483510 tw9722291007529451479 tw12981632893876731174 tw8076333866957558349 tw7129177810144957746 tw449114468860026191 tw8529049818346398516 tw2355431326741218799 tw10642311316961475595 tw7319860409408100386 tw15953530138707435364 tw4333956558463019327 tw13603287272138667022 tw4691990783448603182 tw8249206404816314789 tw13829883190159700504 tw5711800179322411237 tw7871870336495846207 tw14070663898565333719 tw11651925765535110366 tw2513498923874081946 tw14883806085901504642 tw2770544759310668313 tw6022960431114871747 tw16972629110195907928 tw1580495672614785858 tw2177587068149523911 tw15728359801411113353 tw18430996556462007300 tw3850121755024631420 tw16982411771171795338 tw5980427048041756086 tw13020136762234359805 tw4214400330669719011 tw9809135455225803830 tw1144207085953407893 tw16577092615439638194 tw13017280354943430326 tw8114576051513656725 tw3663298485250593575 tw2882539063201140434 tw14030510994630298022 tw2259057404207835954 tw16738796668997086585 tw12576159901142570562 tw17650934167489613531 tw7843208174399124547 tw8423289276383880936 tw11377545044536970259 tw6212226813134362449 tw17670984698421704484 tw177477792679214577 tw11183514027733212504 tw1186626004547195575 tw9581776122297680261 tw13578435909899457068 tw24948945117136745 tw11624536634517136451 tw16084403884367615135 tw339273302534563361 tw17429833035297873680 tw11333850345775867749 tw9274115830432931855 tw4420690321529504299 tw11643261108688059154 tw2285377669069176644 tw4922816761660144660 tw13031229403417642225 tw9818536107800291145 tw3182672024923402547 tw18281695026540815626 tw16543486937853532495 tw16041441155968233093:True)
open PySem PySem.W PyProof.Rows L2 L3
def xZqN:Option Obj->Option Obj
|some ⟨_,_,.freed,_⟩=>none
|o=>o
def xZqP (h:Heap):List Nat->Nat->List Obj->List (Option Obj)
|[],_,_=>[]
|a::l,i,r=>bif i.ble a then xZqN (r.drop (a-i)).head?::xZqP h l a (r.drop (a-i)) else h.get? a::xZqP h l i r
theorem xZqQ (h:Heap):∀l i r,r=h.objs.toList.drop i->xZqP h l i r=l.map h.get?
|[],_,_,_=>rfl
|a::l,i,r,e=>by
 unfold xZqP;cases z:i.ble a with
 |false=>exact congrArg (h.get? a::·) (xZqQ h l i r e)
 |true=>
  have d:r.drop (a-i)=h.objs.toList.drop a:=by have:=Nat.le_of_ble_eq_true z;rw [e,List.drop_drop];congr 1;omega
  show xZqN (r.drop (a-i)).head?::xZqP h l a (r.drop (a-i))=_;rw [xZqQ h l a _ d,d,List.head?_drop,Array.getElem?_toList];rfl
def xZqH (K:Params->Frag) (as:List Addr) (e:∀P,as=(K P).map (·.1)) (_:Unit):Hook:=⟨_,λs=>xZqP s.heap as 0 s.heap.objs.toList,λw=>(K w.params).map λp=>some p.2,InK K,λw s x=>InK.of e w s ((xZqQ s.heap as 0 s.heap.objs.toList rfl).symm.trans x),InK.keeps⟩
local macro_rules|`(tactic|o_head ($f $k $a $e))=>`(tactic|o_head (xZqH $k $a $e ()))
set_option maxRecDepth 100000 in
set_option maxHeartbeats 0 in
theorem PySem.Challenge.cw_callboard_k51_made_again_holds : PySem.Challenge.rw_callboard_k51_made_again.Holds := by
 w_on;o_law;k_head;(case hw=>w_witness2)
 k_fill
 refine L3.LO (l:=PySem.Challenge.rw_callboard_k51_made_again) (sp:=Z.L9) (k:=17) (x:="_law_script") rfl rfl ⟨rfl,by decide,by decide⟩ (λ_ _ Y=>Y) (λns hl=>⟨ns,rfl,hl,rfl⟩) ?F;case F=>
  intro w mg fa h KX G hmg;suffices h:∃a:Z.Ad,Z.Gl _ mg a/\∀(s:Shared) (u:Value),BindsTo s a.ak.d ⟨[u],[]⟩ [("_law_script",u)]by obtain⟨a,g,hb⟩:=h;have e:=hmg.symm.trans g.ak.mg;cases e;exact⟨a.ak.d,hb,λbase _ _=>g.ak.pe ▸ Z.QW g⟩
  refine'⟨⟨_,_,_,_,_,_,_,_,_,_,_,_,_,_,_,_,_,_,_,_,_,_,_,_,_,_,_,_,_,_,_,_,_,_,_,_,_,_,_,_,_,_,_,_,_,_,_,_,_,_,_,_,_,_,_,_,_,_,_,_,_,_,_,_,_,_,_,_,_,_,_,_,_,_,_,_,_,_,_,_,_,_,_,_,_,_,_,_,_,_,_,_,_,_,_,_,_,_,_,_,_,_,_,_,_,_,_,_,_,_,_,_,_,_,_,_,_,_,_,_,_,_,_,_,_,_,_,_,_,_,_,_,_⟩,⟨vX KX G ..,vX KX G ..,vX KX G ..,vX KX G ..,vX KX G ..,vX KX G ..,vX KX G ..,vX KX G ..,vX KX G ..,vX KX G ..,vX KX G ..,vX KX G ..,vX KX G ..,PySem.W.mg_of KX G ?_,PySem.W.mg_of KX G ?_,qg KX G ..,qg KX G ..,qg KX G ..,qg KX G ..,qg KX G ..,qg KX G ..,qg KX G ..,qg KX G ..,qg KX G ..,qg KX G ..,qg KX G ..,qg KX G ..,qg KX G ..,qg KX G ..,qg KX G ..,qg KX G ..,qg KX G ..,qg KX G ..,qg KX G ..,qg KX G ..,qg KX G ..,qg KX G ..,qg KX G ..,qg KX G ..,qg KX G ..,qg KX G ..,qg KX G ..,qg KX G ..,qg KX G ..,qg KX G ..,qg KX G ..,qg KX G ..,qg KX G ..,qg KX G ..,qg KX G ..,qg KX G ..,qg KX G ..,qg KX G ..,qg KX G ..,qg KX G ..,qg KX G ..,qg KX G ..,qg KX G ..,qg KX G ..,qg KX G ..,qg KX G ..,qg KX G ..,qg KX G ..,qg KX G ..,qg KX G ..,qg KX G ..,qg KX G ..,qg KX G ..,qg KX G ..,qg KX G ..,qg KX G ..,qg KX G ..,qg KX G ..,qg KX G ..,qg KX G ..,qg KX G ..,qg KX G ..,pU ..,pU ..,pU ..,pU ..,pU ..,pU ..,pU ..,pU ..,pU ..,pU ..,pU ..,pU ..,pU ..,pU ..,pU ..,pU ..,pU ..,pU ..,pU ..,pU ..,pU ..,pU ..,pU ..,pU ..,pU ..,pU ..,pU ..,pU ..,pU ..,pU ..,pU ..,pU ..,pU ..,pU ..,pU ..,pU ..,pU ..,pU ..,pU ..,pU ..,pU ..,pU ..,pU ..,pU ..,pU ..,pU ..,pU ..,pU ..,pU ..,pU ..,pU ..,pU ..,pU ..,pU ..,pU ..,pU ..,K0 ?_ ?_ ?_ ?_ ?_ ?_ ?_ ?_ ?_ ?_,J' ?_ ?_ ?_,Pm ?_ ?_ ?_ ?_,⟨?_,?_,?_,?_⟩,⟨?_,?_,?_,?_⟩,⟨?_,?_,?_,?_⟩,⟨?_,?_,?_,?_⟩,⟨?_,?_,?_,?_⟩,⟨?_,?_,?_,?_⟩,⟨?_,?_,?_,?_⟩,⟨?_,?_,?_,?_⟩,⟨?_,?_,?_,?_⟩,⟨?_,?_,?_,?_⟩,⟨?_,?_,?_,?_⟩,⟨?_,?_,?_,?_⟩,⟨?_,?_,?_⟩,⟨?_,?_,?_⟩,⟨?_,?_,?_⟩,⟨?_,?_,?_⟩,⟨?_,?_,?_⟩,⟨?_,?_,?_⟩,⟨?_,?_,?_⟩,⟨?_,?_,?_⟩,⟨?_,?_,?_⟩,⟨?_,?_,?_⟩,⟨?_,?_,?_⟩,⟨?_,?_,?_⟩,⟨?_,?_,?_⟩,⟨?_,?_,?_⟩,⟨?_,?_,?_⟩,⟨?_,?_,?_⟩,⟨?_,?_,?_⟩,⟨?_,?_,?_⟩,⟨?_,?_,?_⟩,⟨?_,?_,?_⟩,⟨?_,?_,?_⟩,(pK ?_ (pK ?_ (pK ?_ (pK ?_ (pK ?_ (pK ?_ (pK ?_ (pK ?_ tq)))))))),(pK ?_ (pK ?_ (pK ?_ (pK ?_ (pK ?_ (pK ?_ tq)))))),(pK ?_ (pK ?_ (pK ?_ (pK ?_ (pK ?_ (pK ?_ (pK ?_ (pK ?_ tq)))))))),(pK ?_ (pK ?_ (pK ?_ tq))),(pK ?_ (pK ?_ (pK ?_ tq))),(pK ?_ (pK ?_ (pK ?_ tq))),(pK ?_ (pK ?_ (pK ?_ (pK ?_ (pK ?_ tq))))),(pK ?_ (pK ?_ (pK ?_ tq))),(pK ?_ (pK ?_ (pK ?_ (pK ?_ tq)))),(pK ?_ (pK ?_ tq)),(pK ?_ (pK ?_ tq)),FX,FX,PySem.W.mg_none_of KX G ?_,PySem.W.mg_none_of KX G ?_,PySem.W.mg_none_of KX G ?_,PySem.W.mg_none_of KX G ?_,PySem.W.mg_none_of KX G ?_,PySem.W.mg_none_of KX G ?_,PySem.W.mg_none_of KX G ?_,PySem.W.mg_none_of KX G ?_,PySem.W.mg_none_of KX G ?_,PySem.W.mg_none_of KX G ?_,PySem.W.mg_none_of KX G ?_,PySem.W.mg_none_of KX G ?_,PySem.W.mg_none_of KX G ?_,vH (PySem.W.mg_of KX G ?_),vH (PySem.W.mg_of KX G ?_),vH (PySem.W.mg_of KX G ?_),vH (PySem.W.mg_of KX G ?_),NQ (PySem.W.mg_of KX G ?_) (ud (ss:=["all","turns"]) ?_ (.cons ⟨_,rfl⟩ (.cons ⟨_,rfl⟩ .nil)) (Nat.le_of_ble_eq_true rfl)),vH (PySem.W.mg_of KX G ?_),vH (PySem.W.mg_of KX G ?_),vH (PySem.W.mg_of KX G ?_),RM (PySem.W.mg_of KX G ?_),Ol (es:=[⟨_,.str "bar" _,.ref _⟩,⟨_,.str "shut" _,.ref _⟩,⟨_,.str "always" _,.ref _⟩,⟨_,.str "night" _,.ref _⟩,⟨_,.str "busy" _,.ref _⟩,⟨_,.str "silent" _,.ref _⟩,⟨_,.str "wait" _,.ref _⟩,⟨_,.str "breaks" _,.ref _⟩]) (PySem.W.mg_of KX G ?_) ?_ ?_ (.cons rfl ⟨_,rfl,(ud (ss:=["phone","names"]) ?_ (.cons ⟨_,rfl⟩ (.cons ⟨_,rfl⟩ .nil)) (Nat.le_of_ble_eq_true rfl))⟩ (.cons rfl ⟨_,rfl,(ud (ss:=["name","phones"]) ?_ (.cons ⟨_,rfl⟩ (.cons ⟨_,rfl⟩ .nil)) (Nat.le_of_ble_eq_true rfl))⟩ (.cons rfl ⟨_,rfl,(ud (ss:=["name","name"]) ?_ (.cons ⟨_,rfl⟩ (.cons ⟨_,rfl⟩ .nil)) (Nat.le_of_ble_eq_true rfl))⟩ (.cons rfl ⟨_,rfl,(ud (ss:=["name","name","hour","hour"]) ?_ (.cons ⟨_,rfl⟩ (.cons ⟨_,rfl⟩ (.cons ⟨_,rfl⟩ (.cons ⟨_,rfl⟩ .nil)))) (Nat.le_of_ble_eq_true rfl))⟩ (.cons rfl ⟨_,rfl,(ud (ss:=["name","name"]) ?_ (.cons ⟨_,rfl⟩ (.cons ⟨_,rfl⟩ .nil)) (Nat.le_of_ble_eq_true rfl))⟩ (.cons rfl ⟨_,rfl,(ud (ss:=["name","name","turns"]) ?_ (.cons ⟨_,rfl⟩ (.cons ⟨_,rfl⟩ (.cons ⟨_,rfl⟩ .nil))) (Nat.le_of_ble_eq_true rfl))⟩ (.cons rfl ⟨_,rfl,(ud (ss:=["phone"]) ?_ (.cons ⟨_,rfl⟩ .nil) (Nat.le_of_ble_eq_true rfl))⟩ (.cons rfl ⟨_,rfl,(ud (ss:=["phone"]) ?_ (.cons ⟨_,rfl⟩ .nil) (Nat.le_of_ble_eq_true rfl))⟩ .nil)))))))),vH (PySem.W.mg_of KX G ?_),vH (PySem.W.mg_of KX G ?_),vH (PySem.W.mg_of KX G ?_)⟩,λs u=>.of_eq rfl⟩
  all_goals try first|k_is|(intro _ _ _ _ _ _ us hl;rcases us with _|⟨_,_|⟨_,_|⟨_,_|⟨_,_|⟨_,_|⟨_,us⟩⟩⟩⟩⟩⟩<;>first|rfl|(exfalso;revert hl;simp;done))|rfl
