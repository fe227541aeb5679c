import PyProof.Rows.All
import Wide.All
import OpenK.AllK
import Wide.FinOn
import PyProof.EqAt
import PyProof.EqKinds
import PyProof.TupleCall
import PyProof.AttrMiss
import PyProof.IsiH_list
import PyProof.Rows.SetFrom
import KE.KDictOf
import KE.KTab
import PyProof.AutoListH
import KE.KSortTup
import KE.KItemsList
import KE.KEqDict
import KE.KIntText
import Lean
import PyProof.RulesRaise
import PyProof.RulesTry
import KE.KTryDeep
import KE.KTryMore
import KE.KTryOn
import KE.TryInHelper
import KE.TryLedger
import PyProof.ExcArgsOwn
import PyProof.ExcAttrAll.ValueError
import KE.KIsAll
import PyProof.ExcBaseAll.ValueError
import PyProof.InstStoreFacts
import PyProof.ExcInit
import PyProof.SeqI3
import PyProof.ConsumeWalk
import PySem.Challenge.RW_callboard_k52_beginnings_of_logs
set_option Elab.async false
set_option linter.all false
set_option maxRecDepth 100000
set_option maxHeartbeats 4000000
open List renaming length_map->cQ,getElem?_eq_some_iff->cS,length_append->cT,getElem?_eq_getElem->cU,mem_cons->cY,mem_singleton->df,size_toArray->dg,getElem?_map->dq,mem_cons_of_mem->dv,mem_map->dw,not_mem_nil->dz,mem_cons_self->dC,length_nil->dE,length_singleton->dG,map_append->dH,nodup_cons->dM,map_cons->dP,mem_append->dR,map_map->dU,nil_append->dW,length_cons->dZ,length_range->d6,mem_append_right->eh,all_eq_true->eA,lookup_cons->eB,replicate_succ->eC,nodup_nil->eD,getElem?_append_right->eF,getElem?_append_left->eJ,all_cons->eO,length_modify->eP,append_nil->eU,take_length->e9,append_assoc->fh,mem_of_getElem?->fi,cons_ne_nil->ft,length_pos_iff->fu,mem_append_left->fz,getElem?_set_ne->fA,getElem?_set_self->fB,mem_filter->fE,find?_cons->fF,length_take->fK,flatten_cons->fM,foldl_cons->fS,filterMap_cons->fT,filter_sublist->fU,any_cons->fX,getD_eq_getElem?_getD->fY,exists_cons_of_ne_nil->fZ,mem_range->gb,mem_of_find?_eq_some->gf,getLast?_eq_none_iff->gg,nodup_append->gj,length_eq_zero_iff->gm,map_congr_left->gu,length_drop->gv,any_eq_true->gx,length_filter_le->gB,drop_eq_getElem_cons->gF,getLastD_eq_getLast?->gG,filter_cons->gJ,getElem_of_mem->gL,filter_map->gQ,find?_eq_none->gR,take_add_one->gU,findIdx?_map->gX,getElem?_eq_none->gZ,getElem_mem->hW,mem_of_getLast?->ia,dropLast_subset->ib,length_set->ii,getElem?_zip_eq_some->ij,contains_cons->iu,filter_cons_of_pos->iA,filter_cons_of_neg->iB,getElem?_cons_zero->iC,take_of_length_le->iF,findIdx?_eq_some_iff_getElem->iG,length_replicate->iI,getElem?_toArray->iJ,map_nil->iM,range_succ->iQ,filter_nil->iR,getElem?_modify->iS,getElem?_range->iU,map_id->i9,filter_append->je,map_take->ji,sublist_append_right->jr,pairwise_iff_getElem->js,getLast?_eq_getElem?->jt,findIdx?_eq_none_iff->ju,all_map->jC,drop_length->jD,set_set->jE,any_map->jI,eq_of_mem_replicate->jJ,getElem?_replicate->jK,of_mem_zip->jN,forIn_cons->jO,forIn_nil->jY,drop_zero->j6,set_append_right->j8,mem_of_mem_take->km,mem_of_mem_drop->ko,map_drop->ky,filter_eq_self->kD,modify_eq_self->kE,mem_filterMap->kI,getElem_range->kU,set_cons_succ->kW,any_eq_false->kZ,foldl_append->lh,getElem_inj->lE,zipIdx_cons->lO,getElem_map->lT,zipIdx_nil->lX,any_append->lZ,find?_some->ma,map_set->mw
open PySem renaming wpAny_bind->cR,wpAny_pure->de,sizeLine_eq->dF,wpAny_mono->dX,wpAny_holding->eN,wpAny_field->eZ,wpAny_truthy_bool->fg,wpAny_callSpecial?_slot->fJ,wpAny_Call_Name_kw->fO,wpAny_call_entry->fP,wpAny_newObj_type->fQ,codeAny_mono->gh,wpAny_seqItems->gw,wpAny_setField_rec->gz,wpAny_passesOwn->gA,mem_of_lookup->gK,wpAny_execs_nil->gM,codeAny_builtin->gO,wpAny_pyIter_list->gT,wpAny_loadPart_at->gW,wpAny_setField->g9,wpAny_standAt->ic,wpAny_pyIter_tuple->ir,wpAny_call->iz,plainObj_wpAny_Assign_Attribute->iK,codeAny_call_builtin->iN,wpAny_updateSeq_pair->iO,isSubtype_type->iY,tupleKind_room_in1->ja,slot_dict_contains->jc,wpAny_onRaise->jh,wpAny_sequenceKey->jk,call_meets->jp,wpAny_execs_cons->jw,wpAny_typeOf->jz,wpAny_comprehension_free->jB,codeAny_of_tree->jQ,wpAny_specialOf->jR,builtinLookup_eq_fast->jZ,weight_type_call_type->j3,getitemInPython_of_ne->j4,wpAny_rule->ke,wpAny_letTemporaryGo->kh,plainId_quiet->ku,wpAny_isSubtype_exc->kB,concat_meets->kK,seqIndex_neg->kN,wpAny_assign_Name->kX,wpAny_Assign_Name->kY,slot_list_getitem->lb,slot_dict_getitem->ls,wpAny_pyIter_enum->lu,seqIndex_of->lz,wpAny_letGo->lA,wpAny_pyHash_str->lC,wpAny_eqBool_int->lD,wpAny_lookBehind->lF,pastItsLine_dict->lG,noFill_tuple_add->lJ,check_set_init_1->lN,wpAny_pyIter_zip->lQ,wpAny_Name->lU,typeIs_int->lV
def cV:=@if_neg
def cX:=@if_pos
def dQ:=@decide_eq_true
def dY:=@decide_eq_true_eq
def eG:=@congrArg
def eK:=@decide_eq_false
def eQ:=@or_false
def eY:=@beq_iff_eq
def fC:=@beq_self_eq_true
def fH:=@not_or
def fN:=@of_decide_eq_true
def gq:=@beq_eq_false_iff_ne
def iX:=@if_true
def kc:=@if_false
def ly:=@bne_self_eq_false
open PySem.Heap renaming get?_push_of_some->cW,lt_size->dh,get?_push_size->dA,size_push->fj,get?_update_self->fD,get?_update_other->fW,get?_none_of_le->hJ,get?_push_ne->iE,size_update->iH,get?_update_ne->iV
open Nat renaming le_refl->cZ,ne_of_lt->dB,lt_of_lt_of_le->dJ,le_trans->dN,zero_le->dS,lt_irrefl->eX,lt_succ_self->fk,lt_succ_of_lt->fR,ne_of_gt->gH,sub_self->gI,le_succ->gS,le_add_right->hZ,succ_le_succ->h9,lt_trans->il,lt_of_le_of_lt->iy,le_succ_of_le->jn,le_of_lt->jv,le_of_not_lt->jA,mul_le_mul->j5,add_le_add_left->kF,sub_zero->kP,min_eq_left->l0,le_of_eq->mj,succ_mul->mq,zero_add->mv,succ_pos->mx
open Option.some renaming inj->c9,injEq->jm
open Bool renaming false_ne_true->dn,eq_false_iff->dD,and_eq_true->dO,true_and->eE,false_and->eM,false_or->fL,eq_iff_iff->gi,not_eq_true'->gD,or_eq_true->gP,true_or->gY,not_eq_false->jo,or_false->kt,false_eq_true->kS,or_true->kT,beq_comm->mh
open Ne renaming symm->dI
open Int renaming eq_ofNat_of_zero_le->d9,emod_lt_of_pos->eI,emod_nonneg->eL,mul_le_mul_of_nonneg_left->iT,toNat_natCast->jj,emod_add_mul_ediv->j7,toNat_of_nonneg->kC,zero_add->my
open PySem.PassesOwn renaming never->eW
open PySem.F renaming called_set->fm,slot_tuple_iterator_next->gC,slot_list_getattribute->im,slot_zip_next->iP,args_tuple_iterator_next_1->iZ,entry_tuple_iterator_next->jd,slot_dict_getitem->jq,args_tuple_add_2->jy,store_ValueError->jG,entry_tuple_add->jL,slot_dict_items->jM,slot_tuple_add->jU,excBase_ValueError->kl,entry_type_call->lj,args_zip_next_1->lw,typeCall_set_1->lL,entry_set_init->lM,entry_zip_next->lP,slot_int_rmul->lW
open PyProof.Rows renaming slot_tuple_getitem->fv,callWith_type1->fG,callWith_builtin1->gN,SetOf_congr->ip,setObjOf_fresh->jb,subscriptTail_builtinR->jV,listUpdate_at->kx,entry_tuple_getitem->kz,args_tuple_getitem->kM,seqEpoch_at->lB,size_push'->lY
open List.cons renaming inj->gk
open PyProof.Rows.F renaming plain_set_update_loop->gy,entry_set_update_loop->io
open PySem.Around renaming under_plainId->hU,under_plain->kO
open Array renaming getElem?_setIfInBounds_self_of_lt->ie,length_toList->ig,toList_append->iW,size_setIfInBounds->jF,mem_toList_iff->j9
open PySem.Calls renaming spliced_cons->ik,spliced_nil->iD,Name_function_global->jg,callWith_builtin->jW
open PySem.Code renaming quiet_builtin->iq
open List.Nodup renaming sublist->iw
open PySem.W renaming callWith_K->iL,methodCall_KW->jS,plainGet_of->kq,looks_clsIn->kr,cellsFrom_some->lH,looks_findIn->me
open PySem.Paired renaming length->jf,snoc->mB
open Option renaming isSome_map->jl,isSome_iff_exists->jx,map_some->jP,map_eq_some_iff->jX,getD_none->lK,bind_some->lR
open Sum.inr renaming inj->jT
open PySem.Walks renaming list->kg
open PySem.Heap.SameBut renaming update->kA
open PySem.SeqAt.EqAt renaming int_str->kG,str_int->kH
open PySem.Obj renaming data_mapFields->kQ
open PySem.Heap.Ns1 renaming of_empty->k9
open Eq renaming symm->mf
open PySem.W.Looks renaming here->mi
open Prod renaming ext->mo
open PySem.Heap.FunFrames renaming of_keeps->mz
open PySem.Moved renaming trans->mC
open PySem.Heap.IsSliceOf renaming new->mD
abbrev qr:=PySem.W.Frag
local macro_rules | `(tactic| walk_at "l") => `(tactic| (intro _ _ _ h; repeat (first | (obtain ⟨e, _⟩ := h; subst e; rfl; done) | (cases h; rename_i h))))
local macro_rules | `(tactic| walk_at "m") => `(tactic| (intro _ _ _ _ h; repeat (first | (obtain ⟨e, _⟩ := h; subst e; rfl; done) | (cases h; rename_i h))))
abbrev Vl:=PySem.Value
abbrev Sd:=PySem.Shared
abbrev Pg:=PySem.Program
abbrev Ar:=PySem.Around
abbrev Wo:=PySem.World
namespace L2
open PySem PySem.Spec PyProof.Rows
def x5{α:Sort u}{β:Sort v}{p q r:α->β->Prop}{C:Prop}(h:∃a b,p a b/\q a b/\r a b)(f:∀a b,p a b->q a b->r a b->C):C:=by obtain⟨a,b,h1,h2,h3⟩:=h;exact f a b h1 h2 h3
abbrev qV:=Sum Int Str
def Bj:qV->Vl->Bool
 | .inl k,v=>Value.isInt k v
 | .inr x,v=>Value.isStrOf x v
def UX(w:Wo):qV->Int
 | .inl k=>hashInt k
 | .inr x=>hashStr w x
def rO:∀{k:qV} {v:Vl},Bj k v=true->(∃i t,k=Sum.inl i/\v=Value.int i t)\/(∃x t,k=Sum.inr x/\v=Value.str x t)
 | .inl i,v,h=>by obtain⟨t,e⟩:=Value.isInt_shape (k:=i) (v:=v) h;exact .inl ⟨i,t,rfl,e⟩
 | .inr x,v,h=>by obtain⟨t,e⟩:=Value.isStrOf_shape (x:=x) (v:=v) h;exact .inr ⟨x,t,rfl,e⟩
def JR(i:Int)(t:Tok):Bj (.inl i) (.int i t)=true:=by simp[Bj,Value.isInt]
def Kg(x:Str)(t:Tok):Bj (.inr x) (.str x t)=true:=by simp[Bj,Value.isStrOf]
def R0(a b:Int):decide ((Sum.inl a:qV)=Sum.inl b)=(a==b):=by
 by_cases e:a=b
 .subst e;simp
 .have h:¬(Sum.inl a:qV)=Sum.inl b:=λq=>e (Sum.inl.inj q);rw[eK h];exact(gq.mpr e).symm
def QV(a b:Str):decide ((Sum.inr a:qV)=Sum.inr b)=decide (a=b):=by
 by_cases e:a=b
 .subst e;simp
 .have h:¬(Sum.inr a:qV)=Sum.inr b:=λq=>e (jT q);rw[eK h,eK e]
def Rt(a:Int)(b:Str):decide ((Sum.inl a:qV)=Sum.inr b)=false:=eK (λq=>nomatch q)
def RY(a:Str)(b:Int):decide ((Sum.inr a:qV)=Sum.inl b)=false:=eK (λq=>nomatch q)
def rm(prog:Pg)(w:Wo):PySem.KeyKind prog w qV where
 is:=Bj
 hash:=UX w
 inj:=λv a b ha hb=>by
  rcases rO ha with⟨i,t,rfl,rfl⟩|⟨x,t,rfl,rfl⟩
  .rcases rO hb with⟨j,u,rfl,e⟩|⟨y,u,rfl,e⟩
   .injection e with e1 _;rw[e1]
   .exact nomatch e
  .rcases rO hb with⟨j,u,rfl,e⟩|⟨y,u,rfl,e⟩
   .exact nomatch e
   .injection e with e1 _;rw[e1]
 byValue:=λk v h=>by rcases rO h with⟨i,t,rfl,rfl⟩|⟨x,t,rfl,rfl⟩<;>rfl
 pyHash:=λhv h=>by
  rcases rO hv with⟨i,t,rfl,rfl⟩|⟨x,t,rfl,rfl⟩
  .exact wpAny_pyHash_int h
  .exact lC h
 eqBool:=λhu hv h=>by
  rcases rO hu with⟨i,t,rfl,rfl⟩|⟨x,t,rfl,rfl⟩
  .rcases rO hv with⟨j,u,rfl,rfl⟩|⟨y,u,rfl,rfl⟩
   .rw[R0]at h;exact lD h
   .rw[Rt]at h;exact kG i t y u _ _ _ _ h
  .rcases rO hv with⟨j,u,rfl,rfl⟩|⟨y,u,rfl,rfl⟩
   .rw[RY]at h;exact kH x t j u _ _ _ _ h
   .rw[QV]at h;exact wpAny_eqBool_str h
 «strs»:=λk x t v h=>by
  rcases rO h with⟨i,u,rfl,e⟩|⟨y,u,rfl,e⟩
  .exact nomatch e
  .injection e with e1 _
   subst e1;cases v<;>rfl
def Gy(prog:Pg)(w:Wo)(i:Int)(t:Tok):(rm prog w).is (.inl i) (.int i t)=true:=JR i t
def Aj(prog:Pg)(w:Wo)(x:Str)(t:Tok):(rm prog w).is (.inr x) (.str x t)=true:=Kg x t
inductive V where
 | mI|bl (b:Bool)|int (i:Int)|str (x:Str)|byt (b:Array UInt8)|flt (b:UInt64)|ref (a:Addr)|ty (n:String)
 deriving DecidableEq
def qR:V->Vl->Prop
 | .mI,u=>u=Value.none
 | .bl b,u=>u=Value.bool b
 | .int i,u=>∃t,u=Value.int i t
 | .str x,u=>∃t,u=Value.str x t
 | .byt b,u=>∃t,u=Value.bytes b t
 | .flt b,u=>∃t,u=Value.float b t
 | .ref a,u=>u=Value.ref a
 | .ty n,u=>u=Value.type n
abbrev qz:List V->List Vl->Prop:=Paired qR
def qz.length{xs:List V}{us:List Vl}(r:qz xs us):xs.length=us.length:=jf r
theorem qz.get:∀{xs:List V} {us:List Vl} {i:Nat} {x:V},qz xs us->xs[i]?=some x->∃u,us[i]?=some u/\qR x u
 | _,_,_,_,.nil,e=>by simp at e
 | _,_,0,_,.cons r _,e=>by simp at e;subst e;exact⟨_,rfl,r⟩
 | _,_,i+1,x,.cons _ t,e=>by obtain⟨u,h1,h2⟩:=qz.get (i:=i) (x:=x) t (by simpa using e);exact⟨u,by simpa using h1,h2⟩
theorem qz.set{x:V}{u:Vl}(r:qR x u):∀{xs:List V} {us:List Vl} (i:Nat),qz xs us->qz (xs.set i x) (us.set i u)
 | _,_,_,.nil=>.nil
 | _,_,0,.cons _ t=>.cons r t
 | _,_,i+1,.cons q t=>.cons q (qz.set r i t)
theorem qz.append:∀{xs ys:List V} {us ws:List Vl},qz xs us->qz ys ws->qz (xs++ys) (us++ws)
 | _,_,_,_,.nil,s=>s
 | _,_,_,_,.cons r t,s=>.cons r (qz.append t s)
theorem qz.take:∀{xs:List V} {us:List Vl} (n:Nat),qz xs us->qz (xs.take n) (us.take n)
 | _,_,0,_=>.nil
 | _,_,_+1,.nil=>.nil
 | _,_,n+1,.cons r t=>.cons r (qz.take n t)
theorem qz.drop:∀{xs:List V} {us:List Vl} (n:Nat),qz xs us->qz (xs.drop n) (us.drop n)
 | _,_,0,r=>r
 | _,_,_+1,.nil=>.nil
 | _,_,n+1,.cons _ t=>qz.drop n t
def yg:Option V->Option Vl->Prop
 | some v,some u=>qR v u
 | none,none=>True
 | _,_=>False
def KV{κ:Type}:List (κ×V)->List (κ×Vl)->Prop:=Paired λ(p:κ×V) (q:κ×Vl)=>p.1=q.1/\qR p.2 q.2
def kV:qV->V
 | .inl i=>.int i
 | .inr x=>.str x
inductive HO where
 | lst (xs:List V)
 | tup (xs:List V)
 | dK (kvs:List (qV×V))|dT (kvs:List (List qV×V))
 | set (S:Int->Bool) (n:Nat)
 | ins (C dx:Addr) (fs:List (Str×V))
 | own (x:Addr)
 | xd (fs:List (Str×V))
 | met (f x:Addr)
 | rng (lo hi:Int)
 | frz (o:Obj) (u:HO)
 | tbl (ps:Array Vl)
 | ext (φ:Heap->Prop)
abbrev Hp:=Addr->Option HO
def upd(H:Hp)(a:Addr)(o:HO):Hp:=λb=>if b=a then some o else H b
def qg{H:Hp}{a:Addr}{o:HO}:upd H a o a=some o:=by unfold upd;rw[cX rfl]
def qc{H:Hp}{a b:Addr}{o:HO}(h:b≠a):upd H a o b=H b:=by unfold upd;rw[cV h]
def Om{H:Hp}{a:Addr}{o u:HO}:upd (upd H a o) a u=upd H a u:=by funext b;unfold upd;split<;>rfl
def TF{H:Hp}{a b:Addr}{o u:HO}(h:H a=some o)(h':H b=some u)(d:o≠u):a≠b:=by intro e;subst e;rw[h]at h';exact d (c9 h')
def qN{H:Hp}{a b:Addr}{o:HO}(h:H a=some o)(h':H b=none):a≠b:=by intro e;subst e;rw[h]at h';cases h'
section
variable (P:Pg)(w:Wo)
def Eb(h:Heap)(a:Addr)(its:Array Vl):Prop:=∃o,h.get? a=some o/\o.cls=.type "tuple"/\(∃n,o.data=.seq its n)/\o.dict=none
def sR(H:Hp)(h:Heap)(a:Addr):HO->Prop
 | .lst xs=>xs.length<=sizeLine/\∃(its:List Vl) (n:Nat),qz xs its/\h.get? a=some {cls:=.type "list",data:=.seq its.toArray n}
 | .tup xs=>xs.length<=sizeLine/\∃its:List Vl,qz xs its/\Eb h a its.toArray
 | .dK kvs=>kvs.length<=sizeLine/\(a==sysModules)=false/\∃vs,KV kvs vs/\h.DictOf (rm P w) a vs
 | .dT kvs=>kvs.length<=sizeLine/\(a==sysModules)=false/\∃xs:List (List qV×Addr×Vl),Paired (λ(p:List qV×V) (q:List qV×Addr×Vl)=>p.1=q.1/\H q.2.1=some (.tup (p.1.map kV))/\qR p.2 q.2.2) kvs xs/\
   ∃o es ep,h.get? a=some o/\o.ExactDict/\o.data=.dict es ep/\es.toList=xs.map (entryOfKey (tupleKind (rm P w)))/\(xs.map (·.1)).Nodup
 | .set S n=>h.SetOf (intKind P w) a S n
 | .ins C dx fs=>H dx=some (.own a)/\fs.length<=1000/\dx≠a/\h.get? a=some (W.instObj C dx)/\
   ∃mA,h.Ns1 dx mA/\(∀f,yg (fs.lookup f) (mA f))/\PySem.Within mA (fs.map (·.1))
 | .own _=>∃o,h.get? a=some o
 | .xd fs=>∃mA,h.Ns1 a mA/\∀f,yg (fs.lookup f) (mA f)
 | .rng lo hi=>∃t u v,h.get? a=some {cls:=.type "range",data:=.fields #[.int lo t,.int hi u,.int 1 v]}
 | .frz o u=>h.get? a=some o/\sR H h a u
 | .tbl ps=>h.get? a=some {cls:=.none,data:=.fields ps}
 | .met f x=>h.get? a=some (W.methodObj (.ref f) (.ref x))
 | .ext φ=>φ h/\(∃o,h.get? a=some o)/\∀h1 h2:Heap,φ h1->(∀o,h1.get? a=some o->h2.get? a=some o)->φ h2
def yh(H:Hp)(h:Heap):Prop:=∀a o,H a=some o->sR P w H h a o
end
variable {H H':Hp}{h h':Heap}
section
variable {P:Pg}{w:Wo}{a:Addr}{o:HO}
def Eb.is{its:Array Vl}(x:Eb h a its):IsTup h a its:=let⟨o,e,c,d,_⟩:=x;⟨o,e,c,d⟩
def Eb.new(h:Heap)(WJ:Array Vl):Eb (h.push {cls:=.type "tuple",data:=.seq WJ}) h.objs.size WJ:=⟨_,dA _ rfl,rfl,⟨_,rfl⟩,rfl⟩
def sR.lt(x:sR P w H h a o):a<h.objs.size:=by
 cases o with
 | lst xs=>obtain⟨_,_,_,_,e⟩:=x;exact dh e
 | tup xs=>obtain⟨_,_,_,_,e,_⟩:=x;exact dh e
 | dK kvs=>obtain⟨_,_,_,_,o,_,_,e,_⟩:=x;exact dh e
 | dT kvs=>obtain⟨_,_,_,_,o,_,_,e,_⟩:=x;exact dh e
 | set S n=>obtain⟨o,_,_,_,e,_⟩:=x;exact dh e
 | ins C dx fs=>obtain⟨_,_,_,e,_⟩:=x;exact dh e
 | own y=>obtain⟨_,e⟩:=x;exact dh e
 | xd fs=>obtain⟨_,⟨_,_,_,e,_⟩,_⟩:=x;exact dh e
 | rng lo hi=>obtain⟨_,_,_,e⟩:=x;exact dh e
 | frz ob u=>obtain⟨e,_⟩:=x;exact dh e
 | tbl ps=>exact dh (show h.get? a=some _ from x)
 | met f y=>exact dh (show h.get? a=some _ from x)
 | ext φ=>obtain⟨_,⟨_,e⟩,_⟩:=x;exact dh e
theorem Paired.oo{α β:Type}{F G:α->β->Prop}:∀{l₁:List α} {l₂:List β},Paired F l₁ l₂->(∀a b,F a b->G a b)->Paired G l₁ l₂
 | _,_,.nil,_=>.nil
 | _,_,.cons r t,f=>.cons (f _ _ r) (Paired.oo t f)
def sR.nj(x:sR P w H h a o)(k:∀b u,(b=a\/H b=some (.own a))->h.get? b=some u->h'.get? b=some u) (ho:∀b,H b=some (.own a)->H' b=some (.own a)) (ht:∀b xs,H b=some (.tup xs)->H' b=some (.tup xs)):sR P w H' h' a o:=by
 induction o with
 | lst xs=>obtain⟨z,its,n,r,e⟩:=x;exact⟨z,its,n,r,k _ _ (.inl rfl) e⟩
 | tup xs=>obtain⟨z,its,r,ob,e,c⟩:=x;exact⟨z,its,r,ob,k _ _ (.inl rfl) e,c⟩
 | dK kvs=>obtain⟨z,y,vs,r,ob,es,ep,e,c⟩:=x;exact⟨z,y,vs,r,ob,es,ep,k _ _ (.inl rfl) e,c⟩
 | dT kvs=>obtain⟨z,y,xs,r,ob,es,ep,e,c⟩:=x;exact⟨z,y,xs,Paired.oo r λp q z=>⟨z.1,ht _ _ z.2.1,z.2.2⟩,ob,es,ep,k _ _ (.inl rfl) e,c⟩
 | set S n=>obtain⟨ob,es,ep,t,e,c⟩:=x;exact⟨ob,es,ep,t,k _ _ (.inl rfl) e,c⟩
 | ins C dx fs=>obtain⟨d,z,ne,e,mA,⟨od,es,ep,e2,c⟩,r⟩:=x;exact⟨ho _ d,z,ne,k _ _ (.inl rfl) e,mA,⟨od,es,ep,k _ _ (.inr d) e2,c⟩,r⟩
 | own y=>obtain⟨ob,e⟩:=x;exact⟨ob,k _ _ (.inl rfl) e⟩
 | xd fs=>obtain⟨mA,⟨od,es,ep,e,c⟩,r⟩:=x;exact⟨mA,⟨od,es,ep,k _ _ (.inl rfl) e,c⟩,r⟩
 | rng lo hi=>obtain⟨t,u,v,e⟩:=x;exact⟨t,u,v,k _ _ (.inl rfl) e⟩
 | frz ob u ih=>obtain⟨e,q⟩:=x;exact⟨k _ _ (.inl rfl) e,ih q⟩
 | tbl ps=>have e:h.get? a=some {cls:=.none,data:=.fields ps}:=x;show h'.get? a=some {cls:=.none,data:=.fields ps};exact k a _ (.inl rfl) e
 | met f y=>have e:h.get? a=some (W.methodObj (.ref f) (.ref y)):=x;show h'.get? a=some (W.methodObj (.ref f) (.ref y));exact k a _ (.inl rfl) e
 | ext φ=>obtain⟨p,⟨o,e⟩,st⟩:=x;exact⟨st _ _ p λo q=>k _ _ (.inl rfl) q,⟨o,k _ _ (.inl rfl) e⟩,st⟩
def yh.lt(x:yh P w H h)(e:H a=some o):a<h.objs.size:=(x a o e).lt
def yh.fresh(x:yh P w H h)(e:h.objs.size<=a):H a=none:=by
 cases q:H a with
 | none=>rfl
 | some u=>exact absurd (dJ (x.lt q) e) (eX _)
def yh.kept(x:yh P w H h)(k:∀b u,h.get? b=some u->h'.get? b=some u):yh P w H h':=λa o e=>(x a o e).nj (λb u _ q=>k b u q) (λ_ q=>q) λ_ _ q=>q
def yh.laid(x:yh P w H h)(k:∀b u,h.get? b=some u->h'.get? b=some u)(hp:h.objs.size<=a)(new:sR P w (upd H a o) h' a o):yh P w (upd H a o) h':=λb u e=>by
 have hn:=x.fresh hp;by_cases hb:b=a
 .subst hb;rw[qg]at e;cases e;exact new
 .rw[qc hb]at e;exact(x b u e).nj (λc v _ q=>k c v q) (λc q=>by rw[qc (qN q hn)];exact q) λc xs q=>by rw[qc (qN q hn)];exact q
end
def Rd(H:Hp)(a:Addr)(u:HO):Prop:=H a=some u\/∃o,H a=some (.frz o u)
def Rd.ok{P:Pg}{w:Wo}{H:Hp}{h:Heap}{a:Addr}{u:HO}(r:Rd H a u)(x:yh P w H h):sR P w H h a u:=by
 rcases r with r|⟨o,r⟩
 .exact x a u r
 .obtain⟨_,q⟩:=x a _ r;exact q
def Ua:Option HO->Prop
 | some (.lst _)=>True
 | some (.dK _)=>True
 | some (.dT _)=>True
 | some (.set _ _)=>True
 | some (.ins _ _ _)=>True
 | some (.ext _)=>True
 | _=>False
variable {o':HO}
section
variable {P:Pg}{w:Wo}{x e:Addr}
def yh.write(ok:yh P w H h)(mu:Ua (H x))(he:e=x\/H e=some (.own x))(k:∀b u,b≠e->h.get? b=some u->h'.get? b=some u)(heo:∃u,h'.get? e=some u) (new:sR P w (upd H x o') h' x o'):yh P w (upd H x o') h':=λb u q=>by
 have nown:∀c y,H c=some (.own y)->c≠x:=λc y r z=>by subst z;rw[r]at mu;exact mu
 have ntup:∀c xs,H c=some (.tup xs)->c≠x:=λc xs r z=>by subst z;rw[r]at mu;exact mu
 by_cases hb:b=x
 .subst hb;rw[qg]at q;cases q;exact new
 .rw[qc hb]at q;by_cases hbe:b=e
  .have q':H b=some (.own x):=by
    rcases he with z|z
    .exact absurd (hbe.trans z) hb
    .rw[hbe];exact z
   rw[q]at q';cases q';obtain⟨v,hv⟩:=heo;exact⟨v,by rw[hbe];exact hv⟩
  .refine(ok b u q).nj (λc v hc r=>k c v ?_ r) (λc r=>by rw[qc (nown c b r)];exact r) λc xs r=>by rw[qc (ntup c xs r)];exact r
   rcases hc with rfl|hc
   .exact hbe
   .rintro rfl
    rcases he with z|z
    .exact nown c b hc z
    .rw[hc]at z;cases z;exact hb rfl
end
structure Un(fs ex:List Addr)(H H':Hp)(h h':Heap):Prop where
 keep:∀b o,h.get? b=some o->H b=none->b∉fs->b∉ex->h'.get? b=some o
 slot:∀b o,h.get? b=some o->H b=none->b∈fs->b∉ex->∃sl,h'.get? b=some {o with slots:=sl}
 free:∀b o,h.get? b=some o->H b=none->b∉ex->H' b=none
 there:∀b o,h.get? b=some o->b∉ex->∃o',h'.get? b=some o'
 nI:∀b xs,H b=some (.tup xs)->H' b=some (.tup xs)
 nC:∀b o u,H b=some (.frz o u)->H' b=some (.frz o u)
 nK:∀b ps,H b=some (.tbl ps)->∃more,H' b=some (.tbl (ps++more))
variable {ex ex':List Addr}{H1 H2:Hp}{h1 h2:Heap}
section
variable {fs fs':List Addr}{a x e:Addr}{o:HO}
def Un.any(u:Un fs ex H H1 h h1){b:Addr}{ob:Obj}(q:h.get? b=some ob)(n:H b=none)(hx:b∉ex):∃sl,h1.get? b=some {ob with slots:=sl}:=by
 by_cases hb:b∈fs
 .exact u.slot b ob q n hb hx
 .exact⟨ob.slots,u.keep b ob q n hb hx⟩
def Un.kept(k:∀b u,h.get? b=some u->h'.get? b=some u):Un fs ex H H h h':=
 ⟨λb ob q _ _ _=>k b ob q,λb ob q _ _ _=>⟨ob.slots,k b ob q⟩,λ_ _ _ n _=>n,λb ob q _=>⟨ob,k b ob q⟩,λ_ _ q=>q,λ_ _ _ q=>q,λ_ ps q=>⟨#[],by rw[q];simp⟩⟩
def Un.refl:Un fs ex H H h h:=Un.kept λ_ _ q=>q
def Un.laid(k:∀b u,h.get? b=some u->h'.get? b=some u)(hp:h.objs.size<=a)(hn:H a=none):Un fs ex H (upd H a o) h h' where
 keep:=λb u q _ _ _=>k b u q
 slot:=λb u q _ _ _=>⟨u.slots,k b u q⟩
 free:=λb u q n _=>by rw[qc (dB (dJ (dh q) hp))];exact n
 there:=λb u q _=>⟨u,k b u q⟩
 nI:=λb xs q=>by rw[qc (qN q hn)];exact q
 nC:=λb u xs q=>by rw[qc (qN q hn)];exact q
 nK:=λb ps q=>⟨#[],by rw[qc (qN q hn),q];simp⟩
def Un.write(mu:Ua (H x))(he:e=x\/H e=some (.own x))(k:∀b u,b≠e->h.get? b=some u->h'.get? b=some u)(heo:∃u,h'.get? e=some u):Un fs ex H (upd H x o) h h':=by
 have hx:∀b,H b=none->b≠x:=λb n z=>by subst z;rw[n]at mu;exact mu
 have hb:∀b,H b=none->b≠e:=λb n z=>by
  subst z;rcases he with r|r
  .exact hx b n r
  .rw[n]at r;cases r
 have hm:∀b u,H b=some u->¬Ua (some u)->b≠x:=λb u q nm z=>by subst z;rw[q]at mu;exact nm mu
 refine⟨λb u q n _ _=>k b u (hb b n) q,λb u q n _ _=>⟨u.slots,k b u (hb b n) q⟩,λb u q n _=>by rw[qc (hx b n)];exact n,λb u q _=>?_,λb xs q=>by rw[qc (hm b _ q λz=>z)];exact q,λb u xs q=>by rw[qc (hm b _ q λz=>z)];exact q,λb ps q=>⟨#[],by rw[qc (hm b _ q λz=>z),q];simp⟩⟩
 by_cases hbe:b=e
 .subst hbe;exact heo
 .exact⟨u,k b u hbe q⟩
end
def UO(h:Heap)(H:Hp):List Addr:=(List.range h.objs.size).filter λa=>(H a).isSome
def Eu(h:Heap)(H:Hp):Heap:=W.hideAll h (UO h H)
def KN(h:Heap)(H:Hp):(Eu h H).objs.size=h.objs.size:=W.hideAll_size _ _
def Ml{h:Heap}{H:Hp}{b:Addr}{o:Obj}(e:h.get? b=some o)(n:H b=none):(Eu h H).get? b=some o:=
 W.hideAll_get _ e λhm=>by have q:(H b).isSome=true:=(fE.mp hm).2;rw[n]at q;simp at q
def NP{h:Heap}{H:Hp}{b:Addr}{o:Obj}(e:(Eu h H).get? b=some o):h.get? b=some o/\H b=none:=by
 have e':h.get? b=some o:=W.of_hideAll (UO h H) e;refine⟨e',?_⟩;cases q:H b with
 | none=>rfl
 | some x=>have hm:b∈UO h H:=fE.mpr ⟨gb.mpr (dh e'),by simp[q]⟩;have z:(Eu h H).get? b=none:=W.hideAll_none (UO h H) hm;rw[z]at e;cases e
structure Mod(K:qr)(mg:Str->Option Vl)(base:Heap):Prop where
 oA:K.In base
 glob:base.Ns mainGlobals mg
 blt:∃mb,base.Ns builtinsNs mb/\∀x:Str,x≠"__name__"->mb x=bootBuiltins x
 nolimit:base.NoLimit
structure Cx where
 prog:Pg
 w:Wo
 K:qr
 mg:Str->Option Vl
 base:Heap
 A:Ar
 N:List Str
 s₀:Sd
 H₀:Hp
 env:Env
 outer:List Env
 stack:List Env
 ex:List Addr
 fn:Str->Bool
 calm:Bool
 pn:List (Addr×Obj)
 xe:Vl->Sd->Prop
abbrev A9(X:Cx)(e:Expr)(es:List Expr):Prop:=starEach (e::es) X.env=(false,eval e X.env)::starEach es X.env
abbrev CC(X:Cx)(p:Pos)(es:List Expr):Prop:=(backTo p (starEach es X.env)).any (·.1)=false
abbrev zG(x:Str):Prop:=(x==("__debug__":Str))=false
abbrev KS(X:Cx)(x:Str):Prop:=X.fn x=true\/X.env.scope.names.lookup x=some .local
def vU(l:List Env):List Addr:=l.filterMap (·.frame)
abbrev Cx.fs(X:Cx):List Addr:=vU X.outer
def UF(sc:Scope)(x:Str):Prop:=sc.names.lookup x=some .local\/sc.names.lookup x=some .cell\/sc.names.lookup x=some .free
def KW(sc:Scope)(x:Str):Prop:=sc.names.lookup x=some .local\/sc.names.lookup x=some .cell
def VC(env:Env)(h:Heap)(m:Str->Option Vl)(x:Str)(u:Vl):Prop:=
 (env.kindOf x=some .local/\m x=some u)\/((env.kindOf x=some .cell\/env.kindOf x=some .free)/\∃c,env.cells.lookup x=some c/\h.IsCell c (some u))
structure Cx.Ok(X:Cx):Prop where
 mod:Mod X.K X.mg X.base
 kind:X.env.scope.kind=.function
 glob:X.env.globals=mainGlobals
 blt:X.env.builtins=builtinsNs
 above:X.s₀.heap.objs.size<=X.env.locals
 inj:∀x y c,X.env.cells.lookup x=some c->X.env.cells.lookup y=some c->x=y
 has:∀x,(X.env.kindOf x=some .cell\/X.env.kindOf x=some .free)->∃c,X.env.cells.lookup x=some c
 om:∀x c,X.fn x=true->X.env.cells.lookup x=some c->X.s₀.heap.objs.size<=c
 hd:X.calm=true->X.A.handled=none
 frames:X.A.frames=some X.stack
 oF:X.stack=X.outer\/(X.stack=X.env::X.outer/\X.env.frame=some X.env.locals)
 oU:∀b∈X.ex,b≠X.env.locals/\∀x c,X.env.cells.lookup x=some c->c≠b
 bs:∀b o,X.base.get? b=some o->X.s₀.heap.get? b=some o/\X.H₀ b=none
 nY:X.base.objs.size<=X.s₀.heap.objs.size
 nP:∀b o,X.base.get? b=some o->b∉X.ex
 nR:∀b∈X.ex,b∉X.fs
 nk:X.s₀.heap.FunFrames X.base X.outer
 oh:∀b∈X.fs,X.H₀ b=none
structure Inv(X:Cx)(WI:List (Addr×Obj))(σ:List (Option V))(H:Hp)(s:Sd):Prop where
 ok:X.Ok
 os:s.os=X.s₀.os
 bare:AllBare s.gens
 base:Un X.fs X.ex X.H₀ H X.s₀.heap s.heap
 loc:∃m,s.heap.Ns X.env.locals m/\∀(i:Nat) (x:Str) (v:V),X.N[i]?=some x->σ[i]?=some (some v)->UF X.env.scope x->∃u,qR v u/\VC X.env s.heap m x u
 cell:∀x c,X.env.cells.lookup x=some c->∃v,s.heap.IsCell c v
 free:H X.env.locals=none
 mW:∀x c,X.env.cells.lookup x=some c->H c=none
 pin:∀p∈X.pn++WI,s.heap.get? p.1=some p.2/\H p.1=none/\p.1≠X.env.locals/\p.1∉X.fs/\∀v,p.2.data≠.cell v
 mP:yh X.prog X.w H s.heap
 len:σ.length=X.N.length
variable {X:Cx}{WI:List (Addr × Obj)}{s:Sd}
section
variable {σ:List (Option V)}
def Cx.Ok.nofr(ok:X.Ok){b:Addr}{o:Obj}(e:X.base.get? b=some o):b∉X.fs:=λhb=>by have:=(ok.nk.mem hb).1;rw[e]at this;cases this
def Inv.bs(I:Inv X WI σ H s):∀b o,X.base.get? b=some o->s.heap.get? b=some o/\H b=none:=λb o e=>⟨I.base.keep b o (I.ok.bs b o e).1 (I.ok.bs b o e).2 (I.ok.nofr e) (I.ok.nP b o e),I.base.free b o (I.ok.bs b o e).1 (I.ok.bs b o e).2 (I.ok.nP b o e)⟩
def Inv.bk(I:Inv X WI σ H s):∀b o,X.base.get? b=some o->s.heap.get? b=some o:=λb o e=>(I.bs b o e).1
def Inv.mod(I:Inv X WI σ H s):Mod X.K X.mg X.base:=I.ok.mod
def Inv.ny(I:Inv X WI σ H s):X.K.In s.heap:=I.ok.mod.oA.keeps I.bk
def Inv.lt(I:Inv X WI σ H s):X.env.locals<s.heap.objs.size:=let⟨_,hn,_⟩:=I.loc;hn.lt
def Inv.sz(I:Inv X WI σ H s):X.s₀.heap.objs.size<=s.heap.objs.size:=dN I.ok.above (jv I.lt)
def Inv.oO(I:Inv X WI σ H s){a:Addr}(h:s.heap.objs.size<=a):a∉X.fs:=λhb=>by obtain⟨_,o,ho,_⟩:=I.ok.nk.mem hb;exact absurd (dJ (dh ho) (dN I.sz h)) (eX _)
def Inv.oX(I:Inv X WI σ H s):∀x c,X.env.cells.lookup x=some c->c≠X.env.locals:=λx c e z=>by obtain⟨v,o,ho,hd⟩:=I.cell x c e;obtain⟨m,⟨o',es,ep,Xn,hd',_⟩,_⟩:=I.loc;rw[z,Xn]at ho;cases ho;rw[hd']at hd;cases hd
def Inv.nk(I:Inv X WI σ H s):s.heap.FunFrames X.base X.outer:=by
 have all:∀(l:List Env),(∀b∈vU l,b∈X.fs)->X.s₀.heap.FunFrames X.base l->s.heap.FunFrames X.base l:=by
  intro l;induction l with
  | nil=>intro _ _;trivial
  | cons env r ih=>intro hs hl;obtain⟨hk,⟨L,o,hf,hn,ho,hd⟩,hr⟩:=hl;have hL:L∈X.fs:=hs L (by unfold vU;rw[fT,hf];exact dC);obtain⟨sl,e⟩:=I.base.slot L o ho (I.ok.oh L hL) hL λz=>I.ok.nR L z hL;exact⟨hk,⟨L,_,hf,hn,e,hd⟩,ih (λb hb=>hs b (by unfold vU;rw[fT,hf];exact dv _ hb)) hr⟩
 exact all X.outer (λ_ hb=>hb) I.ok.nk
def Inv.stack(I:Inv X WI σ H s):s.heap.FunFrames X.base X.stack:=by
 rcases I.ok.oF with e|⟨e,hf⟩
 .rw[e];exact I.nk
 .rw[e];obtain⟨m,hn,_⟩:=I.loc;refine .cons (by rw[I.ok.kind];decide) hf hn ?_ I.nk;exact hJ (dN I.ok.nY I.ok.above)
def Inv.nv(I:Inv X WI σ H s):∀b∈vU X.stack,b∈X.env.locals::X.fs:=λb hb=>by
 rcases I.ok.oF with e|⟨e,hf⟩
 .rw[e]at hb;exact dv _ hb
 .rw[e]at hb;unfold vU at hb;rw[fT,hf]at hb;exact hb
def Inv.nB(I:Inv X WI σ H s):∀b∈vU X.stack,H b=none:=λb hb=>by
 rcases cY.mp (I.nv b hb)with e|hb
 .rw[e];exact I.free
 .obtain⟨_,o,ho,_⟩:=I.ok.nk.mem hb;exact I.base.free b o ho (I.ok.oh b hb) λz=>I.ok.nR b z hb
def Inv.step{g':Array GenState}{t':Nat}{d':Drawn}{ch:List Addr}(I:Inv X WI σ H s) (XI:∀b∈ch,(b∈X.ex\/X.s₀.heap.objs.size<=b)/\b≠X.env.locals/\(∀x c,X.env.cells.lookup x=some c->c≠b)/\∀p∈X.pn++WI,p.1≠b) (keep:∀b o,b≠X.env.locals->b∉X.fs->b∉ch->s.heap.get? b=some o->H b=none->h'.get? b=some o) (slot:∀b o,b≠X.env.locals->b∈X.fs->b∉ch->s.heap.get? b=some o->H b=none->∃sl,h'.get? b=some {o with slots:=sl}) (free:∀b o,b∉ch->s.heap.get? b=some o->H b=none->H' b=none)
  (there:∀b o,b∉ch->s.heap.get? b=some o->∃o',h'.get? b=some o')
  (nI:∀b xs,H b=some (.tup xs)->H' b=some (.tup xs)) (nC:∀b o u,H b=some (.frz o u)->H' b=some (.frz o u)) (nK:∀b ps,H b=some (.tbl ps)->∃more,H' b=some (.tbl (ps++more)))
  (ns:∀m,s.heap.Ns X.env.locals m->h'.Ns X.env.locals m) (mP:yh X.prog X.w H' h') (hg:AllBare g'):
  Inv X WI σ H' {s with heap:=h',gens:=g',drawn:=d',toks:=t'}:=by
 have neL:∀b o,X.s₀.heap.get? b=some o->b≠X.env.locals:=λb o e=>dB (dJ (dh e) I.ok.above);have neC:∀b o,X.s₀.heap.get? b=some o->b∉X.ex->b∉ch:=λb o e hx hb=>by
  rcases(XI b hb).1 with z|z
  .exact hx z
  .exact absurd (dJ (dh e) z) (eX _)
 have Y9:∀x c,X.env.cells.lookup x=some c->∀v,s.heap.IsCell c v->h'.IsCell c v:=λx c e v ⟨o,ho,hd⟩=>by
  have nch:c∉ch:=λz=>(XI c z).2.2.1 x c e rfl;by_cases hc:c∈X.fs
  .obtain⟨sl,q⟩:=slot c o (I.oX x c e) hc nch ho (I.mW x c e);exact⟨_,q,hd⟩
  .exact⟨o,keep c o (I.oX x c e) hc nch ho (I.mW x c e),hd⟩
 refine⟨I.ok,I.os,hg,⟨λb o e n hb hx=>?_,λb o e n hb hx=>?_,λb o e n hx=>?_,λb o e hx=>?_,λb xs e=>nI b xs (I.base.nI b xs e),λb o xs e=>nC b o xs (I.base.nC b o xs e),λb ps e=>?_⟩,?_,λx c e=>?_,?_,λx c e=>?_,λp hp=>?_,mP,I.len⟩
 .exact keep b o (neL b o e) hb (neC b o e hx) (I.base.keep b o e n hb hx) (I.base.free b o e n hx)
 .obtain⟨sl,e1⟩:=I.base.slot b o e n hb hx;obtain⟨Yk,e2⟩:=slot b _ (neL b o e) hb (neC b o e hx) e1 (I.base.free b o e n hx);exact⟨Yk,e2⟩
 .obtain⟨o',e1⟩:=I.base.there b o e hx;exact free b o' (neC b o e hx) e1 (I.base.free b o e n hx)
 .obtain⟨o',e1⟩:=I.base.there b o e hx;exact there b o' (neC b o e hx) e1
 .obtain⟨m1,e1⟩:=I.base.nK b ps e;obtain⟨m2,e2⟩:=nK b _ e1;exact⟨m1++m2,by rw[e2,Array.append_assoc]⟩
 .obtain⟨m,hn,hl⟩:=I.loc;refine⟨m,ns m hn,λi x v e1 e2 e3=>?_⟩;obtain⟨u,r,l⟩:=hl i x v e1 e2 e3;refine⟨u,r,?_⟩;rcases l with l|⟨k,c,e,z⟩
  .exact .inl l
  .exact .inr ⟨k,c,e,Y9 x c e _ z⟩
 .obtain⟨v,z⟩:=I.cell x c e;exact⟨v,Y9 x c e v z⟩
 .obtain⟨m,⟨o,_,_,ho,_⟩,_⟩:=I.loc;exact free _ o (λz=>(XI _ z).2.1 rfl) ho I.free
 .obtain⟨v,o,ho,hd⟩:=I.cell x c e;exact free c o (λz=>(XI c z).2.2.1 x c e rfl) ho (I.mW x c e)
 .obtain⟨e,n,ne,nf,d⟩:=I.pin p hp;have nch:p.1∉ch:=λz=>(XI p.1 z).2.2.2 p hp rfl;exact⟨keep p.1 p.2 ne nf nch e n,free p.1 p.2 nch e n,ne,nf,d⟩
def Inv.un{t':Nat}(I:Inv X WI σ H s)(u:Un X.fs [] H H' s.heap h')(mP:yh X.prog X.w H' h'):Inv X WI σ H' {s with heap:=h',toks:=t'}:=by
 obtain⟨m,⟨o,es,ep,ho,r⟩,_⟩:=id I.loc;obtain⟨sl,hL⟩:=u.any ho I.free (by simp);exact I.step (g':=s.gens) (d':=s.drawn) (ch:=[]) (λ_ z=>nomatch z) (λb o _ hb _ e n=>u.keep b o e n hb (by simp)) (λb o _ hb _ e n=>u.slot b o e n hb (by simp)) (λb o _ e n=>u.free b o e n (by simp)) (λb o _ e=>u.there b o e (by simp)) u.nI u.nC u.nK (λm' hm=>by
  obtain⟨o',es',ep',Xn,r'⟩:=hm;rw[ho]at Xn;cases Xn;exact⟨_,es',ep',hL,r'⟩) mP I.bare
def Inv.call{g':Array GenState}{t':Nat}{d':Drawn}{ch:List Addr}(I:Inv X WI σ H s)(u:Un (vU X.stack) ch H H' s.heap h')(mP:yh X.prog X.w H' h')(hg:AllBare g') (XI:∀b∈ch,(b∈X.ex\/X.s₀.heap.objs.size<=b)/\b≠X.env.locals/\(∀x c,X.env.cells.lookup x=some c->c≠b)/\∀p∈X.pn++WI,p.1≠b):
  Inv X WI σ H' {s with heap:=h',gens:=g',drawn:=d',toks:=t'}:=by
 obtain⟨m,⟨o,es,ep,ho,r⟩,_⟩:=id I.loc;obtain⟨sl,hL⟩:=u.any ho I.free λz=>(XI _ z).2.1 rfl;exact I.step (ch:=ch) XI (λb o hL hb hc e n=>u.keep b o e n (λz=>(cY.mp (I.nv b z)).elim hL hb) hc) (λb o _ _ hc e n=>u.any e n hc) (λb o hc e n=>u.free b o e n hc) (λb o hc e=>u.there b o e hc) u.nI u.nC u.nK (λm' hm=>by
  obtain⟨o',es',ep',Xn,r'⟩:=hm;rw[ho]at Xn;cases Xn;exact⟨_,es',ep',hL,r'⟩) mP hg
def Inv.turned{t':Nat}{it:Addr}(I:Inv X WI σ H s)(k:∀b o,b≠it->s.heap.get? b=some o->h'.get? b=some o)(hn:H it=none)(hL:it≠X.env.locals) (h1:it∈X.ex\/X.s₀.heap.objs.size<=it) (h2:∀x c,X.env.cells.lookup x=some c->c≠it) (h3:∀p∈X.pn++WI,p.1≠it):Inv X WI σ H {s with heap:=h',toks:=t'}:=by
 have nit:∀b u,H b=some u->b≠it:=λb u e z=>by rw[z,hn]at e;cases e
 refine I.step (g':=s.gens) (d':=s.drawn) (ch:=[it]) (λb hb=>?_) (λb o _ _ hc e _=>k b o (λz=>hc (by simp[z])) e) (λb o _ _ hc e _=>⟨o.slots,k b o (λz=>hc (by simp[z])) e⟩) (λ_ _ _ _ n=>n)
  (λb o hc e=>⟨o,k b o (λz=>hc (by simp[z])) e⟩) (λ_ _ e=>e) (λ_ _ _ e=>e) (λb ps e=>⟨#[],by rw[e];simp⟩) (λm hm=>?_) (λb u e=>?_) I.bare
 .have e:b=it:=by simpa using hb
  subst e;exact⟨h1,hL,h2,h3⟩
 .obtain⟨o,es,ep,ho,r⟩:=hm;exact⟨o,es,ep,k _ o (dI hL) ho,r⟩
 .refine(I.mP b u e).nj (λc v hc q=>k c v ?_ q) (λ_ q=>q) λ_ _ q=>q;rcases hc with z|z
  .rw[z];exact nit b u e
  .exact nit c _ z
def Inv.tok(I:Inv X WI σ H s)(t:Nat):Inv X WI σ H {s with toks:=t}:=I.un (h':=s.heap) (t':=t) Un.refl I.mP
def Inv.kept{t':Nat}(I:Inv X WI σ H s)(k:∀b u,s.heap.get? b=some u->h'.get? b=some u):Inv X WI σ H {s with heap:=h',toks:=t'}:=I.un (Un.kept k) (I.mP.kept k)
def Inv.laid{a:Addr}{o:HO}{t':Nat}(I:Inv X WI σ H s)(k:∀b u,s.heap.get? b=some u->h'.get? b=some u)(hp:s.heap.objs.size<=a)(new:sR X.prog X.w (upd H a o) h' a o):
  Inv X WI σ (upd H a o) {s with heap:=h',toks:=t'}:=I.un (Un.laid k hp (I.mP.fresh hp)) (I.mP.laid k hp new)
def Inv.write{x e:Addr}{o:HO}{t':Nat}(I:Inv X WI σ H s)(mu:Ua (H x))(he:e=x\/H e=some (.own x))(k:∀b u,b≠e->s.heap.get? b=some u->h'.get? b=some u)(heo:∃u,h'.get? e=some u) (new:sR X.prog X.w (upd H x o) h' x o):Inv X WI σ (upd H x o) {s with heap:=h',toks:=t'}:=I.un (Un.write mu he k heo) (I.mP.write mu he k heo new)
def Inv.nJ{XJ:List (Addr×Obj)}(I:Inv X WI σ H s)(h:∀p∈XJ,s.heap.get? p.1=some p.2/\H p.1=none/\p.1≠X.env.locals/\p.1∉X.fs/\∀v,p.2.data≠.cell v):Inv X XJ σ H s:=
 ⟨I.ok,I.os,I.bare,I.base,I.loc,I.cell,I.free,I.mW,λp hp=>(dR.mp hp).elim (λz=>I.pin p (fz _ z)) (h p),I.mP,I.len⟩
def F7{N:List Str}(hN:N.Nodup){i j:Nat}{x:Str}(a:N[i]?=some x)(b:N[j]?=some x):i=j:=by obtain⟨h1,e1⟩:=cS.mp a;obtain⟨h2,e2⟩:=cS.mp b;exact(lE hN).mp (e1.trans e2.symm)
def DP{M:Model}{A:Ar}{E:Vl->Sd->Prop}{i:Nat}{x:Str}{v:V}{u:Vl}{Q:Unit->Sd->Prop}(I:Inv X WI σ H s)(hN:X.N.Nodup)(hi:X.N[i]?=some x)(hx:KW X.env.scope x)(r:qR v u) (h:∀s',Inv X WI (σ.set i (some v)) H s'->(∃a,Heap.SameBut a s.heap s'.heap/\(a=X.env.locals\/X.env.cells.lookup x=some a))->Q () s') (hf:KS X x:=by first|exact .inl rfl|exact .inr rfl|assumption):wpAny M A (storeName X.env x u) Q E s:=by
 obtain⟨m,hn,hl⟩:=id I.loc;have hcls:(X.env.scope.kind==.class||(X.env.scope.kind==.module&&X.env.locals != X.env.globals))=false:=by rw[I.ok.kind];rfl
 have hiσ:i<σ.length:=by rw[I.len];exact(cS.mp hi).1
 have oX:=I.oX;have WX:∀{a:Addr} {h':Heap},(∃o,s.heap.get? a=some o/\H a=none)->Heap.SameBut a s.heap h'->yh X.prog X.w H h':=λ{a h'} ha hs b ob e=>by
  obtain⟨_,_,Xt⟩:=ha;refine(I.mP b ob e).nj (λc w' hc q=>(hs.2 c ?_).trans q) (λ_ q=>q) λ_ _ q=>q
  rintro rfl
  rcases hc with rfl|hc
  .rw[Xt]at e;cases e
  .rw[Xt]at hc;cases hc
 rcases hx with hk|hk
 .refine wpAny_storeName_local hk hn (λh' YF hs=>?_) hcls;obtain⟨oL,_,_,hoL,_⟩:=id hn;refine h _ ⟨I.ok,I.os,I.bare,⟨λb o e n hb hx=>?_,λb o e n hb hx=>?_,I.base.free,λb o e hx=>?_,I.base.nI,I.base.nC,I.base.nK⟩,⟨_,YF,λj y v' e1 e2 e3=>?_⟩,λy c e=>?_,I.free,I.mW,λp hp=>?_,WX ⟨oL,hoL,I.free⟩ hs,by simpa using I.len⟩ ⟨_,hs,.inl rfl⟩
  .exact(hs.2 b (dB (dJ (dh e) I.ok.above))).trans (I.base.keep b o e n hb hx)
  .obtain⟨sl,e1⟩:=I.base.slot b o e n hb hx;exact⟨sl,(hs.2 b (dB (dJ (dh e) I.ok.above))).trans e1⟩
  .obtain⟨o',e1⟩:=I.base.there b o e hx;exact⟨o',(hs.2 b (dB (dJ (dh e) I.ok.above))).trans e1⟩
  .by_cases hj:j=i
   .subst hj;rw[hi]at e1;cases e1;rw[fB hiσ]at e2;cases e2;exact⟨u,r,.inl ⟨hk,by simp⟩⟩
   .rw[fA (dI hj)]at e2;obtain⟨u',r',q⟩:=hl j y v' e1 e2 e3;refine⟨u',r',?_⟩;rcases q with⟨k,e⟩|⟨k,c,e,z⟩
    .refine .inl ⟨k,?_⟩;have:y≠x:=λe=>hj (F7 hN e1 (e ▸ hi));simp[this,e]
    .exact .inr ⟨k,c,e,z.sameBut hs (oX y c e)⟩
  .obtain⟨w',z⟩:=I.cell y c e;exact⟨w',z.sameBut hs (oX y c e)⟩
  .obtain⟨e,n,ne,nf,d⟩:=I.pin p hp;exact⟨(hs.2 p.1 ne).trans e,n,ne,nf,d⟩
 .have hfn:X.fn x=true:=by
   rcases hf with z|z
   .exact z
   .rw[z]at hk;cases hk
  obtain⟨c,hc⟩:=I.ok.has x (.inl hk);obtain⟨w',z⟩:=I.cell x c hc;refine wpAny_storeName_cell I.ok.kind hk hc z (λh' hc' hs=>?_);obtain⟨oc,hoc,hocd⟩:=id z;refine h {s with heap:=h'} ⟨I.ok,I.os,I.bare,⟨λb o e n hb hx=>?_,λb o e n hb hx=>?_,I.base.free,λb o e hx=>?_,I.base.nI,I.base.nC,I.base.nK⟩,⟨m,hn.sameBut hs (dI (oX x c hc)),λj y v' e1 e2 e3=>?_⟩,λy c' e=>?_,I.free,I.mW,λp hp=>?_,WX ⟨oc,hoc,I.mW x c hc⟩ hs,by simpa using I.len⟩ ⟨c,hs,.inr hc⟩
  .exact(hs.2 b (dB (dJ (dh e) (I.ok.om x c hfn hc)))).trans (I.base.keep b o e n hb hx)
  .obtain⟨sl,e1⟩:=I.base.slot b o e n hb hx;exact⟨sl,(hs.2 b (dB (dJ (dh e) (I.ok.om x c hfn hc)))).trans e1⟩
  .obtain⟨o',e1⟩:=I.base.there b o e hx;exact⟨o',(hs.2 b (dB (dJ (dh e) (I.ok.om x c hfn hc)))).trans e1⟩
  .by_cases hj:j=i
   .subst hj;rw[hi]at e1;cases e1;rw[fB hiσ]at e2;cases e2;exact⟨u,r,.inr ⟨.inl hk,c,hc,hc'⟩⟩
   .rw[fA (dI hj)]at e2;obtain⟨u',r',q⟩:=hl j y v' e1 e2 e3;refine⟨u',r',?_⟩;rcases q with q|⟨k,c',e,z'⟩
    .exact .inl q
    .refine .inr ⟨k,c',e,z'.sameBut hs ?_⟩
     rintro rfl
     exact hj (F7 hN e1 (I.ok.inj _ _ _ e hc ▸ hi))
  .by_cases Za:c'=c
   .subst Za;exact⟨_,hc'⟩
   .obtain⟨w2,z2⟩:=I.cell y c' e;exact⟨w2,z2.sameBut hs Za⟩
  .obtain⟨e,n,ne,nf,d⟩:=I.pin p hp;refine⟨(hs.2 p.1 ?_).trans e,n,ne,nf,d⟩;intro q;rw[q,hoc]at e;have q':oc=p.2:=c9 e;exact d w' (by rw[<-q'];exact hocd)
def BV{M:Model}{A:Ar}{E:Vl->Sd->Prop}{i:Nat}{x:Str}{v:V}{u:Vl}{Q:Unit->Sd->Prop}(I:Inv X WI σ H s)(hN:X.N.Nodup)(hi:X.N[i]?=some x)(hx:KW X.env.scope x)(r:qR v u) (h:∀s',Inv X WI (σ.set i (some v)) H s'->Q () s') (hf:KS X x:=by first|exact .inl rfl|exact .inr rfl|assumption):wpAny M A (storeName X.env x u) Q E s:=
 DP I hN hi hx r (λs' I' _=>h s' I') hf
def Inv.oQ{s':Sd}{ch:List Addr}(I:Inv X WI σ H s)(ho:s'.os=s.os)(u:Un (vU X.stack) ch H H' s.heap s'.heap)(mP:yh X.prog X.w H' s'.heap)(hg:AllBare s'.gens) (XI:∀b∈ch,(b∈X.ex\/X.s₀.heap.objs.size<=b)/\b≠X.env.locals/\(∀x c,X.env.cells.lookup x=some c->c≠b)/\∀p∈X.pn++WI,p.1≠b):Inv X WI σ H' s':=by
 obtain⟨h',g',d',t',o'⟩:=s';have e:o'=s.os:=ho;subst e;exact I.call (g':=g') (t':=t') (d':=d') u mP hg XI
end
abbrev XK:=Vl->Option Addr->Hp->Prop
abbrev St:=List (Option V)
abbrev VK:=V->Hp->Prop
abbrev TE:=St->Hp->VK->Prop
abbrev TT:=St->Hp->(Bool->Hp->Prop)->Prop
abbrev TA:=St->Hp->(List V->Hp->Prop)->Prop
structure Fc where
 nx:St->Hp->Prop
 rt:VK
 bk:St->Hp->Prop:=λ_ _=>False
 ct:St->Hp->Prop:=λ_ _=>False
abbrev TS:=Fc->St->Hp->Prop
def EP(X:Cx)(WI:List (Addr×Obj))(σ:St)(Q:VK)(u:Vl)(s':Sd):Prop:=∃v H',Inv X WI σ H' s'/\qR v u/\Q v H'
def TP(X:Cx)(WI:List (Addr×Obj))(σ:St)(Q:Bool->Hp->Prop)(b:Bool)(s':Sd):Prop:=∃H',Inv X WI σ H' s'/\Q b H'
def AP(X:Cx)(WI:List (Addr×Obj))(σ:St)(Q:List V->Hp->Prop)(us:List Vl)(s':Sd):Prop:=∃vs H',Inv X WI σ H' s'/\qz vs us/\Q vs H'
def SP(X:Cx)(WI:List (Addr×Obj))(D:Fc)(f:Flow)(s':Sd):Prop:=
 match f with
 | .next=>∃σ' H',Inv X WI σ' H' s'/\D.nx σ' H'
 | .brk=>∃σ' H',Inv X WI σ' H' s'/\D.bk σ' H'
 | .cont=>∃σ' H',Inv X WI σ' H' s'/\D.ct σ' H'
 | .ret u=>∃v σ' H',Inv X WI σ' H' s'/\qR v u/\D.rt v H'
def PE(X:Cx)(e:Expr)(t:TE):Prop:=
 ∀(WI:List (Addr×Obj)) (s:Sd) (σ:St) (H:Hp) (Q:VK),Inv X WI σ H s->t σ H Q->wpAny (model X.prog X.w) X.A (eval e X.env) (EP X WI σ Q) X.xe s
def PT(X:Cx)(e:Expr)(t:TT):Prop:=
 ∀(WI:List (Addr×Obj)) (s:Sd) (σ:St) (H:Hp) (Q:Bool->Hp->Prop),Inv X WI σ H s->t σ H Q->wpAny (model X.prog X.w) X.A (isTrue e X.env (eval e X.env)) (TP X WI σ Q) X.xe s
def PW(X:Cx)(e:Expr)(t:TT):Prop:=
 ∀(Xg:Sem Vl) (WI:List (Addr×Obj)) (s:Sd) (σ:St) (H:Hp) (Q:Bool->Hp->Prop),Inv X WI σ H s->t σ H Q->wpAny (model X.prog X.w) X.A (isTrue e X.env Xg) (TP X WI σ Q) X.xe s
def PW.pt{X:Cx}{e:Expr}{t:TT}(h:PW X e t):PT X e t:=h _
def PA(X:Cx)(es:List Expr)(t:TA):Prop:=
 ∀(pos:Pos) (WI:List (Addr×Obj)) (s:Sd) (σ:St) (H:Hp) (Q:List V->Hp->Prop),Inv X WI σ H s->t σ H Q->wpAny (model X.prog X.w) X.A (spliced (backTo pos (starEach es X.env))) (AP X WI σ Q) X.xe s
def PS(X:Cx)(st:Stmt)(t:TS):Prop:=
 ∀(WI:List (Addr×Obj)) (s:Sd) (σ:St) (H:Hp) (D:Fc),Inv X WI σ H s->t D σ H->wpAny (model X.prog X.w) X.A (exec st X.env) (SP X WI D) X.xe s
def Co(X:Cx)(st:List Stmt)(t:TS):Prop:=
 ∀(WI:List (Addr×Obj)) (s:Sd) (σ:St) (H:Hp) (D:Fc),Inv X WI σ H s->t D σ H->wpAny (model X.prog X.w) X.A (execs st X.env) (SP X WI D) X.xe s
def so{α:Type}{t:Sem α}{Q Q':α->Sd->Prop}{M:Model}{A:Ar}{E:Vl->Sd->Prop}{s:Sd}(h:wpAny M A t Q E s)(hQ:∀a s,Q a s->Q' a s):wpAny M A t Q' E s:=dX h hQ λ_ _ x=>x
variable {tA tB':TT}{ta tb:TE}{pos:Pos}
section
def Hn(i:Nat):TE:=λσ H Q=>∃v,σ[i]?=some (some v)/\Q v H
def tC(v:V):TE:=λ_ H Q=>Q v H
def R6{i:Nat}{x:Str}{pos:Pos}(hN:X.N[i]?=some x)(hv:UF X.env.scope x)(hd:zG x:=by decide)(XZ:(x==("__classdict__":Str))=false:=by decide):PE X (.Name x pos) (Hn i):=by
 intro WI s σ H Q I h;obtain⟨v,e,h⟩:=h;obtain⟨m,hn,hl⟩:=I.loc;obtain⟨u,r,l⟩:=hl i x v hN e hv;have WN:EP X WI σ Q u s:=⟨v,H,I,r,h⟩;rcases l with⟨hk,hm⟩|⟨hk,c,hc,hcell⟩
 .exact lU (wpAny_loadName_local I.ok.kind hk hn hm WN) hd
 .rcases hk with hk|hk
  .exact lU (wpAny_loadName_cell I.ok.kind hk hc hcell WN) hd
  .exact lU (wpAny_loadName_free I.ok.kind hk hc hcell WN XZ) hd
def R7{i j pos}:PE X (.Constant (.int i) j pos) (tC (.int i)):=λ_ _ _ H _ I h=>wpAny_Constant_int ⟨.int i,H,I.tok _,⟨_,rfl⟩,h⟩
def Ux{b j pos}:PE X (.Constant (.bool b) j pos) (tC (.bl b)):=λ_ _ _ H _ I h=>Constant_bool ⟨.bl b,H,I,rfl,h⟩
def Ss{j pos}:PE X (.Constant .none j pos) (tC .mI):=λ_ _ _ H _ I h=>Constant_none ⟨.mI,H,I,rfl,h⟩
def RO{x j pos}:PE X (.Constant (.str x) j pos) (tC (.str x)):=λ_ _ _ H _ I h=>Calls.Constant_str ⟨.str x,H,I.tok _,⟨_,rfl⟩,h⟩
def Gl(X:Cx)(x:Str):Prop:=X.env.kindOf x=some .globalImplicit
def wV{E:Vl->Sd->Prop}{WI:List (Addr×Obj)}{s:Sd}{σ:St}{H:Hp}{x:Str}{u:Vl}{pos:Pos}{Q:Vl->Sd->Prop}(I:Inv X WI σ H s)(hg:Gl X x)(hm:X.mg x=some u)(h:Q u s) (hd:zG x:=by decide):wpAny (model X.prog X.w) X.A (eval (.Name x pos) X.env) Q E s:=
 jg I.ok.kind hg (Calls.loadGlobal_global (by rw[I.ok.glob];exact I.mod.glob.keeps I.bk) hm h) hd
def wW{E:Vl->Sd->Prop}{WI:List (Addr×Obj)}{s:Sd}{σ:St}{H:Hp}{x:Str}{u:Vl}{pos:Pos}{Q:Vl->Sd->Prop}(I:Inv X WI σ H s)(hg:Gl X x)(hm:X.mg x=none)(hv:bootBuiltins x=some u)(h:Q u s) (hn:x≠"__name__":=by decide) (hd:zG x:=by decide):wpAny (model X.prog X.w) X.A (eval (.Name x pos) X.env) Q E s:=by
 obtain⟨mb,h1,h2⟩:=I.mod.blt;exact jg I.ok.kind hg (Calls.loadGlobal_builtin (by rw[I.ok.glob];exact I.mod.glob.keeps I.bk) hm (by rw[I.ok.blt];exact h1.keeps I.bk) ((h2 x hn).trans hv) h) hd
def Fb{x:Str}{v:V}{u:Vl}{pos:Pos}(hg:Gl X x)(hm:X.mg x=some u)(r:qR v u)(hd:zG x:=by decide):PE X (.Name x pos) (tC v):=
 λ_ _ _ H _ I h=>wV I hg hm ⟨v,H,I,r,h⟩ hd
variable {a b:Expr}
def tB(t:TE):TT:=λσ H Q=>t σ H λx H1=>∃c,x=.bl c/\Q c H1
def Sq{e:Expr}{t:TE}(h:PE X e t)(he:∀Xg,isTrue e X.env Xg=(do let v<-Xg;standAt e.pos;holding [v] (truthy v)):=by intro _;rfl):PT X e (tB t):=by intro WI s σ H Q I hw;refine isTrue_plain (so (h WI s σ H _ I hw) λv s1 zz=>x5 zz λx H1 I1 r1 q1=>?_) (he _);obtain⟨d,rfl,q⟩:=q1;cases r1;exact fg ⟨H1,I1,q⟩
variable {rest:List Expr}
def Vr(t u:TT):TT:=λσ H Q=>t σ H λc H1=>if c=true then u σ H1 Q else Q false H1
def Ws(t u:TT):TT:=λσ H Q=>t σ H λc H1=>if c=true then Q true H1 else u σ H1 Q
def U4(t:TT):TT:=λσ H Q=>t σ H λc H1=>Q (!c) H1
def Oq(ha:PT X a tA):PW X (.BoolOp .And [a] pos) tA:=by
 intro wh WI s σ H Q I h;refine isTrue_and (so (ha WI s σ H Q I h) λc s1 e=>?_);cases c with
 | true=>exact isTrue_and_nil e
 | false=>exact e
def Q3(ha:PT X a tA):PW X (.BoolOp .Or [a] pos) tA:=by
 intro wh WI s σ H Q I h;refine isTrue_or (so (ha WI s σ H Q I h) λc s1 e=>?_);cases c with
 | false=>exact isTrue_or_nil e
 | true=>exact e
def RI(ha:PT X a tA)(hb:PW X (.BoolOp .And (b::rest) pos) tB'):PW X (.BoolOp .And (a::b::rest) pos) (Vr tA tB'):=by
 intro wh WI s σ H Q I h;refine isTrue_and (so (ha WI s σ H _ I h) λc s1 ⟨H1,I1,q1⟩=>?_);cases c with
 | true=>exact hb wh WI s1 σ H1 Q I1 q1
 | false=>exact⟨H1,I1,q1⟩
def UG(ha:PT X a tA)(hb:PW X (.BoolOp .Or (b::rest) pos) tB'):PW X (.BoolOp .Or (a::b::rest) pos) (Ws tA tB'):=by
 intro wh WI s σ H Q I h;refine isTrue_or (so (ha WI s σ H _ I h) λc s1 ⟨H1,I1,q1⟩=>?_);cases c with
 | true=>exact⟨H1,I1,q1⟩
 | false=>exact hb wh WI s1 σ H1 Q I1 q1
def Ra(ha:PT X a tA):PT X (.UnaryOp .Not a pos) (U4 tA):=by intro WI s σ H Q I h;exact isTrue_not (ha WI s σ H (λc H1=>Q (!c) H1) I h)
def Tj(ta tb:TE):TE:=λσ H Q=>ta σ H λx H1=>∃c,x=.bl c/\if c=true then tb σ H1 Q else Q (.bl false) H1
def VO(ta tb:TE):TE:=λσ H Q=>ta σ H λx H1=>∃c,x=.bl c/\if c=true then Q (.bl true) H1 else tb σ H1 Q
def T9(ta:TE):TE:=λσ H Q=>ta σ H λx H1=>∃c,x=.bl c/\Q (.bl (!c)) H1
def Rm{op}{t:TE}(h:PE X a t):PE X (.BoolOp op [a] pos) t:=λWI s σ H Q I hw=>BoolOp_one (h WI s σ H Q I hw)
def Rz(ha:PE X a ta)(hb:PE X (.BoolOp .And (b::rest) pos) tb):PE X (.BoolOp .And (a::b::rest) pos) (Tj ta tb):=by
 intro WI s σ H Q I h;refine BoolOp_and (so (ha WI s σ H _ I h) λv s1 zz=>x5 zz λx H1 I1 r1 q1=>?_);obtain⟨c,rfl,q1⟩:=q1;cases r1;refine fg ?_;cases c with
 | true=>exact hb WI s1 σ H1 Q I1 q1
 | false=>exact⟨.bl false,H1,I1,rfl,q1⟩
def Tn(ha:PE X a ta)(hb:PE X (.BoolOp .Or (b::rest) pos) tb):PE X (.BoolOp .Or (a::b::rest) pos) (VO ta tb):=by
 intro WI s σ H Q I h;refine BoolOp_or (so (ha WI s σ H _ I h) λv s1 zz=>x5 zz λx H1 I1 r1 q1=>?_);obtain⟨c,rfl,q1⟩:=q1;cases r1;refine fg ?_;cases c with
 | false=>exact hb WI s1 σ H1 Q I1 q1
 | true=>exact⟨.bl true,H1,I1,rfl,q1⟩
def RJ(ha:PE X a ta):PE X (.UnaryOp .Not a pos) (T9 ta):=by intro WI s σ H Q I h;refine UnaryOp_ (so (ha WI s σ H _ I h) λv s1 zz=>x5 zz λx H1 I1 r1 q1=>?_);obtain⟨c,rfl,q1⟩:=q1;cases r1;exact not_of (fg ⟨.bl (!c),H1,I1,rfl,q1⟩)
def WA(t:TT)(ta tb:TE):TE:=λσ H Q=>t σ H λc H1=>if c=true then ta σ H1 Q else tb σ H1 Q
def ME{c:Expr}(hc:PT X c tA)(ha:PE X a ta)(hb:PE X b tb):PE X (.IfExp c a b pos) (WA tA ta tb):=by
 intro WI s σ H Q I h;refine wpAny_IfExp (so (hc WI s σ H _ I h) λd s1 ⟨H1,I1,q1⟩=>?_);cases d with
 | true=>exact ha WI s1 σ H1 Q I1 q1
 | false=>exact hb WI s1 σ H1 Q I1 q1
end
def yX(K:qr)(H:Hp)(a:Addr)(xs:List V):Prop:=
 Rd H a (.lst xs)\/
  ∃(o:Obj) (its:Array Vl) (n:Nat),K.lookup a=some o/\o.cls=.type "list"/\o.dict=none/\o.data=.seq its n/\its.size<=sizeLine/\qz xs its.toList
def uW(K:qr)(H:Hp)(a:Addr)(xs:List V):Prop:=
 Rd H a (.tup xs)\/
  ∃(o:Obj) (its:Array Vl) (n:Nat),K.lookup a=some o/\o.cls=.type "tuple"/\o.dict=none/\o.data=.seq its n/\its.size<=sizeLine/\qz xs its.toList
def Vo:Vl->Option V
 | .none=>some .mI
 | .bool b=>some (.bl b)
 | .int i _=>some (.int i)
 | .str x _=>some (.str x)
 | .bytes b _=>some (.byt b)
 | .float b _=>some (.flt b)
 | .ref a=>some (.ref a)
 | .type n=>some (.ty n)
 | _=>none
def qR.abs{x:V}{u:Vl}(r:qR x u):Vo u=some x:=by
 cases x with
 | mI=>cases r;rfl
 | bl _=>cases r;rfl
 | int _=>obtain⟨t,rfl⟩:=r;rfl
 | str _=>obtain⟨t,rfl⟩:=r;rfl
 | byt _=>obtain⟨t,rfl⟩:=r;rfl
 | flt _=>obtain⟨t,rfl⟩:=r;rfl
 | ref _=>cases r;rfl
 | ty _=>cases r;rfl
def qR.inj{x y:V}{u:Vl}(r:qR x u)(q:qR y u):x=y:=c9 (r.abs.symm.trans q.abs)
theorem qz.inj:∀{xs ys:List V} {us:List Vl},qz xs us->qz ys us->xs=ys
 | _,_,_,.nil,.nil=>rfl
 | _,_,_,.cons r t,.cons r' t'=>by rw[r.inj r',qz.inj t t']
variable {xs ys:List V}
section
variable {σ:St}{a:Addr}
def uW.of{K:qr}(h:H a=some (.tup xs)):uW K H a xs:=.inl (.inl h)
def Inv.list(I:Inv X WI σ H s)(h:yX X.K H a xs):∃its:List Vl,qz xs its/\PlainL s.heap a its.toArray/\xs.length<=sizeLine:=by
 rcases h with h|⟨o,its,n,hk,hc,hd,hs,hz,r⟩
 .obtain⟨z,its,n,r,e⟩:=h.ok I.mP;exact⟨its,r,⟨_,n,e,rfl,rfl,rfl⟩,z⟩
 .refine⟨its.toList,r,⟨o,n,I.ny a o hk,hc,hd,by simpa using hs⟩,?_⟩;have e:=r.length;simp only[ig]at e;omega
def Inv.tuple(I:Inv X WI σ H s)(h:uW X.K H a xs):∃its:List Vl,qz xs its/\IsTup s.heap a its.toArray/\xs.length<=sizeLine:=by
 rcases h with h|⟨o,its,n,hk,hc,hd,hs,hz,r⟩
 .obtain⟨z,its,r,p⟩:=h.ok I.mP;exact⟨its,r,p.is,z⟩
 .refine⟨its.toList,r,⟨o,I.ny a o hk,hc,n,by simpa using hs⟩,?_⟩;have e:=r.length;simp only[ig]at e;omega
def Inv.nO(I:Inv X WI σ H s)(h:yX X.K H a xs)(h':yX X.K H a ys):xs=ys:=by
 obtain⟨its,r,⟨o,n,e,_,_,d⟩,_⟩:=I.list h;obtain⟨its',r',⟨o',n',e',_,_,d'⟩,_⟩:=I.list h';rw[e]at e';cases e';rw[d]at d';injection d' with d1 _
 have:its=its':=by simpa using eG Array.toList d1
 subst this;exact r.inj r'
def Inv.m8(I:Inv X WI σ H s)(h:uW X.K H a xs)(h':uW X.K H a ys):xs=ys:=by
 obtain⟨its,r,⟨o,e,_,n,d⟩,_⟩:=I.tuple h;obtain⟨its',r',⟨o',e',_,n',d'⟩,_⟩:=I.tuple h';rw[e]at e';cases e';rw[d]at d';injection d' with d1 _
 have:its=its':=by simpa using eG Array.toList d1
 subst this;exact r.inj r'
end
abbrev Cx.nH(X:Cx)(E:Vl->Sd->Prop):Cx:={X with xe:=E}
abbrev Cx.oB(X:Cx):Cx:=X.nH λ_ _=>False
def Cx.Ok.nH{X:Cx}(ok:X.Ok)(E:Vl->Sd->Prop):(X.nH E).Ok:=
 ⟨ok.mod,ok.kind,ok.glob,ok.blt,ok.above,ok.inj,ok.has,ok.om,ok.hd,ok.frames,ok.oF,ok.oU,ok.bs,ok.nY,ok.nP,ok.nR,ok.nk,ok.oh⟩
def Cx.Ok.m7{X:Cx}{E:Vl->Sd->Prop}(ok:(X.nH E).Ok):X.Ok:=
 ⟨ok.mod,ok.kind,ok.glob,ok.blt,ok.above,ok.inj,ok.has,ok.om,ok.hd,ok.frames,ok.oF,ok.oU,ok.bs,ok.nY,ok.nP,ok.nR,ok.nk,ok.oh⟩
section
variable {σ:St}{E:Vl→Sd→Prop}
def Inv.nH(I:Inv X WI σ H s)(E:Vl->Sd->Prop):Inv (X.nH E) WI σ H s:=⟨I.ok.nH E,I.os,I.bare,I.base,I.loc,I.cell,I.free,I.mW,I.pin,I.mP,I.len⟩
def Inv.m7(I:Inv (X.nH E) WI σ H s):Inv X WI σ H s:=⟨I.ok.m7,I.os,I.bare,I.base,I.loc,I.cell,I.free,I.mW,I.pin,I.mP,I.len⟩
def SP.m7{D:Fc}{f:Flow}{s':Sd}(h:SP (X.nH E) WI D f s'):SP X WI D f s':=by
 cases f with
 | next=>obtain⟨σ',H',I,q⟩:=h;exact⟨σ',H',I.m7,q⟩
 | brk=>obtain⟨σ',H',I,q⟩:=h;exact⟨σ',H',I.m7,q⟩
 | cont=>obtain⟨σ',H',I,q⟩:=h;exact⟨σ',H',I.m7,q⟩
 | ret u=>obtain⟨v,σ',H',I,r,q⟩:=h;exact⟨v,σ',H',I.m7,r,q⟩
def Co.oB{st:List Stmt}{t:TS}(h:Co X.oB st t):Co X st t:=λWI s σ H D I hw=>dX (h WI s σ H D (I.nH _) hw) (λ_ _ q=>q.m7) λ_ _ z=>False.elim z
end
variable {st:Stmt}{u:TS}{te:TE}
section
variable {rest:List Stmt}{t:TS}{e:Expr}
def Tx:TS:=λD σ H=>D.nx σ H
def VE(t u:TS):TS:=λD σ H=>t {D with nx:=u D} σ H
def OF:Co X [] Tx:=λ_ _ σ H _ I h=>gM ⟨σ,H,I,h⟩
def Me(h1:PS X st t)(h2:Co X rest u):Co X (st::rest) (VE t u):=by
 intro WI s σ H D I h;refine jw (so (h1 WI s σ H {D with nx:=u D} I h) λf s1 q=>?_);cases f with
 | next=>obtain⟨σ',H',I',q⟩:=q;exact h2 WI s1 σ' H' D I' q
 | ret v=>exact q
 | brk=>exact q
 | cont=>exact q
def JM(h1:PS X st t):Co X [st] t:=by
 intro WI s σ H D I h;refine jw (so (h1 WI s σ H D I h) λf s1 q=>?_);cases f with
 | next=>exact gM q
 | ret v=>exact q
 | brk=>exact q
 | cont=>exact q
def Inv.quiet{WI:List (Addr×Obj)}{σ:St}{H:Hp}{s:Sd}(I:Inv X WI σ H s):interactive X.env=false:=by simp[interactive,I.ok.kind]
def Ul(te:TE):TS:=λD σ H=>te σ H λ_ H1=>D.nx σ H1
def Ox(he:PE X e te)(hs:swapsWith e none pos.line X.env=pure false:=by rfl):PS X (.Expr e pos) (Ul te):=by intro WI s σ H D I h;exact wpAny_Expr_any (so (he WI s σ H _ I h) λv s1 zz=>x5 zz λx H1 I1 r1 q1=>⟨σ,H1,I1,q1⟩) I.quiet hs
def VA(te:TE):TS:=λD σ H=>te σ H D.rt
def Q2(he:PE X e te):PS X (.Return (some e) pos) (VA te):=by intro WI s σ H D I h;exact wpAny_Return_some (so (he WI s σ H _ I h) λv s1 zz=>x5 zz λx H1 I1 r1 q1=>⟨x,σ,H1,I1,r1,q1⟩)
def Vb(c:TT)(t u:TS):TS:=λD σ H=>c σ H λb H1=>if b=true then t D σ H1 else u D σ H1
def Ta{c:Expr}{a b:List Stmt}{tc:TT}(hc:PT X c tc)(ha:Co X a t)(hb:Co X b u):PS X (.If c a b pos) (Vb tc t u):=by
 intro WI s σ H D I h;refine wpAny_If (so (hc WI s σ H _ I h) λd s1 ⟨H1,I1,q1⟩=>?_);cases d with
 | true=>exact ha WI s1 σ H1 D I1 q1
 | false=>exact hb WI s1 σ H1 D I1 q1
def Sh:TS:=λ_ _ _=>False
def MT:PS X st Sh:=λ_ _ _ _ _ _ h=>h.elim
end
abbrev TG:=V->St->Hp->(St->Hp->Prop)->Prop
abbrev Oo:=List V->St->Hp->(St->Hp->Prop)->Prop
def PG(X:Cx)(Xc:Expr)(t:TG):Prop:=
 ∀(WI:List (Addr×Obj)) (s:Sd) (σ:St) (H:Hp) (v:V) (u:Vl) (Q:St->Hp->Prop),Inv X WI σ H s->qR v u->t v σ H Q->
  wpAny (model X.prog X.w) X.A (assign Xc X.env u) (λ_ s'=>∃σ' H',Inv X WI σ' H' s'/\Q σ' H') X.xe s
def NG(X:Cx)(ts:List Expr)(t:Oo):Prop:=
 ∀(WI:List (Addr×Obj)) (s:Sd) (σ:St) (H:Hp) (vs:List V) (us:List Vl) (Q:St->Hp->Prop),Inv X WI σ H s->qz vs us->t vs σ H Q->
  wpAny (model X.prog X.w) X.A (assignInOrder ((assignEach ts X.env).map (·.2)) us) (λ_ s'=>∃σ' H',Inv X WI σ' H' s'/\Q σ' H') X.xe s
abbrev Q4:=V->V->V->Hp->(Hp->Prop)->Prop
def S9(X:Cx)(t:Q4):Prop:=
 ∀(WI:List (Addr×Obj)) (s:Sd) (σ:St) (H:Hp) (o i v:V) (ov iv u:Vl) (Q:Hp->Prop),Inv X WI σ H s->qR o ov->qR i iv->qR v u->t o i v H Q->
  wpAny (model X.prog X.w) X.A (setItem ov iv u) (λ_ s'=>∃H',Inv X WI σ H' s'/\Q H') X.xe s
def Nd(i:Nat):TG:=λv σ H Q=>Q (σ.set i (some v)) H
def OO{i:Nat}{x:Str}(hN:X.N.Nodup)(hi:X.N[i]?=some x)(hx:KW X.env.scope x)(hf:KS X x:=by first|exact .inl rfl|exact .inr rfl|assumption):PG X (.Name x pos) (Nd i):=by intro WI s σ H v u Q I r h;exact kX (BV I hN hi hx r (λs' I'=>⟨_,H,I',h⟩) hf)
def VN:Oo:=λvs σ H Q=>vs=[]/\Q σ H
def To(t:TG)(u:Oo):Oo:=λvs σ H Q=>∃v r,vs=v::r/\t v σ H λσ' H'=>u r σ' H' Q
def O5:NG X [] VN:=by intro WI s σ H vs us Q I r h;obtain⟨e,h⟩:=h;subst e;cases r;exact assignInOrder_nil ⟨σ,H,I,h⟩
def Nu{e:Expr}{es:List Expr}{t:TG}{u:Oo}(h1:PG X e t)(h2:NG X es u) (hs:(assignEach (e::es) X.env).map (·.2)=assign e X.env::(assignEach es X.env).map (·.2):=by rfl):NG X (e::es) (To t u):=by
 intro WI s σ H vs us Q I r h;obtain⟨v,vr,e1,h⟩:=h;subst e1;cases r with
 | cons r rr=>rw[hs];refine assignInOrder_cons (so (h1 WI s σ H _ _ _ I r h) λ_ s1 ⟨σ1,H1,I1,q1⟩=>?_);exact h2 WI s1 σ1 H1 _ _ Q I1 rr q1
def VY(K:qr)(n:Nat)(t:Oo):TG:=λv σ H Q=>∃a xs,v=.ref a/\uW K H a xs/\xs.length=n/\t xs σ H Q
def RT{es:List Expr}{k:Nat}{t:Oo}{n:Nat}(hc:X.calm=true)(h:NG X es t) (hn:(assignEach es X.env).length=n:=by rfl) (W7:(assignEach es X.env).findIdx? (·.1)=none:=by rfl):PG X (.Tuple es k pos) (VY X.K n t):=by
 intro WI s σ H v u Q I r hw;obtain⟨a,xs,e1,hq,hl,hw⟩:=hw;subst e1;cases r;obtain⟨its,rv,ht,hz⟩:=I.tuple hq;refine assign_Tuple_tuple (I.ok.hd hc) ht (by simp[hn,<-hl,rv.length]) W7 λh' hx=>?_;have I1:Inv X WI σ H {s with heap:=h'}:=I.kept (t':=s.toks) λb o e=>hx b o (dB (dh e)) e;exact h WI _ σ H xs _ Q I1 (by simpa using rv) hw
def Vf(to ti:TE)(t:Q4):TG:=λv σ H Q=>to σ H λo H1=>ti σ H1 λi H2=>t o i v H2 λH3=>Q σ H3
def RD{o i:Expr}{to ti:TE}{t:Q4}(ho:PE X o to)(hi:PE X i ti)(hs:S9 X t) (ha:∀v,assign (.Subscript o i pos) X.env v=(do
   let ov<-holding [v] (eval o X.env);let iv<-holding [v,ov] (eval i X.env)
   standAt pos
   holding [v,ov,iv] (setItem ov iv v)
   release [v,ov,iv] []):=by intro _;rfl):PG X (.Subscript o i pos) (Vf to ti t):=by
 intro WI s σ H v u Q I r h;rw[ha];refine cR (eN (so (ho WI s σ H _ I h) λov s1 zz=>x5 zz λx H1 I1 r1 q1=>?_));refine cR (eN (so (hi WI s1 σ H1 _ I1 q1) λiv s2 zz=>x5 zz λy H2 I2 r2 q2=>?_));refine cR (ic (cR (eN (so (hs WI s2 σ H2 x y v ov iv u _ I2 r1 r2 r q2) λ_ s3 ⟨H3,I3,q3⟩=>?_))));exact wpAny_release ⟨σ,H3,I3,q3⟩
def QT(te:TE)(g:TG):TS:=λD σ H=>te σ H λx H1=>g x σ H1 D.nx
def Q6{tg e:Expr}{te:TE}{g:TG}(he:PE X e te)(hg:PG X tg g)(hs:swapsWithSole [tg] e pos.line X.env=pure false:=by rfl)(hw:swappedStores [tg] e X.env=pure none:=by rfl)
  (h1:(assignEach [tg] X.env).map (·.2)=[assign tg X.env]:=by rfl):PS X (.Assign [tg] e pos) (QT te g):=by
 intro WI s σ H D I h;refine wpAny_Assign_stores (so (he WI s σ H _ I h) λv s1 zz=>x5 zz λx H1 I1 r1 q1=>?_) hs hw;rw[h1];exact so (hg WI s1 σ H1 x v _ I1 r1 q1) λ_ s2 q=>q
def Sw{i:Nat}{x:Str}{e:Expr}{te:TE}{WQ:Pos}(hN:X.N.Nodup)(hi:X.N[i]?=some x)(hx:KW X.env.scope x)(he:PE X e te)(hs:swapsWith e (some (.Name x WQ)) pos.line X.env=pure false:=by rfl)(hf:KS X x:=by first|exact .inl rfl|exact .inr rfl|assumption):
  PS X (.Assign [.Name x WQ] e pos) (QT te (Nd i)):=by
 intro WI s σ H D I h;refine kY (so (he WI s σ H _ I h) λv s1 zz=>x5 zz λy H1 I1 r1 q1=>?_) hs;exact BV I1 hN hi hx r1 (λs2 I2=>⟨_,H1,I2,q1⟩) hf
def SK(c:TT)(tb:TS):TS:=λD σ H=>∃W:Nat->St->Hp->Prop,(∃m,W m σ H)/\∀m σ H,W m σ H->
 c σ H λb H1=>if b=true then ∃N:St->Hp->Prop,(∀σ' H',N σ' H'->∃m',m'<m/\W m' σ' H')/\tb {D with nx:=N,ct:=N,bk:=D.nx} σ H1 else D.nx σ H1
def Lr{c:Expr}{body:List Stmt}{tc:TT}{tb:TS}(hp:PassesOwn (model X.prog X.w) X.A X.env X.xe)(hc:PT X c tc)(hb:Co X body tb):PS X (.While c body [] pos) (SK tc tb):=by
 intro WI s σ H D I h;obtain⟨W,⟨m0,w0⟩,turn⟩:=h;refine wpAny_While (codeAny_whileLoop (λn s'=>∃σ' H',Inv X WI σ' H' s'/\W n σ' H') ?_ m0 ⟨σ,H,I,w0⟩)
 rintro n s1 ⟨σ1,H1,I1,w1⟩
 refine gA hp (so (hc WI s1 σ1 H1 _ I1 (turn n σ1 H1 w1)) λb s2 ⟨H2,I2,q2⟩=>?_);cases b with
 | true=>
  obtain⟨N,hN,q2⟩:=q2;rw[cX rfl];refine gA hp (so (hb WI s2 σ1 H2 _ I2 q2) λf s3 q3=>?_);cases f with
  | next=>obtain⟨σ3,H3,I3,n3⟩:=q3;obtain⟨m',hm,w3⟩:=hN σ3 H3 n3;exact⟨m',hm,σ3,H3,I3,w3⟩
  | cont=>obtain⟨σ3,H3,I3,n3⟩:=q3;obtain⟨m',hm,w3⟩:=hN σ3 H3 n3;exact⟨m',hm,σ3,H3,I3,w3⟩
  | brk=>exact q3
  | ret v=>exact q3
 | false=>rw[cV dn];exact gM ⟨σ1,H2,I2,q2⟩
structure It where
 go:Nat->Hp->Prop
 oN:Nat->Hp->V->Hp->Prop
 stop:Nat->Hp->Prop
def AQ(X:Cx)(WI:List (Addr×Obj))(H:Hp)(b:Addr):Prop:=
 H b=none/\b≠X.env.locals/\b∉X.fs/\(b∈X.ex\/X.s₀.heap.objs.size<=b)/\(∀x c,X.env.cells.lookup x=some c->c≠b)/\∀p∈X.pn++WI,p.1≠b
def Inv.nU{X:Cx}{WI:List (Addr×Obj)}{σ:St}{H H':Hp}{s:Sd}{b:Addr}(I:Inv X WI σ H s)(hb:s.heap.objs.size<=b)(hn:H' b=none):AQ X WI H' b:=by
 refine⟨hn,gH (dJ I.lt hb),I.oO hb,.inr (dN I.sz hb),λx c e z=>?_,λp hp z=>?_⟩
 .obtain⟨v,q⟩:=I.cell x c e;exact absurd (dJ q.lt (by rw[z];exact hb)) (eX _)
 .exact absurd (dJ (dh (I.pin p hp).1) (by rw[z];exact hb)) (eX _)
structure Gz(P:Pg)(w:Wo)(K:qr)(tg:Expr)(J:It)(fp:List Addr)(it:Addr)(tn:Nat->Heap->Prop):Prop where
 mem:it∈fp
 obj:∀i h,tn i h->∀b∈fp,∃o,h.get? b=some o/\∀v,o.data≠.cell v
 keep:∀i h h',tn i h->(∀b∈fp,∀o,h.get? b=some o->h'.get? b=some o)->tn i h'
 item:∀(X:Cx),X.prog=P->X.w=w->X.K=K->X.calm=true->∀(i:Nat) (WI:List (Addr×Obj)) (s:Sd) (σ:St) (H:Hp) (E:Vl->Sd->Prop),Inv X WI σ H s->(∀b∈fp,AQ X WI H b)->tn i s.heap->J.go i H->
  wpAny (model P w) X.A (pyNext (.ref it)) (λr s1=>∃u,r=some u/\
   wpAny (model P w) X.A (letOwnedTupleGo tg (.ref it) u) (λ_ s2=>∃x H',Inv X WI σ H' s2/\qR x u/\J.oN i H x H'/\tn (i+1) s2.heap/\∀b∈fp,H' b=none) E s1) E s
 done:∀(X:Cx),X.prog=P->X.w=w->X.K=K->X.calm=true->∀(i:Nat) (WI:List (Addr×Obj)) (s:Sd) (σ:St) (H:Hp) (E:Vl->Sd->Prop),Inv X WI σ H s->(∀b∈fp,AQ X WI H b)->tn i s.heap->J.stop i H->
  wpAny (model P w) X.A (pyNext (.ref it)) (λr s1=>r=none/\Inv X WI σ H s1) E s
 self:∀(A:Ar) (i:Nat) (s:Sd) (Q:Vl->Sd->Prop) (E:Vl->Sd->Prop),tn i s.heap->Q (.ref it) s->wpAny (model P w) A (pyIter (.ref it)) Q E s
abbrev TI:=St->Hp->(It->Hp->Prop)->Prop
def Wb(X:Cx)(WI:List (Addr×Obj))(σ:St)(tg:Expr)(R:It->Hp->Prop)(itv:Vl)(s2:Sd):Prop:=
 ∃(it:Addr) (fp:List Addr) (tn:Nat->Heap->Prop) (J:It) (H':Hp),itv=.ref it/\Inv X WI σ H' s2/\Gz X.prog X.w X.K tg J fp it tn/\tn 0 s2.heap/\(∀b∈fp,AQ X WI H' b)/\R J H'
def PI(X:Cx)(tg iter:Expr)(wi:TI):Prop:=
 ∀(WI:List (Addr×Obj)) (s:Sd) (σ:St) (H:Hp) (R:It->Hp->Prop),Inv X WI σ H s->wi σ H R->
  wpAny (model X.prog X.w) X.A (eval iter X.env) (λv s1=>wpAny (model X.prog X.w) X.A (pyIter v) (Wb X WI σ tg R) X.xe s1) X.xe s
def JN{M:Model}{A:Ar}{E:Vl->Sd->Prop}{s:Sd}{tg:Expr}{it:Addr}{u:Vl}{o:Obj}{n:String}{vs:Array Vl}{Q:Unit->Sd->Prop}(ho:s.heap.get? it=some o)(hc:o.cls=.type n)(hd:o.data=.fields vs) (hn:["enumerate","zip","dict_itemiterator","dict_reverseitemiterator","odict_iterator","itertools.zip_longest","itertools.pairwise"].contains n=false) (hQ:Q () s):wpAny M A (letOwnedTupleGo tg (.ref it) u) Q E s:=by
  unfold letOwnedTupleGo;cases tg<;>first
    | exact de hQ
    | (cases u<;>first
        | exact de hQ
        | (refine cR (wpAny_load ho ?_)
           rw[hc,hd];show wpAny M A (if (["enumerate","zip","dict_itemiterator","dict_reverseitemiterator","odict_iterator","itertools.zip_longest","itertools.pairwise"].contains n&&vs[0]?==some (rawInt _))=true then _ else _) Q E s;rw[cV (by intro h;rw[hn,eM]at h;cases h)];exact de hQ))
def UK(K:qr)(a:Addr):It:=
 ⟨λi H=>∃xs x,yX K H a xs/\xs[i]?=some x,λi H x H'=>H'=H/\∀xs,yX K H a xs->xs[i]?=some x,λi H=>∃xs,yX K H a xs/\xs.length<=i⟩
def U0(K:qr)(a:Addr):It:=
 ⟨λi H=>∃xs x,uW K H a xs/\xs[i]?=some x,λi H x H'=>H'=H/\∀xs,uW K H a xs->xs[i]?=some x,λi H=>∃xs,uW K H a xs/\xs.length<=i⟩
def TB(lo:Int)(n:Nat):It:=⟨λi _=>i<n,λi H x H'=>H'=H/\x=.int (lo+i),λi _=>n<=i⟩
def Kt{P:Pg}{w:Wo}{K:qr}{tg:Expr}(a it:Addr):Gz P w K tg (UK K a) [it] it (λi h=>h.IsListIter it a i) where
 mem:=by simp
 obj:=λi h st b hb=>by
  have e:b=it:=by simpa using hb
  subst e;obtain⟨o,e,c,d⟩:=st;exact⟨o,e,λv z=>by rw[d]at z;cases z⟩
 keep:=λi h h' st k=>st.at λo e=>k it (by simp) o e
 item:=by intro X hP hw hK hc i WI s σ H E I hf st hg;subst hP hw hK;obtain⟨xs,x,hq,hx⟩:=hg;obtain⟨its,rv,p,hz⟩:=I.list hq;obtain⟨u,hu,ru⟩:=rv.get hx;obtain⟨f0,f1,f2,f3,f4,f5⟩:=hf it (by simp);refine wpAny_pyNext_list_item st p.isList (x:=u) (by simpa using hu) λh' Xz sb=>?_;have I1:Inv X WI σ H {s with heap:=h'}:=I.turned (t':=s.toks) (λb o hb e=>(sb.2 b hb).trans e) f0 f1 f3 f4 f5;obtain⟨o,e,c,d⟩:=id Xz;exact⟨u,rfl,JN (s:={s with heap:=h'}) e c d (by decide) ⟨x,H,I1,ru,⟨rfl,λys hy=>by rw[I.nO hy hq];exact hx⟩,Xz,λb hb=>(hf b hb).1⟩⟩
 done:=by intro X hP hw hK hc i WI s σ H E I hf st hg;subst hP hw hK;obtain⟨xs,hq,hx⟩:=hg;obtain⟨its,rv,p,hz⟩:=I.list hq;obtain⟨f0,f1,f2,f3,f4,f5⟩:=hf it (by simp);have hl:=rv.length;exact wpAny_pyNext_list_end (I.ok.hd hc) st p.isList (by simp;omega) λh' eb=>⟨rfl,I.turned (t':=s.toks) (λb o hb e=>eb b o hb e) f0 f1 f3 f4 f5⟩
 self:=λ_ _ _ _ _ st h=>wpAny_pyIter_listiter st h
def Iv{P:Pg}{w:Wo}{K:qr}{tg:Expr}(a it:Addr):Gz P w K tg (U0 K a) [it] it (λi h=>h.IsTupleIter it a i) where
 mem:=by simp
 obj:=λi h st b hb=>by
  have e:b=it:=by simpa using hb
  subst e;obtain⟨o,e,c,d⟩:=st;exact⟨o,e,λv z=>by rw[d]at z;cases z⟩
 keep:=λi h h' st k=>st.at λo e=>k it (by simp) o e
 item:=by intro X hP hw hK hc i WI s σ H E I hf st hg;subst hP hw hK;obtain⟨xs,x,hq,hx⟩:=hg;obtain⟨its,rv,p,hz⟩:=I.tuple hq;obtain⟨u,hu,ru⟩:=rv.get hx;obtain⟨f0,f1,f2,f3,f4,f5⟩:=hf it (by simp);refine wpAny_pyNext_tuple_item st (show s.heap.IsTuple a its.toArray from p) (x:=u) (by simpa using hu) λh' Xz sb=>?_;have I1:Inv X WI σ H {s with heap:=h'}:=I.turned (t':=s.toks) (λb o hb e=>(sb.2 b hb).trans e) f0 f1 f3 f4 f5;obtain⟨o,e,c,d⟩:=id Xz;exact⟨u,rfl,JN (s:={s with heap:=h'}) e c d (by decide) ⟨x,H,I1,ru,⟨rfl,λys hy=>by rw[I.m8 hy hq];exact hx⟩,Xz,λb hb=>(hf b hb).1⟩⟩
 done:=by intro X hP hw hK hc i WI s σ H E I hf st hg;subst hP hw hK;obtain⟨xs,hq,hx⟩:=hg;obtain⟨its,rv,p,hz⟩:=I.tuple hq;obtain⟨f0,f1,f2,f3,f4,f5⟩:=hf it (by simp);have hl:=rv.length;exact wpAny_pyNext_tuple_end (I.ok.hd hc) st (show s.heap.IsTuple a its.toArray from p) (by simp;omega) λh' eb=>⟨rfl,I.turned (t':=s.toks) (λb o hb e=>eb b o hb e) f0 f1 f3 f4 f5⟩
 self:=λ_ _ _ _ _ st h=>wpAny_pyIter_tupleiter st h
def Hk{P:Pg}{w:Wo}{K:qr}{tg:Expr}(it:Addr)(lo:Int)(n:Nat):Gz P w K tg (TB lo n) [it] it (λi h=>IsRangeIter h it (lo+(i:Nat)*1) ((n:Int) - (i:Nat)) 1) where
 mem:=by simp
 obj:=λi h st b hb=>by
  have e:b=it:=by simpa using hb
  subst e;exact⟨_,st,λv z=>by
   have z':Data.fields _=Data.cell v:=z;cases z'⟩
 keep:=λi h h' st k=>k it (by simp) _ st
 item:=by intro X hP hw hK hc i WI s σ H E I hf st hg;subst hP hw hK;obtain⟨f0,f1,f2,f3,f4,f5⟩:=hf it (by simp);have W:=Walks.range (prog:=X.prog) (w:=X.w) (I.ok.hd hc) it lo 1 n;refine W.item i s _ _ hg st λv h' tk hv Xz kk=>?_;obtain⟨t,rfl⟩:=hv;have I1:Inv X WI σ H {s with heap:=h',toks:=tk}:=I.turned (λb o hb e=>kk b o (by simpa using hb) e) f0 f1 f3 f4 f5;refine⟨_,rfl,JN (s:={s with heap:=h',toks:=tk}) (n:="range_iterator") Xz rfl rfl (by decide) ⟨.int (lo+i),H,I1,⟨t,?_⟩,⟨rfl,rfl⟩,Xz,λb hb=>(hf b hb).1⟩⟩;rw[Int.mul_one]
 done:=by intro X hP hw hK hc i WI s σ H E I hf st hg;subst hP hw hK;obtain⟨f0,f1,f2,f3,f4,f5⟩:=hf it (by simp);exact wpAny_pyNext_range_end (I.ok.hd hc) st (by have:n<=i:=hg;omega) λh' eb=>⟨rfl,I.turned (t':=s.toks) (λb o hb e=>eb b o hb e) f0 f1 f3 f4 f5⟩
 self:=λ_ _ _ _ _ st h=>wpAny_pyIter_rangeiter st h
variable {tg:Expr}
def FN{WI:List (Addr×Obj)}{σ:St}{H:Hp}{s:Sd}{R:It->Hp->Prop}{E:Vl->Sd->Prop}{lo hi:Int}{t u v:Tok}{tk:Nat}(I:Inv X WI σ H s)(h1:-(2 ^ 62)<=lo)(h2:lo<2 ^ 62)(h3:-(2 ^ 62)<=hi)(h4:hi<2 ^ 62) (q:R (TB lo (hi - lo).toNat) H):wpAny (model X.prog X.w) X.A (pyIter (.ref s.heap.objs.size)) (Wb X WI σ tg R) E {s with heap:=s.heap.push {cls:=.type "range",data:=.fields #[.int lo t,.int hi u,.int 1 v]},toks:=tk}:=by
 refine wpAny_pyIter_range (IsRange.new ..) (small_one h1 h2 h3 h4) ?_;have I1:Inv X WI σ H {s with heap:=s.heap.push {cls:=.type "range",data:=.fields #[.int lo t,.int hi u,.int 1 v]},toks:=tk}:=I.kept λb o e=>cW _ e;refine⟨(s.heap.push {cls:=.type "range",data:=.fields #[.int lo t,.int hi u,.int 1 v]}).objs.size,[(s.heap.push {cls:=.type "range",data:=.fields #[.int lo t,.int hi u,.int 1 v]}).objs.size],_,_,H,rfl,I1.kept (t':=tk) λb o e=>cW _ e,Hk _ lo (hi - lo).toNat,?_,λb hb=>?_,q⟩
 .have e1:lo+((0:Nat):Int)*1=lo:=by simp
  have e2:(((hi - lo).toNat:Nat):Int) - ((0:Nat):Int)=Builtin.Range.rangeSize lo hi 1:=by rw[rangeSize_one];split<;>omega
  show IsRangeIter _ _ (lo+((0:Nat):Int)*1) ((((hi - lo).toNat:Nat):Int) - ((0:Nat):Int)) 1;rw[e1,e2];exact dA _ rfl
 .have e:b=(s.heap.push {cls:=.type "range",data:=.fields #[.int lo t,.int hi u,.int 1 v]}).objs.size:=by simpa using hb
  subst e;exact I1.nU (cZ _) (I1.mP.fresh (cZ _))
def Uy(ta:TA):TI:=λσ H R=>ta σ H λvs H1=>∃j:Int,vs=[.int j]/\-(2 ^ 62)<=j/\j<2 ^ 62/\R (TB 0 j.toNat) H1
def Uv(ta:TA):TI:=λσ H R=>ta σ H λvs H1=>∃i j:Int,vs=[.int i,.int j]/\(-(2 ^ 62)<=i/\i<2 ^ 62/\-(2 ^ 62)<=j/\j<2 ^ 62)/\R (TB i (j - i).toNat) H1
def Kx{a:Expr}{ta:TA}{p pos:Pos}(hg:Gl X "range")(hm:X.mg "range"=none)(ha:PA X [a] ta)(hs:starEach [a] X.env=[(false,eval a X.env)]:=by rfl):PI X tg (.Call (.Name "range" p) [a] [] pos) (Uy ta):=by
 intro WI s σ H R I h;refine Call_ (wW I hg hm boot_range (fG (so (ha pos WI s σ H _ I h) λus s1 zz=>x5 zz λvs H1 I1 r1 q1=>?_) hs rfl));obtain⟨j,e,q1,q2,q⟩:=q1;subst e;cases r1 with
 | cons r rr=>cases rr;obtain⟨t,rfl⟩:=r;exact call_range_1 (FN I1 (by omega) (by omega) q1 q2 (by simpa using q))
def JT{a b:Expr}{ta:TA}{p pos:Pos}(hg:Gl X "range")(hm:X.mg "range"=none)(ha:PA X [a,b] ta)(hs:starEach [a,b] X.env=[(false,eval a X.env),(false,eval b X.env)]:=by rfl)(XW:starEach [b] X.env=[(false,eval b X.env)]:=by rfl):
  PI X tg (.Call (.Name "range" p) [a,b] [] pos) (Uv ta):=by
 intro WI s σ H R I h;refine Call_ (wW I hg hm boot_range (fG (so (ha pos WI s σ H _ I h) λus s1 zz=>x5 zz λvs H1 I1 r1 q1=>?_) (by rw[hs,XW]) (by rw[XW];rfl)));obtain⟨i,j,e,⟨q1,q2,q3,q4⟩,q⟩:=q1;subst e;cases r1 with
 | cons r rr=>
  cases rr with
  | cons r' rr=>cases rr;obtain⟨t,rfl⟩:=r;obtain⟨t',rfl⟩:=r';exact call_range_2 (FN I1 q1 q2 q3 q4 q)
def VS(wi:TI)(g:TG)(tb:TS):TS:=λD σ H=>wi σ H λJ H1=>∃W:Nat->Nat->St->Hp->Prop,(∃m,W 0 m σ H1)/\∀i m σ H,W i m σ H->
 (J.stop i H/\D.nx σ H)\/(J.go i H/\∃N:St->Hp->Prop,(∀σ' H',N σ' H'->∃m',m'<m/\W (i+1) m' σ' H')/\∀x H',J.oN i H x H'->g x σ H' λσ2 H2=>tb {D with nx:=N,ct:=N,bk:=D.nx} σ2 H2)
def B8(fp:List Addr)(h:Heap):List (Addr×Obj):=fp.filterMap λb=>(h.get? b).map λo=>(b,o)
def vf{fp:List Addr}{h:Heap}{b:Addr}{o:Obj}(hb:b∈fp)(e:h.get? b=some o):(b,o)∈B8 fp h:=kI.mpr ⟨b,hb,by rw[e];rfl⟩
def Kc{fp:List Addr}{h:Heap}{p:Addr×Obj}(hp:p∈B8 fp h):p.1∈fp/\h.get? p.1=some p.2:=by
 obtain⟨b,hb,e⟩:=kI.mp hp;cases q:h.get? b with
 | none=>rw[q]at e;cases e
 | some o=>rw[q]at e;have e':(b,o)=p:=c9 e;subst e';exact⟨hb,q⟩
def Inv.pinned{WI:List (Addr×Obj)}{σ:St}{H:Hp}{s:Sd}{fp:List Addr}(I:Inv X WI σ H s)(hf:∀b∈fp,AQ X WI H b)(ho:∀b∈fp,∃o,s.heap.get? b=some o/\∀v,o.data≠.cell v):Inv X (WI++B8 fp s.heap) σ H s:=
 I.nJ λp hp=>(dR.mp hp).elim (λz=>I.pin p (eh _ z)) λz=>by obtain⟨hb,e⟩:=Kc z;obtain⟨f0,f1,f2,_⟩:=hf p.1 hb;obtain⟨o,e',d⟩:=ho p.1 hb;rw[e]at e';cases e';exact⟨e,f0,f1,f2,d⟩
def Inv.mV{WI pl:List (Addr×Obj)}{σ:St}{H:Hp}{s:Sd}(I:Inv X (WI++pl) σ H s):Inv X WI σ H s:=I.nJ λp hp=>I.pin p (eh _ (fz _ hp))
def So{iter:Expr}{body:List Stmt}{wi:TI}{g:TG}{tb:TS}{pos:Pos}(hp:PassesOwn (model X.prog X.w) X.A X.env X.xe)(hc:X.calm=true)(hi:PI X tg iter wi)(hg:PG X tg g)(hb:Co X body tb) (hs:∀x,foldedSetIterable iter X.env x=pure x:=by intro _;rfl):PS X (.For tg iter body [] pos) (VS wi g tb):=by
 intro WI s σ H D I h;refine wpAny_For (so (hi WI s σ H _ I h) λv s1 h1=>so h1 λitv s2 h2=>?_) hs;obtain⟨it,fp,tn,J,H2,e,I2,T,WZ,f2,W,⟨m0,w0⟩,turn⟩:=h2;subst e;have X0:∀{H':Hp},(∀b∈fp,H' b=none)->∀b∈fp,AQ X WI H' b:=λhn b hb=>⟨hn b hb,(f2 b hb).2⟩;refine codeAny_forLoop_any (λn s'=>∃i σ' H',Inv X WI σ' H' s'/\tn i s'.heap/\(∀b∈fp,H' b=none)/\W i n σ' H') ?_ m0 ⟨0,σ,H2,I2,WZ,λb hb=>(f2 b hb).1,w0⟩
 rintro n s3 ⟨i,σ3,H3,I3,XE,fr3,w3⟩
 rcases turn i n σ3 H3 w3 with⟨stop,qn⟩|⟨go,N,hN,step⟩
 .refine gA hp (so (T.done X rfl rfl rfl hc i WI s3 σ3 H3 X.xe I3 (X0 fr3) XE stop) λr s4 ⟨hr,I4⟩=>?_);subst hr;exact gM ⟨σ3,H3,I4,qn⟩
 .refine gA hp (so (T.item X rfl rfl rfl hc i WI s3 σ3 H3 X.xe I3 (X0 fr3) XE go) λr s4 ⟨u,hr,h4⟩=>?_);subst hr;refine gA hp (so h4 λ_ s5 zz=>?_);obtain⟨x,H5,I5,r5,y5,Zb,fr5⟩:=zz;have I5':=I5.pinned (X0 fr5) (T.obj _ _ Zb);refine gA hp (so (hg _ s5 σ3 H5 x u _ I5' r5 (step x H5 y5)) λ_ s6 ⟨σ6,H6,I6,q6⟩=>?_);refine gA hp (so (hb _ s6 σ6 H6 _ I6 q6) λf s7 q7=>?_);have again:∀{σ7:St} {H7:Hp},Inv X (WI++B8 fp s5.heap) σ7 H7 s7->N σ7 H7->∃m,m<n/\∃i σ' H',Inv X WI σ' H' s7/\tn i s7.heap/\(∀b∈fp,H' b=none)/\W i m σ' H':=λ{σ7 H7} I7 n7=>by obtain⟨m',hm,w7⟩:=hN σ7 H7 n7;refine⟨m',hm,i+1,σ7,H7,I7.mV,T.keep _ _ _ Zb λb hb o e=>(I7.pin (b,o) (eh _ (eh _ (vf hb e)))).1,λb hb=>?_,w7⟩;obtain⟨o,e,d⟩:=T.obj _ _ Zb b hb;exact(I7.pin (b,o) (eh _ (eh _ (vf hb e)))).2.1
  cases f with
  | next=>obtain⟨σ7,H7,I7,n7⟩:=q7;exact again I7 n7
  | cont=>obtain⟨σ7,H7,I7,n7⟩:=q7;exact again I7 n7
  | brk=>obtain⟨σ7,H7,I7,q7⟩:=q7;exact⟨σ7,H7,I7.mV,q7⟩
  | ret v=>obtain⟨x7,σ7,H7,I7,r7,q7⟩:=q7;exact⟨x7,σ7,H7,I7.mV,r7,q7⟩
abbrev R2:=V->V->Hp->VK->Prop
def xn(X:Cx)(f:Vl->Vl->Sem Vl)(r:R2):Prop:=
 ∀(WI:List (Addr×Obj)) (s:Sd) (σ:St) (H:Hp) (x y:V) (v u:Vl) (Q:VK),Inv X WI σ H s->qR x v->qR y u->r x y H Q->
  wpAny (model X.prog X.w) X.A (f v u) (EP X WI σ Q) X.xe s
def VM(X:Cx)(f:Vl->Sem Vl)(r:V->Hp->VK->Prop):Prop:=
 ∀(WI:List (Addr×Obj)) (s:Sd) (σ:St) (H:Hp) (x:V) (v:Vl) (Q:VK),Inv X WI σ H s->qR x v->r x H Q->
  wpAny (model X.prog X.w) X.A (f v) (EP X WI σ Q) X.xe s
def zD(X:Cx)(f:Vl)(r:List V->Hp->VK->Prop):Prop:=
 ∀(WI:List (Addr×Obj)) (s:Sd) (σ:St) (H:Hp) (xs:List V) (us:List Vl) (Q:VK),Inv X WI σ H s->qz xs us->r xs H Q->
  wpAny (model X.prog X.w) X.A (call f us) (EP X WI σ Q) X.xe s
def S5(r:R2)(ta tb:TE):TE:=λσ H Q=>ta σ H λx H1=>tb σ H1 λy H2=>r x y H2 Q
def Wp(r:V->Hp->VK->Prop)(ta:TE):TE:=λσ H Q=>ta σ H λx H1=>r x H1 Q
def rI(C:Int->Int->Prop)(g:Int->Int->V):R2:=λx y H Q=>∃i j,x=.int i/\y=.int j/\C i j/\Q (g i j) H
def QE(g:Int->Int->V):R2:=λx y H Q=>∃i j,x=.int i/\y=.int j/\Q (g i j) H
def rU(g:Int->V):V->Hp->VK->Prop:=λx H Q=>∃i,x=.int i/\Q (g i) H
variable {tc:TE}
section
variable {a b c:Expr}
def SH(ha:PE X a ta)(hb:PE X b tb){WI:List (Addr×Obj)}{s:Sd}{σ:St}{H:Hp}{R:V->V->Hp->Prop}(I:Inv X WI σ H s) (h:ta σ H λx H1=>tb σ H1 λy H2=>R x y H2) {Q:Vl->Sd->Prop} {f:Vl->Vl->Sem Vl} (hf:∀v u s2 x y H2,Inv X WI σ H2 s2->qR x v->qR y u->R x y H2->wpAny (model X.prog X.w) X.A (f v u) Q X.xe s2):
  wpAny (model X.prog X.w) X.A (eval a X.env) (λv s₁=>wpAny (model X.prog X.w) X.A (eval b X.env) (λu s₂=>wpAny (model X.prog X.w) X.A (f v u) Q X.xe s₂) X.xe s₁) X.xe s:=by
 refine so (ha WI s σ H _ I h) λv s1 zz=>x5 zz λx H1 I1 r1 q1=>?_;refine so (hb WI s1 σ H1 _ I1 q1) λu s2 zz=>x5 zz λy H2 I2 r2 q2=>?_;exact hf v u s2 x y H2 I2 r1 r2 q2
def QF{op:Operator}{r:R2}(ho:xn X (binaryOp op) r)(ha:PE X a ta)(hb:PE X b tb):PE X (.BinOp a op b pos) (S5 r ta tb):=by intro WI s σ H Q I h;exact wpAny_BinOp (SH ha hb I h λv u s2 x y H2 I2 rx ry q=>ho WI s2 σ H2 x y v u Q I2 rx ry q)
def UI{op:UnaryOp}{r:V->Hp->VK->Prop}(ho:VM X (unaryOp op) r)(ha:PE X a ta):PE X (.UnaryOp op a pos) (Wp r ta):=by intro WI s σ H Q I h;exact UnaryOp_ (so (ha WI s σ H _ I h) λv s1 zz=>x5 zz λx H1 I1 r1 q1=>ho WI s1 σ H1 x v Q I1 r1 q1)
def Va{f:Vl->Vl->Sem Vl}{C:Int->Int->Prop}{g:Int->Int->Int} (rule:∀(i j:Int) (t u:Tok) (s:Sd) (Q:Vl->Sd->Prop) (E:Vl->Sd->Prop),C i j->Q (.int (g i j) s.toks) {s with toks:=s.toks+1}->wpAny (model X.prog X.w) X.A (f (.int i t) (.int j u)) Q E s):
  xn X f (rI C λi j=>.int (g i j)):=by
 intro WI s σ H x y v u Q I rx ry h;obtain⟨i,j,rfl,rfl,hc,q⟩:=h;obtain⟨t,rfl⟩:=rx;obtain⟨t',rfl⟩:=ry;exact rule i j t t' s _ _ hc ⟨.int (g i j),H,I.tok _,⟨_,rfl⟩,q⟩
def TK{f:Vl->Vl->Sem Vl}{g:Int->Int->Int} (rule:∀(i j:Int) (t u:Tok) (s:Sd) (Q:Vl->Sd->Prop) (E:Vl->Sd->Prop),Q (.int (g i j) s.toks) {s with toks:=s.toks+1}->wpAny (model X.prog X.w) X.A (f (.int i t) (.int j u)) Q E s):
  xn X f (QE λi j=>.int (g i j)):=by
 intro WI s σ H x y v u Q I rx ry h;obtain⟨i,j,rfl,rfl,q⟩:=h;obtain⟨t,rfl⟩:=rx;obtain⟨t',rfl⟩:=ry;exact rule i j t t' s _ _ ⟨.int (g i j),H,I.tok _,⟨_,rfl⟩,q⟩
def P6{f:Vl->Vl->Sem Vl}{g:Int->Int->Bool} (rule:∀(i j:Int) (t u:Tok) (s:Sd) (Q:Vl->Sd->Prop) (E:Vl->Sd->Prop),Q (.bool (g i j)) s->wpAny (model X.prog X.w) X.A (f (.int i t) (.int j u)) Q E s):
  xn X f (QE λi j=>.bl (g i j)):=by
 intro WI s σ H x y v u Q I rx ry h;obtain⟨i,j,rfl,rfl,q⟩:=h;obtain⟨t,rfl⟩:=rx;obtain⟨t',rfl⟩:=ry;exact rule i j t t' s _ _ ⟨.bl (g i j),H,I,rfl,q⟩
def Ts(i j:Int):Prop:=0<j/\j<1073741824
def C6(i j:Int):Prop:=(-(2 ^ 64)<i/\i<2 ^ 64)\/(-(2 ^ 64)<j/\j<2 ^ 64)
def C6.ok{i j:Int}(h:C6 i j):IntMulOk i j:=by
 rcases h with⟨h1,h2⟩|⟨h1,h2⟩
 .exact .of_left (intBits_le_64 h1 h2)
 .exact .of_right (intBits_le_64 h1 h2)
def SO:xn X (binaryOp .Add) (QE λi j=>.int (i+j)):=TK λ_ _ _ _ _ _ _ q=>add_int q
def RB:xn X (binaryOp .Sub) (QE λi j=>.int (i - j)):=TK λ_ _ _ _ _ _ _ q=>sub_int q
def Rp:xn X (binaryOp .Mult) (rI C6 λi j=>.int (i*j)):=Va λ_ _ _ _ _ _ _ hc q=>mul_int q hc.ok
def Pc:xn X (binaryOp .FloorDiv) (rI Ts λi j=>.int (i / j)):=Va λi j _ _ _ _ _ hc q=>by have h1:(0:Int)<j:=hc.1;have h2:j<1073741824:=hc.2;exact floordiv_int (by omega) (by rw[Int.fdiv_eq_ediv_of_nonneg i (by omega)];exact q) (.inl (PyProof.noPylong_small (by omega)))
def Sy:xn X (binaryOp .Mod) (rI (λ_ j=>0<j) λi j=>.int (i % j)):=Va λi j _ _ _ _ _ hc q=>by have h1:(0:Int)<j:=hc;exact mod_int' (by omega) (by rw[Int.fmod_eq_emod_of_nonneg i (by omega)];exact q)
def Wy{f:Vl->Sem Vl}{g:Int->Int} (rule:∀(i:Int) (t:Tok) (s:Sd) (Q:Vl->Sd->Prop) (E:Vl->Sd->Prop),Q (.int (g i) s.toks) {s with toks:=s.toks+1}->wpAny (model X.prog X.w) X.A (f (.int i t)) Q E s):
  VM X f (rU λi=>.int (g i)):=by
 intro WI s σ H x v Q I rx h;obtain⟨i,rfl,q⟩:=h;obtain⟨t,rfl⟩:=rx;exact rule i t s _ _ ⟨.int (g i),H,I.tok _,⟨_,rfl⟩,q⟩
def RM:VM X (unaryOp .USub) (rU λi=>.int (-i)):=Wy λ_ _ _ _ _ q=>neg_int q
end
section
variable {a b c:Expr}
def Ij{WI:List (Addr×Obj)}{σ:St}{H:Hp}{s:Sd}{Q:VK}{k k':Bool}(I:Inv X WI σ H s)(q:Q (.bl k) H)(e:k=k'):EP X WI σ Q (.bool k') s:=by subst e;exact⟨.bl k,H,I,rfl,q⟩
def TQ:xn X (compareOp .Lt) (QE λi j=>.bl (decide (i<j))):=P6 λ_ _ _ _ _ _ _ q=>lt_int q
def Uc:xn X (compareOp .LtE) (QE λi j=>.bl (decide (i<=j))):=P6 λ_ _ _ _ _ _ _ q=>le_int q
def TV:xn X (compareOp .Gt) (QE λi j=>.bl (decide (j<i))):=P6 λ_ _ _ _ _ _ _ q=>gt_int q
def Tv:xn X (compareOp .GtE) (QE λi j=>.bl (decide (j<=i))):=P6 λ_ _ _ _ _ _ _ q=>ge_int q
def Kr:xn X (compareOp .In) (λx y H Q=>∃i j,x=.str i/\y=.str j/\Q (.bl (!(Builtin.Str.occurrences j i 0 j.length 1).isEmpty)) H):=by intro WI s σ H x y v u Q I rx ry h;obtain⟨i,j,rfl,rfl,q⟩:=h;obtain⟨t,rfl⟩:=rx;obtain⟨t',rfl⟩:=ry;exact in_str (Ij I q rfl)
def RC:xn X (compareOp .Is) (λx y H Q=>y=.mI/\Q (.bl (decide (x=.mI))) H):=by
 intro WI s σ H x y v u Q I rx ry h;obtain⟨rfl,q⟩:=h;cases ry;refine is_none_gen (Ij I q ?_);cases x<;>first
  | (cases rx;rfl)
  | (obtain⟨t,rfl⟩:=rx;rfl)
def Oa:xn X (compareOp .IsNot) (λx y H Q=>y=.mI/\Q (.bl (!decide (x=.mI))) H):=by
 intro WI s σ H x y v u Q I rx ry h;obtain⟨rfl,q⟩:=h;cases ry;refine isnot_none_gen (Ij I q ?_);cases x<;>first
  | (cases rx;rfl)
  | (obtain⟨t,rfl⟩:=rx;rfl)
def HU(b:Expr){op:CmpOp}(h:op≠.In:=by decide)(h2:op≠.NotIn:=by decide):behindInMarks op b=false:=by
 have e1:(op==CmpOp.In)=false:=by cases op<;>first|rfl|exact absurd rfl h
 have e2:(op==CmpOp.NotIn)=false:=by cases op<;>first|rfl|exact absurd rfl h2
 cases b<;>simp[behindInMarks,e1,e2]
def Jj{op:CmpOp}{r:R2}(ho:xn X (compareOp op) r)(ha:PE X a ta)(hb:PE X b tb)(hm:behindInMarks op b=false):PE X (.Compare a [op] [b] pos) (S5 r ta tb):=by intro WI s σ H Q I h;exact wpAny_Compare1 (SH ha hb I h λv u s2 x y H2 I2 rx ry q=>ho WI s2 σ H2 x y v u Q I2 rx ry q) hm
def Qv(t:TE):TT:=λσ H Q=>t σ H λx H'=>∃k,x=.bl k/\Q k H'
def JG{op:CmpOp}{r:R2}(ho:xn X (compareOp op) r)(ha:PE X a ta)(hb:PE X b tb)(hm:behindInMarks op b=false):PT X (.Compare a [op] [b] pos) (Qv (S5 r ta tb)):=by
 intro WI s σ H Q I h;refine wpAny_isTrue_Compare1 (so (ha WI s σ H _ I h) λv s1 zz=>x5 zz λx H1 I1 r1 q1=>so (hb WI s1 σ H1 _ I1 q1) λu s2 zz=>x5 zz λy H2 I2 r2 q2=>
  so (ho WI s2 σ H2 x y v u _ I2 r1 r2 q2) λc s3 zz=>?_) hm
 obtain⟨z,H3,I3,r3,k,e,q3⟩:=zz;subst e;cases r3;exact fg ⟨H3,I3,q3⟩
def Nh(r r':R2)(ta tb tc:TE):TE:=λσ H Q=>ta σ H λx H1=>tb σ H1 λy H2=>r x y H2 λz H3=>∃k,z=.bl k/\
 (if k=true then tc σ H3 λw' H4=>r' y w' H4 Q else Q (.bl false) H3)
def Nj{op XA:CmpOp}{r r':R2}(ho:xn X (compareOp op) r)(Xn:xn X (compareOp XA) r')(ha:PE X a ta)(hb:PE X b tb)(hc:PE X c tc) (hm:lastMarks [op,XA] [b,c]=false:=by with_unfolding_all rfl):PE X (.Compare a [op,XA] [b,c] pos) (Nh r r' ta tb tc):=by
 intro WI s σ H Q I h;refine Compare_chain (so (ha WI s σ H _ I h) λv s1 zz=>x5 zz λx H1 I1 r1 q1=>chain_link (so (hb WI s1 σ H1 _ I1 q1) λu s2 zz=>x5 zz λy H2 I2 r2 q2=>
  so (ho WI s2 σ H2 x y v u _ I2 r1 r2 q2) λd s3 zz=>?_)) hm
 obtain⟨z,H3,I3,r3,k,e,q3⟩:=zz;subst e;cases r3;refine fg ?_;cases k with
 | false=>exact ite_ff ⟨.bl false,H3,I3,rfl,q3⟩
 | true=>exact ite_tt (chain_last (so (hc WI s3 σ H3 _ I3 q3) λw' s4 zz=>x5 zz λz' H4 I4 r4 q4=>Xn WI s4 σ H4 y z' u w' Q I4 r2 r4 q4))
def MD{op XA:CmpOp}{r r':R2}(ho:xn X (compareOp op) r)(Xn:xn X (compareOp XA) r')(ha:PE X a ta)(hb:PE X b tb)(hc:PE X c tc) (hm:lastMarks [op,XA] [b,c]=false:=by with_unfolding_all rfl):PT X (.Compare a [op,XA] [b,c] pos) (Qv (Nh r r' ta tb tc)):=by
 intro WI s σ H Q I h;refine isTrue_chain (so (ha WI s σ H _ I h) λv s1 zz=>x5 zz λx H1 I1 r1 q1=>test_link (so (hb WI s1 σ H1 _ I1 q1) λu s2 zz=>x5 zz λy H2 I2 r2 q2=>
  so (ho WI s2 σ H2 x y v u _ I2 r1 r2 q2) λd s3 zz=>?_)) hm
 obtain⟨z,H3,I3,r3,k,e,q3⟩:=zz;subst e;cases r3;refine fg ?_;cases k with
 | false=>obtain⟨k',e',q'⟩:=q3;cases e';exact ite_ff ⟨H3,I3,q'⟩
 | true=>refine ite_tt (test_last (so (hc WI s3 σ H3 _ I3 q3) λw' s4 zz=>x5 zz λz' H4 I4 r4 q4=>so (Xn WI s4 σ H4 y z' u w' _ I4 r2 r4 q4) λd' s5 zz=>?_));obtain⟨z2,H5,I5,r5,k2,e2,q5⟩:=zz;subst e2;cases r5;exact fg ⟨H5,I5,q5⟩
def yN:(sizeLine:Nat)<2 ^ 63:=by rw[dF];decide
def HY:xn X (binaryOp .Add) (λx y H Q=>∃i j,x=.str i/\y=.str j/\i.length+j.length<=sizeLine/\Q (.str (i++j)) H):=by intro WI s σ H x y v u Q I rx ry h;obtain⟨i,j,rfl,rfl,hz,q⟩:=h;obtain⟨t,rfl⟩:=rx;obtain⟨t',rfl⟩:=ry;exact add_str (λt' tk=>⟨.str (i++j),H,I.tok _,⟨_,rfl⟩,q⟩) hz
def yq{x:V}{us:List Vl}(r:qz [x] us):∃u,us=[u]/\qR x u:=by
 cases r with
 | cons r1 r2=>cases r2;exact⟨_,rfl,r1⟩
def Qk{x y:V}{us:List Vl}(r:qz [x,y] us):∃u w',us=[u,w']/\qR x u/\qR y w':=by
 cases r with
 | cons r1 r2=>
  cases r2 with
  | cons r3 r4=>cases r4;exact⟨_,_,rfl,r1,r3⟩
def Ku(hc:X.calm=true):zD X (.builtin "min") (λxs H Q=>∃i j,xs=[.int i,.int j]/\Q (.int (if j<i then j else i)) H):=by
 intro WI s σ H xs us Q I r h;obtain⟨i,j,rfl,q⟩:=h;obtain⟨u,w',rfl,⟨t,rfl⟩,⟨t',rfl⟩⟩:=Qk r;refine min_two_ints (I.ok.hd hc) λh' tk k=>⟨_,H,I.kept k,?_,q⟩;by_cases hj:j<i
 .rw[cX hj,cX hj];exact⟨_,rfl⟩
 .rw[cV hj,cV hj];exact⟨_,rfl⟩
end
structure Ho(h:Heap)(x dx C:Addr)(mA:Str->Option Vl):Prop where
 obj:h.get? x=some (W.instObj C dx)
 ns:h.Ns1 dx mA
 ne:dx≠x
def KL{h:Heap}{dx:Addr}{mA:Str->Option Vl}(n:h.Ns1 dx mA):∃od,h.get? dx=some od/\∀name,W.lookIn name od=some (mA name):=by
 obtain⟨o,es,ep,ho,hd,hk,_,hm⟩:=n;refine⟨o,ho,λname=>?_⟩;have e:=hm name;unfold nsFind findBy at e;rw[<-Array.find?_toList]at e;unfold W.lookIn;rw[hd];dsimp only;split
 .rename_i y q;rw[q]at e;exact eG some e
 .rename_i q;rw[q]at e;have a:es.toList.any (·.refKey)=false:=by rw[kZ];intro y hy;obtain⟨z,t,hkey⟩:=hk y (j9.mp hy);simp[DictEntry.refKey,hkey]
  have a':¬es.toList.any (·.refKey)=true:=by rw[a];exact dn
  rw[cV a'];exact eG some e
def Ho.look{h:Heap}{x dx C:Addr}{mA:Str->Option Vl}(I:Ho h x dx C mA):∃od,W.InstAt h x (W.instObj C dx) C (some od)/\∀name,W.lookIn name od=some (mA name):=
 let⟨od,ho,hl⟩:=KL I.ns
 ⟨od,⟨I.obj,rfl,rfl,ho⟩,hl⟩
variable {prog:Pg}{A:Ar}{K:qr}{dx C:Addr}{mA:Str→Option Vl}{name:Str}
section
variable {w:Wo}{E:Vl→Sd→Prop}{x f:Addr}{v:Vl}
def Ob{expr:Bool}{Q:Vl->Sd->Prop}(X:K.In s.heap)(I:Ho s.heap x dx C mA)(hg:W.plainGet K C name=true)(hh:W.hasDictIn K C=true) (ha:W.findIn K (.ref C) name=some none) (hv:mA name=some v) (hv':W.handedIn v=true) (h:Q v {s with toks:=s.toks+1}):
  wpAny (model prog w) A (getAttr (.ref x) name expr) Q E s:=by
 obtain⟨od,J,hl⟩:=I.look;exact W.get_value X J (kq hg).1 (W.findObj_own hh ha rfl (by rw[hl,hv])) hv' h
def Ms{pl:Sem Bool}{Q:Vl×List Vl->Sd->Prop}(X:K.In s.heap)(I:Ho s.heap x dx C mA)(hg:W.plainGet K C name=true) (hf:W.findIn K (.ref C) name=some (some (.ref f))) (ht:W.isFn K (.ref f)=true) (hv:mA name=none) (h:Q (.ref f,[.ref x]) s):
  wpAny (model prog w) A (getMethod (.ref x) name pl) Q E s:=by
 obtain⟨od,J,hl⟩:=I.look;exact W.method_fn X J (kq hg).1 (kq hg).2 hf (eY.mp ht) (by show(W.lookIn name od).map (·.isSome)=some false;rw[hl,hv];rfl) h
def Py{ns:List Str}{Q:Unit->Sd->Prop}(X:K.In s.heap)(I:Ho s.heap x dx C mA) (hs:W.findIn K (.ref C) "__setattr__"=some (some (.builtin "object.__setattr__"))) (hp:W.plainOver K C=true) (ht:W.takerIn K C name=some none) (hh:W.hasDictIn K C=true) (hw:PySem.Within mA ns) (hsz:ns.length<=sizeLine) (h:∀h',Ho h' x dx C (λy=>if y=name then some v else mA y)->Heap.SameBut dx s.heap h'->Q () {s with heap:=h',toks:=s.toks+2}):
  wpAny (model prog w) A (setAttr (.ref x) name v) Q E s:=by
 obtain⟨od,J,hl⟩:=I.look;refine W.set_plain X J hs (W.osa_open (s:={s with toks:=s.toks+1}) (r:=none) X J hp ht λb=>?_);obtain⟨cd,hc,hd'⟩:=W.any_some hh;have hx:s.heap.get? x=some ⟨.ref C,some dx,.plain,#[]⟩:=I.obj;refine cR (de (cR (cR (wpAny_loadPart hx (cR (mi (s:={s with toks:=s.toks+1}) (kr X hc) ?_))))));rw[hd'];refine de (a:=some dx) (cR (de (cR ?_)));refine wpAny_nsSet1 (s:={s with toks:=s.toks+1}) I.ns λh' Zw XW=>?_;obtain⟨oD,esD,epD,hoD,CD,hcD⟩:=Zw.count (PySem.Within.cons name v hw);refine cR (lF hoD (by rw[CD];exact lG (dN hcD (by rw[dZ];omega))) ?_);exact de (h _ ⟨(XW.2 _ (dI I.ne)).trans I.obj,Zw,I.ne⟩ XW)
def MA{R:Result->Sd->Prop}{vs:List Vl}{kw:List (Str×Vl)}(X:K.In s.heap)(hm:W.makesIn K C=true) (hi:W.findIn K (.ref C) "__init__"=some (some (.ref f))) (hf:W.typeIn K (.ref f)=some (.type "function")) (h:codeAny (model prog w) (A.under (.builtin "type.__call__" ⟨.ref C::vs,kw⟩)) (.call (.ref f) ⟨.ref (s.heap.objs.size+1)::vs,kw⟩) (W.InitBack (s.heap.objs.size+1) R) {s with heap:=(s.heap.push W.emptyDict).push (W.instObj C s.heap.objs.size)}):
  codeAny (model prog w) A (.call (.ref C) ⟨vs,kw⟩) R s:=by
 obtain⟨hh,g,d,t,os⟩:=s;exact W.make_core (W.makes_of X hm) (me X hi) (λself=>W.bind_fn X self hf) (.inl rfl) h
end
def vo(f:Str)(v:V):List (Str×V)->List (Str×V)
 | []=>[(f,v)]
 | (g,x)::r=>if g=f then(g,v)::r else(g,x)::vo f v r
theorem An(f g:Str)(v:V):∀fs:List (Str×V),(vo f v fs).lookup g=if g=f then some v else fs.lookup g
 | []=>by
  show List.lookup g [(f,v)]=_;by_cases h:g=f
  .have hb:(g==f)=true:=eY.mpr h;simp only[List.lookup,hb,cX h]
  .have hb:(g==f)=false:=gq.mpr h;simp only[List.lookup,hb,cV h]
 | (k,x)::r=>by
  have ih:=An f g v r;rw[show vo f v ((k,x)::r)=(if k=f then(k,v)::r else(k,x)::vo f v r)from rfl];by_cases hk:k=f
  .rw[cX hk];by_cases h:g=k
   .have hb:(g==k)=true:=eY.mpr h;simp only[List.lookup,hb,cX (h.trans hk)]
   .have hb:(g==k)=false:=gq.mpr h;simp only[List.lookup,hb,cV (λe:g=f=>h (e.trans hk.symm))]
  .rw[cV hk];by_cases h:g=k
   .have hb:(g==k)=true:=eY.mpr h;simp only[List.lookup,hb,cV (λe:g=f=>hk (h.symm.trans e))]
   .have hb:(g==k)=false:=gq.mpr h;simp only[List.lookup,hb];exact ih
theorem zX(f:Str)(v:V):∀fs:List (Str×V),f∈(vo f v fs).map (·.1)/\∀g,g∈fs.map (·.1)->g∈(vo f v fs).map (·.1)
 | []=>⟨by simp[vo],λg h=>by simp at h⟩
 | (k,x)::r=>by
  obtain⟨i1,i2⟩:=zX f v r;rw[show vo f v ((k,x)::r)=(if k=f then(k,v)::r else(k,x)::vo f v r)from rfl];by_cases hk:k=f
  .rw[cX hk];subst hk;exact⟨by simp,λg h=>by simpa using h⟩
  .rw[cV hk];refine⟨?_,λg h=>?_⟩
   .rw[dP];exact dv _ i1
   .rw[dP]at h ⊢;rcases cY.mp h with e|e
    .exact cY.mpr (.inl e)
    .exact dv _ (i2 g e)
theorem Av(f:Str)(v:V):∀fs:List (Str×V),(vo f v fs).length<=fs.length+1
 | []=>by simp[vo]
 | (k,x)::r=>by
  have ih:=Av f v r;rw[show vo f v ((k,x)::r)=(if k=f then(k,v)::r else(k,x)::vo f v r)from rfl];by_cases hk:k=f
  .rw[cX hk,dZ,dZ];omega
  .rw[cV hk,dZ,dZ];omega
def yg.some_of{v:V}{o:Option Vl}(r:yg (some v) o):∃u,o=some u/\qR v u:=by
 cases o with
 | none=>exact(show False from r).elim
 | some u=>exact⟨u,rfl,r⟩
def yg.none_of{o:Option Vl}(r:yg none o):o=none:=by
 cases o with
 | none=>rfl
 | some u=>exact(show False from r).elim
def Ks{v:V}{u:Vl}(r:qR v u):W.handedIn u=true:=by
 cases v with
 | mI=>cases(show u=Value.none from r);rfl
 | bl b=>cases(show u=Value.bool b from r);rfl
 | int i=>obtain⟨t,e⟩:=(show ∃t,u=Value.int i t from r);cases e;rfl
 | str x=>obtain⟨t,e⟩:=(show ∃t,u=Value.str x t from r);cases e;rfl
 | byt b=>obtain⟨t,e⟩:=(show ∃t,u=Value.bytes b t from r);cases e;rfl
 | flt b=>obtain⟨t,e⟩:=(show ∃t,u=Value.float b t from r);cases e;rfl
 | ref a=>cases(show u=Value.ref a from r);rfl
 | ty n=>cases(show u=Value.type n from r);rfl
section
variable {P:Pg}{w:Wo}{a:Addr}{fs fs':List (Str × V)}
def E4(mP:yh P w H h)(e:H a=some (.ins C dx fs)):∃mA,Ho h a dx C mA/\(∀f,yg (fs.lookup f) (mA f))/\PySem.Within mA (fs.map (·.1))/\fs.length<=1000/\H dx=some (.own a):=by obtain⟨d,z,ne,ob,mA,n,r,q⟩:=(show sR P w H h a (.ins C dx fs)from mP a _ e);exact⟨mA,⟨ob,n,ne⟩,r,q,z,d⟩
end
structure Cls(K:qr)(C:Addr):Prop where
 pg:W.plainGet K C Str.empty=true
 hd:W.hasDictIn K C=true
 po:W.plainOver K C=true
 sa:W.findIn K (.ref C) "__setattr__"=some (some (.builtin "object.__setattr__"))
def Cls.get{K:qr}{C:Addr}(c:Cls K C)(f:Str):W.plainGet K C f=true:=c.pg
def ud(K:qr)(C:Addr)(f:Str):Prop:=W.findIn K (.ref C) f=some none
def ud.oK{K:qr}{C:Addr}{f:Str}(n:ud K C f):W.takerIn K C f=some none:=by unfold W.takerIn;rw[show W.findIn K (.ref C) f=some none from n];rfl
structure WH(K:qr)(C:Addr)(f:Str)(v:V)(u:Vl):Prop where
 at_:W.findIn K (.ref C) f=some (some u)
 rel:qR v u
 get:W.specialIn K u "__get__"=some none
 cp:W.copiedNames.contains f=false
structure vp(K:qr)(C:Addr)(m:Str)(f:Addr):Prop where
 at_:W.findIn K (.ref C) m=some (some (.ref f))
 fn:W.isFn K (.ref f)=true
 kp:W.keepIn K (.ref f)=true
section
variable {σ:St}{a:Addr}{fs:List (Str × V)}{f:Str}{v:V}{E:Vl→Sd→Prop}
def BU{b:Bool}{Q:Vl->Sd->Prop}(I:Inv X WI σ H s)(e:H a=some (.ins C dx fs))(c:Cls X.K C)(n:ud X.K C f)(l:fs.lookup f=some v) (h:∀u s',Inv X WI σ H s'->qR v u->Q u s'):wpAny (model X.prog X.w) A (getAttr (.ref a) f b) Q E s:=by
 obtain⟨mA,O,r,_,_,_⟩:=E4 I.mP e;obtain⟨u,hu,ru⟩:=yg.some_of (v:=v) (o:=mA f) (by rw[<-l];exact r f);exact Ob I.ny O (c.get f) c.hd n hu (Ks ru) (h u _ (I.tok _) ru)
def B'{m:Str}{g:Addr}{pl:Sem Bool}{Q:Vl×List Vl->Sd->Prop}(I:Inv X WI σ H s)(e:H a=some (.ins C dx fs))(c:Cls X.K C)(k:vp X.K C m g)(l:fs.lookup m=none) (h:Q (.ref g,[.ref a]) s):wpAny (model X.prog X.w) A (getMethod (.ref a) m pl) Q E s:=by
 obtain⟨mA,O,r,_,_,_⟩:=E4 I.mP e;have hn:mA m=none:=yg.none_of (by rw[<-l];exact r m);exact Ms I.ny O (c.get m) k.at_ k.fn hn h
def Bx{y:V}{u:Vl}{Q:Unit->Sd->Prop}(I:Inv X WI σ H s)(e:H a=some (.ins C dx fs))(c:Cls X.K C)(n:ud X.K C f)(hl:fs.length<1000)(ry:qR y u) (h:∀s',Inv X WI σ (upd H a (.ins C dx (vo f y fs))) s'->Q () s'):wpAny (model X.prog X.w) A (setAttr (.ref a) f u) Q E s:=by
 obtain⟨mA,O,r,wi,_,ho⟩:=E4 I.mP e;have hz:(fs.map (·.1)).length<=sizeLine:=by rw[cQ,dF];omega
 refine Py I.ny O c.sa c.po n.oK c.hd wi hz λh' O' sb=>h _ ?_;have hd:∃o,h'.get? dx=some o:=let⟨o,_,_,e',_⟩:=O'.ns;⟨o,e'⟩;refine I.write (x:=a) (e:=dx) (by rw[e];exact True.intro) (.inr ho) (λb q hb z=>(sb.2 b hb).trans z) hd ?_;refine⟨by rw[qc O.ne];exact ho,?_,O.ne,O'.obj,_,O'.ns,λg=>?_,λg hg=>?_⟩
 .have:=Av f y fs;omega
 .show yg ((vo f y fs).lookup g) (if g=f then some u else mA g);rw[An];by_cases q:g=f
  .rw[cX q,cX q];exact ry
  .rw[cV q,cV q];exact r g
 .by_cases q:g=f
  .rw[q];exact(zX f y fs).1
  .refine(zX f y fs).2 g (wi g λz=>hg ?_);show(if g=f then some u else mA g)=none;rw[cV q];exact z
def Inv.made(I:Inv X WI σ H s):Inv X WI σ (upd (upd H s.heap.objs.size (.own (s.heap.objs.size+1))) (s.heap.objs.size+1) (.ins C s.heap.objs.size [])) {s with heap:=(s.heap.push W.emptyDict).push (W.instObj C s.heap.objs.size)}:=by
 have e1:(s.heap.push W.emptyDict).get? s.heap.objs.size=some W.emptyDict:=dA s.heap rfl;have e2:((s.heap.push W.emptyDict).push (W.instObj C s.heap.objs.size)).get? (s.heap.objs.size+1)=some (W.instObj C s.heap.objs.size):=by
  have:=dA (s.heap.push W.emptyDict) (o:=W.instObj C s.heap.objs.size) rfl
  rwa [fj]at this
 have e3:(s.heap.push W.emptyDict).Ns s.heap.objs.size (λ_=>none):=⟨W.emptyDict,#[],_,e1,rfl,(λe he=>absurd he (by simp)),λ_=>rfl⟩;have I1:=I.laid (a:=s.heap.objs.size) (o:=.own (s.heap.objs.size+1)) (h':=s.heap.push W.emptyDict) (t':=s.toks) (λb u q=>cW _ q) (cZ _) ⟨_,e1⟩;refine I1.laid (a:=s.heap.objs.size+1) (o:=.ins C s.heap.objs.size []) (t':=s.toks) (λb u q=>cW _ q) (mj (fj _ _)) ?_;have ne:s.heap.objs.size≠s.heap.objs.size+1:=dB (fk _);refine⟨by rw[qc ne,qg],dS _,ne,e2,λ_=>none,(k9 e3).at λo q=>cW _ q,λ_=>True.intro,λy hy=>absurd rfl hy⟩
def OM{prog:Pg}{w:Wo}{env:Env}{e:Expr}{f:Str}{pos:Pos}{s:Sd}{Q:Vl->Sd->Prop}(hb:attributeBase e f env (eval e env)=eval e env) (h:wpAny (model prog w) A (eval e env) (λo s₁=>wpAny (model prog w) A (getAttr o f true) Q E s₁) E s):wpAny (model prog w) A (eval (.Attribute e f pos) env) Q E s:=
 Attribute_any_ h (by rw[arm_eval_Attribute,hb])
end
def VR(K:qr)(ta:TE)(f:Str):TE:=λσ H Q=>ta σ H λx H1=>∃a C dx fs v,x=.ref a/\H1 a=some (.ins C dx fs)/\Cls K C/\ud K C f/\fs.lookup f=some v/\Q v H1
def VJ(K:qr)(ta tv:TE)(f:Str):TS:=λD σ H=>tv σ H λy H1=>ta σ H1 λx H2=>∃a C dx fs,x=.ref a/\H2 a=some (.ins C dx fs)/\Cls K C/\ud K C f/\fs.length<1000/\
 D.nx σ (upd H2 a (.ins C dx (vo f y fs)))
def PX(X:Cx)(op:Operator)(rd:V->V->Hp->VK->Prop):Prop:=
 ∀(WI:List (Addr×Obj)) (s:Sd) (σ:St) (H:Hp) (x y:V) (u v:Vl) (Q:VK),Inv X WI σ H s->qR x u->qR y v->rd x y H Q->wpAny (model X.prog X.w) X.A (inplaceOp op u v) (EP X WI σ Q) X.xe s
def OZ(K:qr)(ta tv:TE)(rd:V->V->Hp->VK->Prop)(f:Str):TS:=λD σ H=>ta σ H λx H1=>∃a C dx fs v,x=.ref a/\H1 a=some (.ins C dx fs)/\Cls K C/\ud K C f/\fs.lookup f=some v/\
 tv σ H1 λy H2=>rd v y H2 λz H3=>∃Zx fs',H3 a=some (.ins C Zx fs')/\fs'.length<1000/\D.nx σ (upd H3 a (.ins C Zx (vo f z fs')))
variable {value:Expr}{WQ YS:Pos}{tv:TE}
section
variable {o e:Expr}{f:Str}
def R8(he:PE X e ta)(hb:attributeBase e f X.env (eval e X.env)=eval e X.env):PE X (.Attribute e f pos) (VR X.K ta f):=by intro WI s σ H Q I h;refine OM hb (so (he WI s σ H _ I h) λu s1 zz=>?_);obtain⟨x,H1,I1,rx,a,C,dx,fs,v,ex,ea,c,n,l,q⟩:=zz;subst ex;obtain rfl:u=Value.ref a:=rx;exact BU I1 ea c n l λu' s2 I2 ru=>⟨v,H1,I2,ru,q⟩
def Si(ha:PE X o ta)(hv:PE X value tv)(hs:swapsWith value (some (.Attribute o f WQ)) pos.line X.env=pure false):PS X (.Assign [.Attribute o f WQ] value pos) (VJ X.K ta tv f):=by intro WI s σ H D I h;refine iK (so (hv WI s σ H _ I h) λu s1 zz=>x5 zz λy H1 I1 ry q=>so (ha WI s1 σ H1 _ I1 q) λov s2 zz=>?_) hs;obtain⟨x,H2,I2,rx,a,C,dx,fs,ex,ea,c,n,l,q2⟩:=zz;subst ex;obtain rfl:ov=Value.ref a:=rx;exact Bx I2 ea c n l ry λs3 I3=>⟨σ,_,I3,q2⟩
def KO{op:Operator}{rd:V->V->Hp->VK->Prop}(ha:PE X o ta)(hv:PE X value tv)(hop:PX X op rd):PS X (.AugAssign (.Attribute o f YS) op value pos) (OZ X.K ta tv rd f):=by intro WI s σ H D I h;refine wpAny_AugAssign_AttributeAny (so (ha WI s σ H _ I h) λov s1 zz=>?_);obtain⟨x,H1,I1,rx,a,C,dx,fs,v,ex,ea,c,n,l,q⟩:=zz;subst ex;obtain rfl:ov=Value.ref a:=rx;refine BU I1 ea c n l λu s2 I2 ru=>so (hv WI s2 σ H1 _ I2 q) λw3 s3 zz=>x5 zz λy H2 I3 ry q3=>so (hop WI s3 σ H2 v y u w3 _ I3 ru ry q3) λw4 s4 zz=>?_;obtain⟨z,H3,I4,rz,Zx,fs',ea',l',q4⟩:=zz;exact Bx I4 ea' c n l' rz λs5 I5=>⟨σ,_,I5,q4⟩
def UZ:V->V->Hp->VK->Prop:=λx y H Q=>∃i j,x=.int i/\y=.int j/\Q (.int (i+j)) H
def Vw:V->V->Hp->VK->Prop:=λx y H Q=>∃i j,x=.int i/\y=.int j/\Q (.int (i - j)) H
def SQ:PX X .Add UZ:=by
 rintro WI s σ H x y u v Q I rx ry ⟨i,j,rfl,rfl,q⟩
 obtain⟨t,rfl⟩:=(show ∃t,u=Value.int i t from rx);obtain⟨t',rfl⟩:=(show ∃t',v=Value.int j t' from ry);exact PyProof.Rows.iadd_int ⟨.int (i+j),H,I.tok _,⟨_,rfl⟩,q⟩
def Q9:PX X .Sub Vw:=by
 rintro WI s σ H x y u v Q I rx ry ⟨i,j,rfl,rfl,q⟩
 obtain⟨t,rfl⟩:=(show ∃t,u=Value.int i t from rx);obtain⟨t',rfl⟩:=(show ∃t',v=Value.int j t' from ry);exact PyProof.Rows.isub_int ⟨.int (i - j),H,I.tok _,⟨_,rfl⟩,q⟩
end
variable {Q:Vl→Sd→Prop}
section
variable {σ:St}{E:Vl→Sd→Prop}{c:Vl}{b:Bool}
inductive CA(K:qr)(H:Hp):V->Vl->Prop where
 | mI:CA K H .mI (.type "NoneType")
 | bl (x:Bool):CA K H (.bl x) (.type "bool")
 | int (i:Int):CA K H (.int i) (.type "int")
 | str (x:Str):CA K H (.str x) (.type "str")
 | flt (x:UInt64):CA K H (.flt x) (.type "float")
 | lst {a:Addr} {xs:List V} (e:H a=some (.lst xs)):CA K H (.ref a) (.type "list")
 | frz {a:Addr} {o:Obj} {xs:List V} (e:H a=some (.frz o (.lst xs))):CA K H (.ref a) (.type "list")
 | tup {a:Addr} {xs:List V} (e:H a=some (.tup xs)):CA K H (.ref a) (.type "tuple")
 | dK {a:Addr} {kvs:List (qV×V)} (e:H a=some (.dK kvs)):CA K H (.ref a) (.type "dict")
 | dT {a:Addr} {kvs:List (List qV×V)} (e:H a=some (.dT kvs)):CA K H (.ref a) (.type "dict")
 | ins {a C dx:Addr} {fs:List (Str×V)} (e:H a=some (.ins C dx fs)) (cl:Cls K C) (ha:W.findIn K (.ref C) "__class__"=some (some (.builtin "object.__class__")))
   (hn:W.specialIn K (.builtin "object.__class__") "__get__"=some (some (.builtin "getset_descriptor.__get__"))) (htk:W.takesIn K (.builtin "object.__class__")=some true)
   (hm:W.mroIn K C (.type "object")=some true):CA K H (.ref a) (.ref C)
end
structure rS(k:Nat)(A:Ar):Prop where
 hd:A.handled=none
 dp:A.depth+3*k+5<recursionLimit
 un:A.units+16*k+200<cLine
def rS.mono{j k:Nat}{A:Ar}(r:rS k A)(h:j<=k):rS j A:=⟨r.hd,by have:=r.dp;omega,by have:=r.un;omega⟩
def rS.deeper{k:Nat}{A:Ar}(r:rS (k+1) A)(env:Env):rS k (A.deeper env):=
 ⟨r.hd,by have:=r.dp;show A.depth+1+3*k+5<_;omega,by have:=r.un;show A.units+3+16*k+200<_;omega⟩
def Hz{A:Ar}{C:Addr}{us:List Vl}{kw:List (Str×Vl)}:(A.under (.builtin "type.__call__" ⟨.ref C::us,kw⟩)).depth=A.depth+1:=by first|rfl|simp[Around.under,Code.weight,Code.isCreation,Code.isGuard,Code.isCaller,Code.frames,Code.isFrame,guardIds]
def Ie{A:Ar}{C:Addr}{us:List Vl}{kw:List (Str×Vl)}:(A.under (.builtin "type.__call__" ⟨.ref C::us,kw⟩)).units=A.units+1:=by first|rfl|simp[Around.under,Code.cUnits,Code.frames,Code.isFrame]
def rS.make{k:Nat}{A:Ar}(r:rS (k+1) A)(C:Addr)(us:List Vl)(kw:List (Str×Vl)):rS k (A.under (.builtin "type.__call__" ⟨.ref C::us,kw⟩)):=
 ⟨r.hd,by have:=r.dp;rw[Hz];omega,by have:=r.un;rw[Ie];omega⟩
def rS.depth{k:Nat}{A:Ar}(r:rS k A):A.depth<recursionLimit:=by have:=r.dp;omega
def rS.units{k:Nat}{A:Ar}(r:rS k A):A.units+64<cLine:=by have:=r.un;omega
def Ud:TA:=λ_ H Q=>Q [] H
def Uz(ta:TE)(tr:TA):TA:=λσ H Q=>ta σ H λx H1=>tr σ H1 λxs H2=>Q (x::xs) H2
variable {es:List Expr}
section
variable {e:Expr}{t:TA}
def Sg:PA X [] Ud:=λ_ _ _ _ H Q I h=>iD ⟨[],H,I,.nil,h⟩
def NR(ha:PE X e te)(hr:PA X es t)(hs:A9 X e es:=by rfl):PA X (e::es) (Uz te t):=by intro pos WI s σ H Q I h;rw[hs];show wpAny _ _ (spliced ((false,eval e X.env)::backTo pos (starEach es X.env))) _ _ s;refine ik (so (ha WI s σ H _ I h) λu s1 zz=>x5 zz λx H1 I1 r1 q1=>?_);exact so (hr pos WI s1 σ H1 _ I1 q1) λus s2 zz=>x5 zz λxs H2 I2 r2 q2=>⟨x::xs,H2,I2,.cons r1 r2,q2⟩
def VD(t:TA):TE:=λσ H Q=>t σ H λxs H1=>xs.length<=sizeLine/\∀p,H1 p=none->Q (.ref p) (upd H1 p (.tup xs))
def UY(t:TA):TE:=λσ H Q=>t σ H λxs H1=>xs.length<=sizeLine/\∀p,H1 p=none->Q (.ref p) (upd H1 p (.lst xs))
def Sa{x1}(h:PA X es t):PE X (.Tuple es x1 pos) (VD t):=by intro WI s σ H Q I hq;refine wpAny_Tuple_spliced (so (h pos WI s σ H _ I hq) λus s1 ⟨xs,H1,I1,r,z,q⟩=>⟨by rw[<-r.length];exact z,?_⟩);have hf:H1 s1.heap.objs.size=none:=I1.mP.fresh (cZ _);refine⟨.ref s1.heap.objs.size,upd H1 s1.heap.objs.size (.tup xs),I1.laid (t':=s1.toks) (λb u e=>cW _ e) (cZ _) ?_,rfl,q _ hf⟩;exact⟨z,us,r,⟨_,dA _ rfl,rfl,⟨_,rfl⟩,rfl⟩⟩
def QU(h:PA X es t):PE X (.List es pos) (UY t):=by intro WI s σ H Q I hq;refine wpAny_List_spliced (so (h pos WI s σ H _ I hq) λus s1 ⟨xs,H1,I1,r,z,q⟩=>⟨by rw[<-r.length];exact z,?_⟩);have hf:H1 s1.heap.objs.size=none:=I1.mP.fresh (cZ _);refine⟨.ref s1.heap.objs.size,upd H1 s1.heap.objs.size (.lst xs),I1.laid (t':=s1.toks) (λb u e=>cW _ e) (cZ _) ?_,rfl,q _ hf⟩;exact⟨z,us,0,r,dA _ rfl⟩
end
abbrev Sp:=List V->Hp->VK->XK->Prop
abbrev KU:=List Env->Hp->Sd->XK->Vl->Sd->Prop
structure Ht(P:Pg)(w:Wo)(K:qr)(mg:Str->Option Vl)(base:Heap)(A:Ar)(outer:List Env)(s:Sd)(H:Hp):Prop where
 frames:A.frames=some outer
 mod:Mod K mg base
 bs:∀b o,base.get? b=some o->s.heap.get? b=some o/\H b=none
 nY:base.objs.size<=s.heap.objs.size
 nk:s.heap.FunFrames base outer
 oh:∀b∈vU outer,H b=none
 mP:yh P w H s.heap
 bare:AllBare s.gens
def CE(outer:List Env)(P:Pg)(w:Wo)(H:Hp)(s:Sd)(Q:VK)(u:Vl)(s':Sd):Prop:=
 ∃v H',s'.os=s.os/\AllBare s'.gens/\Un (vU outer) [] H H' s.heap s'.heap/\yh P w H' s'.heap/\qR v u/\Q v H'
def CR(CX:KU)(outer:List Env)(P:Pg)(w:Wo)(H:Hp)(s:Sd)(Q:VK)(E:XK)(r:Result)(s':Sd):Prop:=
 match r with
 | .ok (.ret u)=>CE outer P w H s Q u s'
 | .ok _=>False
 | .error e=>CX outer H s E e s'
structure xh(P:Pg)(w:Wo)(K:qr)(mg:Str->Option Vl)(base:Heap)(CX:KU)(k:Nat)(f:Addr)(fd:FuncData)(ps:List Str)(sp:Sp):Prop where
 len:∀vs H Q E,sp vs H Q E->vs.length=ps.length
 run:∀(A:Ar) (outer:List Env) (s:Sd) (H:Hp) (args:Args) (us:List Vl) (vs:List V) (Q:VK) (E:XK),rS k A->Ht P w K mg base A outer s H->BindsTo s fd args (ps.zip us)->qz vs us->sp vs H Q E->
  codeAny (model P w) A (.call (.ref f) args) (CR CX outer P w H s Q E) s
def Ht.make{P:Pg}{w:Wo}{K:qr}{mg:Str->Option Vl}{base:Heap}{A:Ar}{outer:List Env}{s:Sd}{H:Hp}(e:Ht P w K mg base A outer s H)(C:Addr)(us:List Vl)(kw:List (Str×Vl)):
  Ht P w K mg base (A.under (.builtin "type.__call__" ⟨.ref C::us,kw⟩)) outer s H:=⟨by first|exact e.frames|(simpa [Around.under,Code.envs,Code.isFrame,pushEnvs]using e.frames),e.mod,e.bs,e.nY,e.nk,e.oh,e.mP,e.bare⟩
variable {s':Sd}
section
variable {σ:St}
def Inv.nZ(I:Inv X WI σ H s):Ht X.prog X.w X.K X.mg X.base X.A X.stack s H:=
 ⟨I.ok.frames,I.ok.mod,I.bs,dN I.ok.nY I.sz,I.stack,I.nB,I.mP,I.bare⟩
def Inv.after{Q:VK}{u:Vl}(I:Inv X WI σ H s)(h:CE X.stack X.prog X.w H s Q u s'):EP X WI σ Q u s':=by obtain⟨v,H',os,bare,un,mP,r,q⟩:=h;obtain⟨hh,g,d,t,Zy⟩:=s';obtain rfl:Zy=s.os:=os;exact⟨v,H',I.call (h':=hh) (g':=g) (d':=d) (t':=t) (ch:=[]) un mP bare (λb z=>absurd z (by simp)),r,q⟩
end
def Uk(sp:Sp)(Xu:List V)(E:XK)(t:TA):TE:=λσ H Q=>t σ H λvs H1=>sp (vs++Xu) H1 Q E
def TR(C:Addr)(sp:Sp)(Xu:List V)(E:XK)(t:TA):TE:=λσ H Q=>t σ H λvs H1=>∀x dx,H1 x=none->H1 dx=none->dx≠x->
 sp (.ref x::(vs++Xu)) (upd (upd H1 dx (.own x)) x (.ins C dx [])) (λv H2=>v=.mI/\Q (.ref x) H2) E
def uK(K:qr)(fd:FuncData)(ps:List Str)(ds:List Vl):Prop:=
 ∀(s:Sd) (us:List Vl),K.In s.heap->(us++ds).length=ps.length->BindsTo s fd ⟨us,[]⟩ (ps.zip (us++ds))
def uK.all{K:qr}{fd:FuncData}{ps:List Str}(h:∀us:List Vl,us.length=ps.length->bindArgs fd ⟨us,[]⟩=pure (ps.zip us)):uK K fd ps []:=λs us _ hl=>by rw[eU]at hl ⊢;exact .of_eq (h us hl)
def BD(CX:KU)(X:Cx)(E:XK):Prop:=∀(WI:List (Addr×Obj)) (σ:St) (H:Hp) (s:Sd) (e:Vl) (s':Sd),Inv X WI σ H s->CX X.stack H s E e s'->X.xe e s'
variable {CX:KU}{k:Nat}{fd:FuncData}{ps:List Str}{sp:Sp}{Xu:List V}{ds:List Vl}{m:Str}{p WL:Pos}
section
variable {f:Addr}{E:XK}{x:Str}{e o:Expr}{t:TA}
def E1{WI:List (Addr×Obj)}{σ:St}{H:Hp}{s:Sd}{Q:VK}{us:List Vl}{vs:List V}(F:xh X.prog X.w X.K X.mg X.base CX k f fd ps sp)(hr:rS k X.A)(hb:uK X.K fd ps ds)(hd:qz Xu ds)(hx:BD CX X E) (I:Inv X WI σ H s) (r:qz vs us) (h:sp (vs++Xu) H Q E):wpAny (model X.prog X.w) X.A (call (.ref f) us) (EP X WI σ Q) X.xe s:=by
 have r2:qz (vs++Xu) (us++ds):=r.append hd;have hl:(us++ds).length=ps.length:=by rw[<-r2.length];exact F.len _ _ _ _ h
 refine iz (gh (F.run X.A X.stack s H ⟨us,[]⟩ (us++ds) (vs++Xu) Q E hr I.nZ (hb s us I.ny hl) r2 h) λr s' hq=>?_);cases r with
 | error e=>exact hx WI σ H s e s' I hq
 | ok fl=>
  cases fl with
  | ret u=>exact I.after hq
  | next=>exact False.elim hq
  | brk=>exact False.elim hq
  | cont=>exact False.elim hq
def NW(F:xh X.prog X.w X.K X.mg X.base CX k f fd ps sp)(hr:rS k X.A)(hg:Gl X x)(hm:X.mg x=some (.ref f))(hk:W.keepIn X.K (.ref f)=true)(hb:uK X.K fd ps ds)(hd:qz Xu ds)(hx:BD CX X E) (ha:PA X (e::es) t) (W2:zG x:=by decide) (he:A9 X e es:=by rfl) (WY:CC X pos es:=by rfl):
  PE X (.Call (.Name x p) (e::es) [] pos) (Uk sp Xu E t):=by
 intro WI s σ H Q I h;refine fO (wV I hg hm ?_ W2);refine iL (h₀:=X.base) I.ok.mod.oA hk (so (ha pos WI s σ H _ I h) λus s1 zz=>x5 zz λvs H1 I1 r q=>⟨I1.ny,?_⟩) he WY;exact E1 F hr hb hd hx I1 r q
structure Mk(K:qr)(C f:Addr):Prop where
 makes:W.makesIn K C=true
 init:W.findIn K (.ref C) "__init__"=some (some (.ref f))
 fn:W.isFn K (.ref f)=true
 kp:W.keepIn K (.ref C)=true
def Mi{WI:List (Addr×Obj)}{σ:St}{H:Hp}{s:Sd}{Q:VK}{us:List Vl}{vs:List V}(M:Mk X.K C f)(F:xh X.prog X.w X.K X.mg X.base CX k f fd ps sp)(hr:rS (k+1) X.A)(hb:uK X.K fd ps ds)(hd:qz Xu ds) (hx:BD CX X E) (I:Inv X WI σ H s) (r:qz vs us) (h:∀x dx,H x=none->H dx=none->dx≠x->sp (.ref x::(vs++Xu)) (upd (upd H dx (.own x)) x (.ins C dx [])) (λv H2=>v=.mI/\Q (.ref x) H2) E):
  wpAny (model X.prog X.w) X.A (call (.ref C) us) (EP X WI σ Q) X.xe s:=by
 have hq:=h (s.heap.objs.size+1) s.heap.objs.size (I.mP.fresh (gS _)) (I.mP.fresh (cZ _)) (dB (fk _));have I2:=Inv.made (C:=C) I;have r2:qz (V.ref (s.heap.objs.size+1)::(vs++Xu)) (Value.ref (s.heap.objs.size+1)::(us++ds)):=.cons rfl (r.append hd);have hl:(Value.ref (s.heap.objs.size+1)::us++ds).length=ps.length:=by have e:=r2.length;rw[F.len _ _ _ _ hq]at e;exact e.symm
 refine iz (MA (f:=f) I.ny M.makes M.init (eY.mp M.fn) (gh (F.run _ X.stack _ _ ⟨Value.ref (s.heap.objs.size+1)::us,[]⟩ (Value.ref (s.heap.objs.size+1)::(us++ds)) _ _ E (hr.make C us [])
  (I2.nZ.make C us []) (hb _ (Value.ref (s.heap.objs.size+1)::us) I2.ny hl) r2 hq) λr s' Yl=>?_))
 cases r with
 | error e=>exact hx WI σ _ _ e s' I2 Yl
 | ok fl=>
  cases fl with
  | ret u=>obtain⟨v,H',I3,rv,ev,q3⟩:=I2.after Yl;subst ev;exact⟨rv,⟨V.ref (s.heap.objs.size+1),H',I3,rfl,q3⟩⟩
  | next=>exact False.elim Yl
  | brk=>exact False.elim Yl
  | cont=>exact False.elim Yl
def Og(M:Mk X.K C f)(F:xh X.prog X.w X.K X.mg X.base CX k f fd ps sp)(hr:rS (k+1) X.A)(hg:Gl X x)(hm:X.mg x=some (.ref C))(hb:uK X.K fd ps ds)(hd:qz Xu ds)(hx:BD CX X E) (ha:PA X (e::es) t) (W2:zG x:=by decide) (he:A9 X e es:=by rfl) (WY:CC X pos es:=by rfl):
  PE X (.Call (.Name x p) (e::es) [] pos) (TR C sp Xu E t):=by
 intro WI s σ H Q I h;refine fO (wV I hg hm ?_ W2);refine iL (h₀:=X.base) I.ok.mod.oA M.kp (so (ha pos WI s σ H _ I h) λus s1 zz=>x5 zz λvs H1 I1 r q=>⟨I1.ny,?_⟩) he WY;exact Mi M F hr hb hd hx I1 r q
end
variable {g:List Vl→List Vl→List Vl}{gV:List V→List V→List V}{ks:List Str}{kpos:Pos}{kws:List Keyword}{tk:TA}{nm:Option Str}
section
variable {f:Addr}{E:XK}{x:Str}{e o:Expr}{t:TA}
structure Vg(K:qr)(fd:FuncData)(ps ks:List Str)(g:List Vl->List Vl->List Vl)(gV:List V->List V->List V):Prop where
 to:∀(s:Sd) (us ws:List Vl),K.In s.heap->(g us ws).length=ps.length->BindsTo s fd ⟨us,ks.zip ws⟩ (ps.zip (g us ws))
 rel:∀{vs:List V} {us:List Vl} {zs:List V} {ws:List Vl},qz vs us->qz zs ws->qz (gV vs zs) (g us ws)
end
structure sV(N P:List Str)(sc:Scope):Prop where
 kind:sc.kind=.function
 co:sc.isCoroutine=false
 gen:sc.isGenerator=false
 nd:N.Nodup
 pre:N.take P.length=P
 par:∀x∈P,sc.names.lookup x=some .local\/sc.names.lookup x=some .cell
 oY:∀y∈sc.names,y.2≠.free
theorem Dm{kindOf:Str->Option NameKind}{x:Str}:∀{binds:List (Str×Vl)} {m:Str->Option Vl},(∀v,(x,v)∉binds)->bindL kindOf binds m x=m x
 | [],_,_=>rfl
 | (n,v)::r,m,h=>by
  unfold bindL;rw[Dm λw hw=>h w (dv _ hw)];split
  .have:x≠n:=by rintro rfl;exact h v dC
   simp[this]
  .rfl
theorem DZ{kindOf:Str->Option NameKind}{x:Str}:∀{binds:List (Str×Vl)} {m:Str->Option Vl},(∀v,(x,v)∉binds)->bindC kindOf binds m x=m x
 | [],_,_=>rfl
 | (n,v)::r,m,h=>by
  unfold bindC;rw[DZ λw hw=>h w (dv _ hw)];split
  .rfl
  .have:x≠n:=by rintro rfl;exact h v dC
   simp[this]
theorem DB{kindOf:Str->Option NameKind}{x:Str}{v:Vl}:∀{P:List Str} {vs:List Vl} {i:Nat} {m:Str->Option Vl},P.Nodup->P[i]?=some x->vs[i]?=some v->kindOf x=some .local->
  bindL kindOf (P.zip vs) m x=some v
 | [],_,_,_,_,h,_,_=>by simp at h
 | _::_,[],_,_,_,_,h,_=>by simp at h
 | p::P,w::vs,0,m,nd,h1,h2,hk=>by simp at h1 h2;subst h1;subst h2;show bindL kindOf ((p,w)::P.zip vs) m p=_;unfold bindL;rw[Dm λv hv=>(dM.mp nd).1 (jN hv).1,cX hk];simp
 | p::P,w::vs,i+1,m,nd,h1,h2,hk=>by show bindL kindOf ((p,w)::P.zip vs) m x=_;unfold bindL;exact DB (i:=i) (dM.mp nd).2 (by simpa using h1) (by simpa using h2) hk
theorem DH{kindOf:Str->Option NameKind}{x:Str}{v:Vl}:∀{P:List Str} {vs:List Vl} {i:Nat} {m:Str->Option Vl},P.Nodup->P[i]?=some x->vs[i]?=some v->kindOf x≠some .local->
  bindC kindOf (P.zip vs) m x=some v
 | [],_,_,_,_,h,_,_=>by simp at h
 | _::_,[],_,_,_,_,h,_=>by simp at h
 | p::P,w::vs,0,m,nd,h1,h2,hk=>by simp at h1 h2;subst h1;subst h2;show bindC kindOf ((p,w)::P.zip vs) m p=_;unfold bindC;rw[DZ λv hv=>(dM.mp nd).1 (jN hv).1,cV hk];simp
 | p::P,w::vs,i+1,m,nd,h1,h2,hk=>by show bindC kindOf ((p,w)::P.zip vs) m x=_;unfold bindC;exact DH (i:=i) (dM.mp nd).2 (by simpa using h1) (by simpa using h2) hk
def yp(N:List Str)(vs:List V):St:=vs.map some++List.replicate (N.length - vs.length) none
def vb(CX:KU)(P:Pg)(w:Wo)(K:qr)(mg:Str->Option Vl)(base:Heap)(N:List Str)(qual:Str)(scope:Scope)(f:Addr)(cd:Vl)(A:Ar)(outer:List Env)(s:Sd)(H:Hp)(E:XK):Cx where
 prog:=P
 w:=w
 K:=K
 mg:=mg
 base:=base
 A:=A.deeper (envOfC qual scope s.heap.objs.size f cd)
 N:=N
 s₀:=s
 H₀:=H
 env:=envOfC qual scope s.heap.objs.size f cd
 outer:=outer
 stack:=envOfC qual scope s.heap.objs.size f cd::outer
 ex:=[]
 calm:=true
 fn:=λ_=>true
 pn:=[]
 xe:=λe s'=>wpAny (model P w) (A.deeper (envOfC qual scope s.heap.objs.size f cd)) (leaving (envOfC qual scope s.heap.objs.size f cd) e) (λ_ Zz=>CX outer H s E e Zz) (λe' Zz=>CX outer H s E e' Zz) s'
def FU{sc:Scope}{n:Nat}{x:Str}(h:sc.names.lookup x=some .cell):∃c,(cellsFrom n sc.names []).lookup x=some c:=by have q:=lH sc.names n [] (.inl h);exact jx.mp q
def J6{CX:KU}{P:Pg}{w:Wo}{K:qr}{mg:Str->Option Vl}{base:Heap}{N ps:List Str}{qual:Str}{scope:Scope}{f:Addr}{cd:Vl}{A:Ar}{outer:List Env}{s s1:Sd}{H:Hp}{E:XK}{us:List Vl}{vs:List V} (S:sV N ps scope) (hd:A.handled=none) (e0:Ht P w K mg base A outer s H) (hl:vs.length=ps.length) (r:qz vs us) (x:InCallC s s.heap.objs.size (bindL (envOfC qual scope s.heap.objs.size f cd).kindOf (ps.zip us) λ_=>none) (cellsFrom (s.heap.objs.size+1) scope.names []) (bindC (envOfC qual scope s.heap.objs.size f cd).kindOf (ps.zip us) λ_=>none) s1):
  Inv (vb CX P w K mg base N qual scope f cd A outer s H E) [] (yp N vs) H s1:=by
 have WY:ps.length<=N.length:=by have:=eG List.length S.pre;rw[fK]at this;omega
 obtain⟨h1,tk,rfl,hk⟩:=x.done;have noA:∀b:Addr,b∉(vb CX P w K mg base N qual scope f cd A outer s H E).ex:=λb z=>absurd (show b∈([]:List Addr)from z) (by simp);refine⟨⟨e0.mod,S.kind,rfl,rfl,cZ _,λy z c h1 h2=>?_,λy hy=>?_,λy c _ h=>?_,λ_=>hd,Around.frames_deeper e0.frames,.inr ⟨rfl,rfl⟩,λb z=>absurd z (noA b),e0.bs,e0.nY,λb _ _=>noA b,λb z=>absurd z (noA b),e0.nk,e0.oh⟩,rfl,e0.bare,Un.kept hk,⟨_,x.toInCall.ns,λi y v h1 h2 h3=>?_⟩,λy c h=>⟨_,x.cell y c h⟩,e0.mP.fresh (cZ _),λy c h=>?_,λp hp=>absurd (show p∈([]:List (Addr×Obj))from hp) (by simp),e0.mP.kept hk,?_⟩
 .exact name_of_addr x.apart (gK h1) (gK h2)
 .have hy:scope.names.lookup y=some .cell\/scope.names.lookup y=some .free:=hy;rcases hy with hy|hy
  .exact FU hy
  .exact absurd rfl (S.oY _ (gK hy))
 .exact jv (x.above y c (gK h))
 .have hi:i<vs.length:=by
   unfold yp at h2;by_cases hi:i<vs.length
   .exact hi
   .rw[eF (by simpa using hi)]at h2;rw[jK]at h2;split at h2<;>cases h2
  have ha:vs[i]?=some v:=by
   unfold yp at h2;rw[eJ (by simpa using hi),dq]at h2;cases e:vs[i]? with
   | none=>rw[e]at h2;cases h2
   | some a=>rw[e]at h2;cases h2;rfl
  obtain⟨u,hu,rv⟩:=r.get ha;have hp:ps[i]?=some y:=by rw[<-S.pre,List.getElem?_take_of_lt (by omega)];exact h1
  have ndP:ps.Nodup:=by rw[<-S.pre];exact S.nd.sublist (List.take_sublist _ _)
  refine⟨u,rv,?_⟩;rcases S.par y (fi hp)with k|k
  .exact .inl ⟨k,DB ndP hp hu k⟩
  .obtain⟨c,e⟩:=FU (n:=s.heap.objs.size+1) k;refine .inr ⟨.inl k,c,e,?_⟩;have q:=x.cell y c e;rw[DH ndP hp hu (by show scope.names.lookup y≠_;rw[k];decide)]at q;exact q
 .exact e0.mP.fresh (jv (x.above y c (gK h)))
 .unfold yp;show _=N.length;rw[cT,cQ,iI];omega
def K8{CX:KU}{P:Pg}{w:Wo}{K:qr}{mg:Str->Option Vl}{base:Heap}{k:Nat}{f:Addr}{name qual:Str}{params:Arguments}{body:List Stmt}{scope:Scope}{dV kV Xm pm WR ct oc:Vl}{an od:Option Addr} {XF:Array (Option Vl)} {N ps:List Str} {sp:Sp} (lk:K.lookup f=some ⟨oc,od,.func (W.fnOf name qual params body scope dV kV Xm pm an WR ct),XF⟩) (XZ:W.codeIn K WR qual=true) (S:sV N ps scope) (len:∀vs H Q E,sp vs H Q E->vs.length=ps.length) (W5:∀(A:Ar) (outer:List Env) (s:Sd) (H:Hp) (vs:List V) (Q:VK) (E:XK),rS k (A.deeper (envOfC qual scope s.heap.objs.size f WR))->sp vs H Q E->
   ∃t,Co (vb CX P w K mg base N qual scope f WR A outer s H E) body t/\t {nx:=λ_ H'=>Q .mI H',rt:=Q} (yp N vs) H):
  xh P w K mg base CX (k+1) f (W.fnOf name qual params body scope dV kV Xm pm an WR ct) ps sp:=by
 refine⟨len,λA outer s H args us vs Q E hr e0 hb r Yd=>?_⟩;have hl:=len _ _ _ _ Yd;have KX:K.In s.heap:=e0.mod.oA.keeps λb o e=>(e0.bs b o e).1;have lim:s.heap.NoLimit:=e0.mod.nolimit.keeps λb o e=>(e0.bs b o e).1;have hkind:∀y∈ps.zip us,scope.names.lookup y.1=some .local\/(scope.names.lookup y.1=some .cell/\((cellsFrom (s.heap.objs.size+1) scope.names []).lookup y.1).isSome=true):=λ⟨n,v⟩ hy=>by
  rcases S.par n (jN hy).1 with q|q
  .exact .inl q
  .exact .inr ⟨q,lH _ _ _ (.inl q)⟩
 refine codeAny_call_function hr.depth (KX _ _ lk) rfl S.co S.gen rfl (W.codeRec_of KX XZ) (hb _ _ _ _ ?_);refine wpAny_newFunctionEnv_cells S.kind hkind λenv he s1 x=>?_;subst he;refine⟨lim.keeps x.toInCall.keep,codeAny_func ?_⟩;obtain⟨t,ht,hq⟩:=W5 A outer s H vs Q E (hr.deeper _) Yd;have I:Inv (vb CX P w K mg base N qual scope f WR A outer s H E) [] (yp N vs) H s1:=J6 S hr.hd e0 hl r x;refine dX (ht [] s1 (yp N vs) H _ I hq) (λfl s' hs=>?_) λe s' hs=>hs;have WN:∀{σ':St} {H':Hp} {v:V} {u:Vl},Inv (vb CX P w K mg base N qual scope f WR A outer s H E) [] σ' H' s'->qR v u->Q v H'->CE outer P w H s Q u s':=
  λ{σ' H' v u} J rv q=>⟨v,H',J.os,J.bare,J.base,J.mP,rv,q⟩
 cases fl with
 | ret u=>obtain⟨v,σ',H',J,rv,q⟩:=hs;exact WN J rv q
 | next=>obtain⟨σ',H',J,q⟩:=hs;exact WN (v:=V.mI) (u:=Value.none) J rfl q
 | brk=>obtain⟨_,_,_,q⟩:=hs;exact False.elim q
 | cont=>obtain⟨_,_,_,q⟩:=hs;exact False.elim q
variable {id T:String}{r:List V→Hp→VK→Prop}
section
variable {x:Str}{e:Expr}{t:TA}
def V8(r:List V->Hp->VK->Prop)(t:TA):TE:=λσ H Q=>t σ H λvs H1=>r vs H1 Q
def MZ(hc:zD X (.builtin id) r)(hg:Gl X x)(hm:X.mg x=none)(hv:bootBuiltins x=some (.builtin id))(ha:PA X (e::es) t)(hn:x≠"__name__":=by decide)(W2:zG x:=by decide)
  (he:A9 X e es:=by rfl) (WY:CC X pos es:=by rfl):PE X (.Call (.Name x p) (e::es) [] pos) (V8 r t):=by
 intro WI s σ H Q I h;refine fO (wW I hg hm hv ?_ hn W2);exact gN (so (ha pos WI s σ H _ I h) λus s1 zz=>x5 zz λvs H1 I1 r1 q1=>hc WI s1 σ H1 vs us Q I1 r1 q1) he WY
def Kk(hc:zD X (.type T) r)(hg:Gl X x)(hm:X.mg x=none)(hv:bootBuiltins x=some (.type T))(ha:PA X (e::es) t)(hn:x≠"__name__":=by decide)(W2:zG x:=by decide)
  (he:A9 X e es:=by rfl) (WY:CC X pos es:=by rfl):PE X (.Call (.Name x p) (e::es) [] pos) (V8 r t):=by
 intro WI s σ H Q I h;refine fO (wW I hg hm hv ?_ hn W2);exact fG (so (ha pos WI s σ H _ I h) λus s1 zz=>x5 zz λvs H1 I1 r1 q1=>hc WI s1 σ H1 vs us Q I1 r1 q1) he WY
end
end L2
namespace HT
open PySem PyProof.Rows
section
open PySem.SeqAt
open PySem.AutoSeq1 (wpAny_loadPart')
open PySem.MeetsSeq PySem.MeetsSeq2 PySem.MeetsSeq3
end
variable {prog:Pg}{w:Wo}{A:Ar}{E:Vl→Sd→Prop}{s:Sd}
def OW{t b:Addr}{vs ws:List Vl}{Q:Vl->Sd->Prop}(ht:IsTup s.heap t vs.toArray)(hb:IsTup s.heap b ws.toArray)(hv:vs≠[]) (h1:ws=[]->Q (.ref t) s) (h2:ws≠[]->Q (.ref s.heap.objs.size) {s with heap:=s.heap.push {cls:=.type "tuple",data:=.seq (vs++ws).toArray}})
  (hsz:vs.length+ws.length<=sizeLine):wpAny (model prog w) A (binaryOp .Add (.ref t) (.ref b)) Q E s:=by
 obtain⟨⟨cls,dd,data,sl⟩,ho,hc,n,hd⟩:=id ht;obtain⟨⟨cls2,dd2,data2,sl2⟩,ho2,hc2,n2,hd2⟩:=id hb;simp only at hc hd hc2 hd2;subst hc hd hc2 hd2;have e:vs.toArray++ws.toArray=(vs++ws).toArray:=by simp
 by_cases hw:ws=[]
 .exact kK ⟨_,ho,rfl⟩ ⟨_,ho2,rfl⟩ lJ seq_tuple_add jU jL (jy _ _)
   (tuple_addW1 t b vs.toArray ws.toArray n n2 dd dd2 sl sl2 (by simpa using hv) (by simp[hw])) ⟨ho,ho2,h1 hw⟩
 .refine kK ⟨_,ho,rfl⟩ ⟨_,ho2,rfl⟩ lJ seq_tuple_add jU jL (jy _ _)
   (tuple_addW2 t b vs.toArray ws.toArray n n2 dd dd2 sl sl2 (by simpa using hv) (by simpa using hw) (by rw[dg,dg];exact hsz)) ⟨ho,ho2,?_⟩
  rw[e];exact h2 hw
def sY(n d:Nat):Option Int->Nat
 | none=>d
 | some v=>if v<0 then(v+(n:Int)).toNat else min v.toNat n
def Bv(n d:Nat):sY n d none=d:=rfl
def Ja(n d k:Nat):sY n d (some (k:Int))=min k n:=by show(if (k:Int)<0 then((k:Int)+(n:Int)).toNat else min (k:Int).toNat n)=min k n;rw[cV (by omega),jj]
def SN(n d:Nat)(hd:d<=n)(o:Option Int):sY n d o<=n:=by
 cases o with
 | none=>exact hd
 | some v=>
  show(if v<0 then(v+(n:Int)).toNat else min v.toNat n)<=n;by_cases hv:v<0
  .rw[cX hv];omega
  .rw[cV hv];exact Nat.min_le_right _ _
def IC(v:Int)(n d:Nat):(if v<0 then max (v+(n:Int)) 0 else min v (n:Int))=((sY n d (some v):Nat):Int):=by
 show(if v<0 then max (v+(n:Int)) 0 else min v (n:Int))=(((if v<0 then(v+(n:Int)).toNat else min v.toNat n):Nat):Int);by_cases hv:v<0
 .simp only[cX hv];omega
 .simp only[cV hv];omega
def Ib(lo hi:Option Int)(n:Nat):Builtin.Slice.sliceAdjust lo hi 1 (n:Int)=(((sY n 0 lo:Nat):Int),((sY n n hi:Nat):Int)):=by
 have h1:¬((1:Int)<0):=by omega
 unfold Builtin.Slice.sliceAdjust;simp only[h1,kc];refine mo ?_ ?_
 .cases lo with
  | none=>rfl
  | some v=>exact IC v n 0
 .cases hi with
  | none=>rfl
  | some v=>exact IC v n n
def Iq(i j:Nat):Builtin.Slice.slicePlaces (i:Int) (j:Int) 1=j - i:=by
 unfold Builtin.Slice.slicePlaces;have h1:(1:Int)>0:=by omega
 simp only[h1,iX,Int.ediv_one];split<;>omega
def BB{v:Vl}{o:Option Int}{Q:Option Int->Sd->Prop}(p:IsPart v o)(h:Q o s):wpAny (model prog w) A (Builtin.Slice.slicePartIndex v) Q E s:=by
 cases p with
 | none=>exact slicePart_none h
 | int i t=>exact slicePart_int h
def vV{sl:Addr}{vl vu:Vl}{lo hi:Option Int}{n:Nat}{Q:Int×Int×Nat->Sd->Prop}(hs:s.heap.IsSliceOf sl vl vu .none)(pl:IsPart vl lo)(pu:IsPart vu hi) (h:Q (((sY n 0 lo:Nat):Int),1,sY n n hi - sY n 0 lo) s):wpAny (model prog w) A (Builtin.Slice.sliceApplied (.ref sl) (pure (n:Int))) Q E s:=by
 obtain⟨os,ZA,Zc,X1⟩:=id hs;unfold Builtin.Slice.sliceApplied Builtin.Slice.sliceFields;refine cR (cR (eZ ZA X1 (x:=vl) rfl (cR (eZ ZA X1 (x:=vu) rfl (cR (eZ ZA X1 (x:=.none) rfl (de ?_)))))));refine cR (slicePart_none ?_);show wpAny _ _ (if ((1:Int)==0)=true then _ else _) _ _ s;rw[cV (by decide)];refine cR (BB pl (cR (BB pu (cR (de ?_)))));show wpAny _ _ (match Builtin.Slice.sliceAdjust lo hi 1 (n:Int)with|(lo,hi)=>pure (lo,(1:Int),Builtin.Slice.slicePlaces lo hi 1)) _ _ s;rw[Ib lo hi n];show wpAny _ _ (pure (((sY n 0 lo:Nat):Int),(1:Int),Builtin.Slice.slicePlaces ((sY n 0 lo:Nat):Int) ((sY n n hi:Nat):Int) 1)) _ _ s;rw[Iq];exact de h
def LS(xs:Array Vl)(i k:Nat):((List.range k).filterMap λ(m:Nat)=>xs[((i:Int)+(m:Int)*1).toNat]?).toArray=((xs.toList.drop i).take k).toArray:=by
 have e:(λ(m:Nat)=>xs[((i:Int)+(m:Int)*1).toNat]?)=λm=>xs[i+m]?:=by
  funext m;have:((i:Int)+(m:Int)*1).toNat=i+m:=by omega
  rw[this]
 rw[e];have:=pick_run xs i k;rw[List.filterMap_map]at this;have e2:((λx=>xs[x]?)∘λx=>i+x)=λm=>xs[i+m]?:=rfl;rw[e2]at this;rw[this]
def zB{t sl:Addr}{WJ:Array Vl}{vl vu:Vl}{lo hi:Option Int}{Q:Vl->Sd->Prop}(ht:IsTup s.heap t WJ)(hs:s.heap.IsSliceOf sl vl vu .none)(pl:IsPart vl lo)(pu:IsPart vu hi) (hw:¬(sY WJ.size 0 lo=0/\sY WJ.size WJ.size hi=WJ.size)) (h:Q (.ref s.heap.objs.size) {s with heap:=s.heap.push {cls:=.type "tuple",data:=.seq ((WJ.toList.drop (sY WJ.size 0 lo)).take (sY WJ.size WJ.size hi - sY WJ.size 0 lo)).toArray}})
  (hsz:WJ.size<=sizeLine):wpAny (model prog w) A (getItem (.ref t) (.ref sl)) Q E s:=by
 have X9:sizeOk (.seq ((WJ.toList.drop (sY WJ.size 0 lo)).take (sY WJ.size WJ.size hi - sY WJ.size 0 lo)).toArray):=by show((WJ.toList.drop (sY WJ.size 0 lo)).take (sY WJ.size WJ.size hi - sY WJ.size 0 lo)).toArray.size<=sizeLine;rw[dg,fK,gv,ig];omega
 have hj:sY WJ.size WJ.size hi<=WJ.size:=SN _ _ (cZ _) hi;obtain⟨os,ZA,Zc,X1⟩:=id hs;have hTs:s.TypeIs (.ref sl) "slice":=⟨os,ZA,Zc⟩;unfold getItem
 try with_reducible refine eN ?_
 first|refine cR (de ?_)|skip
 refine cR (jk ht.typeIs (by decide) ?_);refine cR (fJ (name:=Str.ofString "__getitem__") ht.typeIs fv
  (fP fv ht.typeIs kz ?_ (kM _ _)))
 show wpAny _ _ (Builtin.Tuple.tupleItemsOf (.ref t)>>=_) _ _ s;refine cR (tupleItemsOf_ ht ?_);refine cR (jz hTs ?_);rw[cX (by decide)];refine cR (vV hs pl pu ?_);have hno:¬((((sY WJ.size 0 lo:Nat):Int)==0&&(1:Int)==1&&(sY WJ.size WJ.size hi - sY WJ.size 0 lo)==WJ.size)=true):=by intro q;rw[dO,dO]at q;have q1:((sY WJ.size 0 lo:Nat):Int)=0:=eq_of_beq q.1.1;have q2:sY WJ.size WJ.size hi - sY WJ.size 0 lo=WJ.size:=eq_of_beq q.2;exact hw ⟨by omega,by omega⟩
 show wpAny _ _ (if (((sY WJ.size 0 lo:Nat):Int)==0&&(1:Int)==1&&(sY WJ.size WJ.size hi - sY WJ.size 0 lo)==WJ.size)=true then _ else _) _ _ s;rw[cV hno,LS]
 first
  | exact cR (m:=Builtin.Tuple.tupleExact _) (fQ (de ⟨_,rfl,de h⟩) X9)
  | exact cR (m:=Builtin.Tuple.tupleExact _) (fQ (cR (de (de ⟨_,rfl,de h⟩))) X9)
  | exact cR (cR (m:=Builtin.Tuple.tupleExact _) (fQ (de (de ⟨_,rfl,de h⟩)) X9))
  | exact cR (cR (m:=Builtin.Tuple.tupleExact _) (fQ (de ⟨_,rfl,de h⟩) X9))
end HT
namespace L2
open PySem PySem.Spec PyProof.Rows
abbrev TO:=St->Hp->(Option Int->Hp->Prop)->Prop
def PO(X:Cx)(e:Option Expr)(t:TO):Prop:=
 ∀(WI:List (Addr×Obj)) (s:Sd) (σ:St) (H:Hp) (Q:Option Int->Hp->Prop),Inv X WI σ H s->t σ H Q->
  wpAny (model X.prog X.w) X.A (evalPart e X.env) (λu s'=>∃o H',Inv X WI σ H' s'/\IsPart u o/\Q o H') X.xe s
def O1:TO:=λ_ H Q=>Q none H
def TL(t:TE):TO:=λσ H Q=>t σ H λx H1=>∃i,x=.int i/\Q (some i) H1
variable {X:Cx}{e:Expr}{te:TE}{lo hi:Option Expr}{tl th:TO}{pos p2:Pos}
def P3:PO X none O1:=by intro WI s σ H Q I h;rw[evalPart_none];exact de ⟨none,H,I,.none,h⟩
def Qh(h:PE X e te):PO X (some e) (TL te):=by intro WI s σ H Q I hw;rw[evalPart_some];refine so (h WI s σ H _ I hw) λu s1 zz=>x5 zz λx H1 I1 r1 q1=>?_;obtain⟨i,rfl,q⟩:=q1;obtain⟨t,rfl⟩:=r1;exact⟨some i,H1,I1,.int i t,q⟩
def Uu(X:Cx)(r:V->Option Int->Option Int->Hp->VK->Prop):Prop:=
 ∀(WI:List (Addr×Obj)) (s:Sd) (σ:St) (H:Hp) (x:V) (v vl vu:Vl) (lo hi:Option Int) (sl:Addr) (Q:VK),Inv X WI σ H s->qR x v->s.heap.IsSliceOf sl vl vu .none->IsPart vl lo->IsPart vu hi->r x lo hi H Q->
  ∃T id,typeLookup (.type T) "__getitem__"=pure (some (.builtin id))/\s.TypeIs v T/\wpAny (model X.prog X.w) X.A (getItem v (.ref sl)) (EP X WI σ Q) X.xe s
def WB(r:V->Option Int->Option Int->Hp->VK->Prop)(te:TE)(tl th:TO):TE:=λσ H Q=>te σ H λx H1=>tl σ H1 λl H2=>th σ H2 λu H3=>r x l u H3 Q
def L9{r:V->Option Int->Option Int->Hp->VK->Prop}(hr:Uu X r)(he:PE X e te)(hl:PO X lo tl)(hu:PO X hi th):PE X (.Subscript e (.Slice lo hi none p2) pos) (WB r te tl th):=by intro WI s σ H Q I h;refine Subscript_ (so (he WI s σ H _ I h) λv s1 zz=>x5 zz λx H1 I1 r1 q1=>?_);refine wpAny_Slice (so (hl WI s1 σ H1 _ I1 q1) λvl s2 zz=>x5 zz λl H2 I2 pl q2=>so (hu WI s2 σ H2 _ I2 q2) λvu s3 zz=>x5 zz λu H3 I3 pu q3=>?_);rw[evalPart_none];refine de ?_;have I4:Inv X WI σ H3 {s3 with heap:=s3.heap.push {cls:=.type "slice",data:=.fields #[vl,vu,.none]}}:=I3.kept (t':=s3.toks) λb ob q=>cW _ q;obtain⟨T,id,hT,ht,hg⟩:=hr WI {s3 with heap:=s3.heap.push {cls:=.type "slice",data:=.fields #[vl,vu,.none]}} σ H3 x v vl vu l u s3.heap.objs.size Q I4 r1 (mD ..) pl pu q3;show wpAny (model X.prog X.w) X.A (subscriptTail e (.Slice lo hi none p2) v (.ref s3.heap.objs.size)) (EP X WI σ Q) X.xe {s3 with heap:=s3.heap.push {cls:=.type "slice",data:=.fields #[vl,vu,.none]}};exact tail_any (ops:=[.ref s3.heap.objs.size,v]) ht hT hg (by with_unfolding_all rfl)
def B5(xs:List V)(lo hi:Option Int):List V:=(xs.drop (HT.sY xs.length 0 lo)).take (HT.sY xs.length xs.length hi - HT.sY xs.length 0 lo)
def Aw(xs:List V)(lo hi:Option Int):(B5 xs lo hi).length<=xs.length:=by unfold B5;rw[fK,gv];omega
def Vj(K:qr):V->Option Int->Option Int->Hp->VK->Prop:=λx lo hi H Q=>∃a xs,x=.ref a/\uW K H a xs/\
 ¬(HT.sY xs.length 0 lo=0/\HT.sY xs.length xs.length hi=xs.length)/\∀p,H p=none->Q (.ref p) (upd H p (.tup (B5 xs lo hi)))
def SD:Uu X (Vj X.K):=by
 intro WI s σ H x v vl vu lo hi sl Q I rx hs pl pu h;obtain⟨a,xs,rfl,hx,hw,q⟩:=h;cases rx;obtain⟨its,r,ht,hz⟩:=I.tuple hx;have WO:its.toArray.size=xs.length:=by rw[dg];exact r.length.symm
 refine⟨"tuple",_,fv.lookup,ht.typeIs,?_⟩;refine HT.zB ht hs pl pu (by rw[WO];exact hw) ?_ (by rw[WO];exact hz);rw[WO];refine⟨.ref s.heap.objs.size,_,I.laid (t':=s.toks) (o:=.tup (B5 xs lo hi)) (λb ob q=>cW _ q) (cZ _) ?_,rfl,q _ (I.mP.fresh (cZ _))⟩;exact⟨dN (Aw xs lo hi) hz,_,(r.drop (HT.sY xs.length 0 lo)).take (HT.sY xs.length xs.length hi - HT.sY xs.length 0 lo),Eb.new _ _⟩
def TM(K:qr):R2:=λx y H Q=>∃a b xs ys,x=.ref a/\y=.ref b/\uW K H a xs/\uW K H b ys/\xs≠[]/\xs.length+ys.length<=sizeLine/\
 (ys=[]->Q (.ref a) H)/\(ys≠[]->∀p,H p=none->Q (.ref p) (upd H p (.tup (xs++ys))))
def qz.nL{xs:List V}{us:List Vl}(r:qz xs us):us=[]↔xs=[]:=by
 cases r with
 | nil=>simp
 | cons _ _=>simp
def OP:xn X (binaryOp .Add) (TM X.K):=by intro WI s σ H x y v u Q I rx ry h;obtain⟨a,b,xs,ys,rfl,rfl,ha,hb,hx,hz,q1,q2⟩:=h;cases rx;cases ry;obtain⟨its,r1,p1,_⟩:=I.tuple ha;obtain⟨its2,r2,p2,_⟩:=I.tuple hb;refine HT.OW p1 p2 (λz=>hx (r1.nL.mp z)) (λz=>⟨.ref a,H,I,rfl,q1 (r2.nL.mp z)⟩) (λz=>?_) (by rw[<-r1.length,<-r2.length];exact hz);refine⟨.ref s.heap.objs.size,_,I.laid (t':=s.toks) (o:=.tup (xs++ys)) (λb ob q=>cW _ q) (cZ _) ?_,rfl,q2 (λw=>z (r2.nL.mpr w)) _ (I.mP.fresh (cZ _))⟩;exact⟨by rw[cT];exact hz,_,r1.append r2,Eb.new _ _⟩
def FX(n:Nat)(i:Int):Option Nat:=if 0<=i then(if i<n then some i.toNat else none)else if -(n:Int)<=i then some (i+n).toNat else none
def wn{α:Type}(xs:List α)(i:Int):Option α:=(FX xs.length i).bind λj=>xs[j]?
def Ji{n:Nat}{i:Int}{j:Nat}(h:FX n i=some j):seqIndex? i n=some j/\j<n/\-(n:Int)<=i/\i<n:=by
 unfold FX at h;by_cases h0:0<=i
 .rw[cX h0]at h;by_cases h1:i<n
  .rw[cX h1]at h;have e:i.toNat=j:=c9 h;exact⟨by rw[lz h0 h1,e],by omega,by omega,h1⟩
  .rw[cV h1]at h;cases h
 .rw[cV h0]at h;by_cases h1:-(n:Int)<=i
  .rw[cX h1]at h;have e:(i+n).toNat=j:=c9 h;exact⟨by rw[kN (by omega) h1,e],by omega,h1,by omega⟩
  .rw[cV h1]at h;cases h
def EK{α:Type}{xs:List α}{i:Int}{v:α}(h:wn xs i=some v):∃j,seqIndex? i xs.length=some j/\xs[j]?=some v/\j<xs.length/\-(xs.length:Int)<=i/\i<xs.length:=by
 unfold wn at h;cases e:FX xs.length i with
 | none=>rw[e]at h;cases h
 | some j=>rw[e]at h;obtain⟨h1,h2,h3,h4⟩:=Ji e;exact⟨j,h1,h,h2,h3,h4⟩
def ua{α:Type}{xs:List α}{j:Nat}{v:α}(h:xs[j]?=some v):wn xs (j:Int)=some v:=by
 have hj:j<xs.length:=(cS.mp h).1;have e:FX xs.length (j:Int)=some j:=by unfold FX;rw[cX (by omega),cX (by omega)];simp
 unfold wn;rw[e];exact h
def Ba(b:Expr):Prop:=∀o i,subscripted b false o i=operate [o,i] (getItem o i)
def SW(X:Cx)(r:R2):Prop:=
 ∀(value WS:Expr) (WI:List (Addr×Obj)) (s:Sd) (σ:St) (H:Hp) (x y:V) (v u:Vl) (Q:VK),Inv X WI σ H s->qR x v->qR y u->r x y H Q->
  subscripted WS false v u=operate [v,u] (getItem v u)->wpAny (model X.prog X.w) X.A (subscriptTail value WS v u) (EP X WI σ Q) X.xe s
def Wk(X:Cx)(id:String)(r:V->List V->Hp->VK->Prop):Prop:=
 ∀(WI:List (Addr×Obj)) (s:Sd) (σ:St) (H:Hp) (x:V) (xs:List V) (v:Vl) (us:List Vl) (Q:VK),Inv X WI σ H s->qR x v->qz xs us->r x xs H Q->
  wpAny (model X.prog X.w) X.A (call (.builtin id) (v::us)) (EP X WI σ Q) X.xe s
variable {o:Expr}{es:List Expr}{to:TE}{t:TA}{name:Str}{WL WP:Pos}{T id:String}{r:V→List V→Hp→VK→Prop}{a:Expr}{ta tb:TE}
section
variable {b:Expr}
def L7{r:R2}(hr:SW X r)(ha:PE X a ta)(hb:PE X b tb)(hs:Ba b):PE X (.Subscript a b pos) (S5 r ta tb):=by intro WI s σ H Q I h;exact Subscript_ (SH ha hb I h λv u s2 x y H2 I2 rx ry q=>hr a b WI s2 σ H2 x y v u Q I2 rx ry q (hs _ _))
def U'(K:qr):R2:=λx y H Q=>∃p xs i v,x=.ref p/\y=.int i/\yX K H p xs/\wn xs i=some v/\Q v H
def Vi(K:qr):R2:=λx y H Q=>∃p xs i v,x=.ref p/\y=.int i/\uW K H p xs/\wn xs i=some v/\Q v H
def Vy:R2:=λx y H Q=>∃z i c,x=.str z/\y=.int i/\z.length<=sizeLine/\wn z.cps.toList i=some c/\Q (.str ⟨#[c]⟩) H
def Ju:SW X (U' X.K):=by
 intro value WS WI s σ H x y v u Q I rx ry h hs;obtain⟨p,xs,i,z,rfl,rfl,hq,he,q⟩:=h;cases rx;obtain⟨t,rfl⟩:=ry;obtain⟨its,r,pl,hz⟩:=I.list hq;obtain⟨j,h1,h2,h3,h4,h5⟩:=EK he;obtain⟨w,ew,YT⟩:=r.get h2;have hl:=r.length;have hn:=yN;have WN:EP X WI σ Q w s:=⟨z,H,I,YT,q⟩;by_cases h0:0<=i
 .have hj:i.toNat=j:=by rw[lz h0 h5]at h1;exact c9 h1
  exact item_listR pl.isList h0 (by omega) (by rw[hj];simpa using ew) WN hs
 .have hj:(i+(its.toArray.size:Int)).toNat=j:=by rw[kN (by omega) h4]at h1;rw[dg,<-hl];exact c9 h1
  exact jV (x:=w) pl.isList.typeIs lb.lookup
   (wpAny_getItem_list_neg (Q:=λr s'=>r=w/\EP X WI σ Q r s') pl.isList (by omega) (by rw[dg]<;>omega) (by omega) (by rw[hj];simpa using ew) ⟨rfl,WN⟩) hs
def R1:SW X (Vi X.K):=by
 intro value WS WI s σ H x y v u Q I rx ry h hs;obtain⟨p,xs,i,z,rfl,rfl,hq,he,q⟩:=h;cases rx;obtain⟨t,rfl⟩:=ry;obtain⟨its,r,pl,hz⟩:=I.tuple hq;obtain⟨j,h1,h2,h3,h4,h5⟩:=EK he;obtain⟨w,ew,YT⟩:=r.get h2;have hl:=r.length;have hn:=yN;have WN:EP X WI σ Q w s:=⟨z,H,I,YT,q⟩;exact jV (x:=w) pl.typeIs slot_tuple_getitem.lookup
  (getItem_tuple (j:=j) (Q:=λr s'=>r=w/\EP X WI σ Q r s') pl (by omega) (by omega) (by rw[dg,<-hl];exact h1) (by simpa using ew) ⟨rfl,WN⟩) hs
def Q5:SW X Vy:=by
 intro value WS WI s σ H x y v u Q I rx ry h hs;obtain⟨z,i,c,rfl,rfl,hz,he,q⟩:=h;obtain⟨t,rfl⟩:=rx;obtain⟨t',rfl⟩:=ry;obtain⟨j,h1,h2,h3,h4,h5⟩:=EK he;have hl:z.cps.toList.length=z.length:=by simp[Str.length]
 rw[hl]at h1 h4 h5;have hn:=yN;exact tail_any (typeIs_str s z t) slot_str_getitem.lookup (getItem_str (c:=c) (by
  have e1:decide (i< -(2 ^ 63:Int))=false:=eK (by omega);have e2:decide (i>=2 ^ 63)=false:=eK (by omega);rw[e1,e2,kt]) (by rw[h1];simpa using h2) ⟨.str ⟨#[c]⟩,H,I.tok _,⟨_,rfl⟩,q⟩) hs
def Hj(its:List Vl)(n j:Nat)(u:Vl):Obj.mapSeq (·.setIfInBounds j u) {cls:=.type "list",data:=.seq its.toArray n}={cls:=.type "list",data:=.seq (its.set j u).toArray n}:=by simp[Obj.mapSeq]
def Inv.lst{WI:List (Addr×Obj)}{σ:St}{H:Hp}{s:Sd}{p:Addr}{xs:List V}(I:Inv X WI σ H s)(h:H p=some (.lst xs)):
  ∃(its:List Vl) (n:Nat),qz xs its/\s.heap.get? p=some {cls:=.type "list",data:=.seq its.toArray n}/\xs.length<=sizeLine:=by
 obtain⟨z,its,n,r,e⟩:=I.mP p _ h;exact⟨its,n,r,e,z⟩
def Inv.oC{WI:List (Addr×Obj)}{σ:St}{H:Hp}{s:Sd}{p:Addr}{xs ys:List V}{its its':List Vl}{n n':Nat}{f:Obj->Obj}(I:Inv X WI σ H s)(h:H p=some (.lst xs)) (ho:s.heap.get? p=some {cls:=.type "list",data:=.seq its.toArray n}) (hf:f {cls:=.type "list",data:=.seq its.toArray n}={cls:=.type "list",data:=.seq its'.toArray n'}) (r:qz ys its') (hz:ys.length<=sizeLine) (t:Nat):
  Inv X WI σ (upd H p (.lst ys)) {s with heap:=s.heap.update p f,toks:=t}:=by
 have e:(s.heap.update p f).get? p=some {cls:=.type "list",data:=.seq its'.toArray n'}:=by rw[fD f ho (by rw[hf]<;>rfl),hf]
 refine I.write (x:=p) (e:=p) (by rw[h];trivial) (.inl rfl) (λb u hb q=>(fW _ _ (dI hb)).trans q) ⟨_,e⟩ ?_;exact⟨hz,its',n',r,e⟩
def UA:V->V->V->Hp->(Hp->Prop)->Prop:=λo i v H Q=>∃p xs k j,o=.ref p/\i=.int k/\H p=some (.lst xs)/\FX xs.length k=some j/\Q (upd H p (.lst (xs.set j v)))
def Mr:S9 X UA:=by
 intro WI s σ H o i v ov iv u Q I ro ri rv h;obtain⟨p,xs,k,j,rfl,rfl,hp,hj,q⟩:=h;cases ro;obtain⟨t,rfl⟩:=ri;obtain⟨its,n,r,ho,hz⟩:=I.lst hp;obtain⟨h1,h2,h3,h4⟩:=Ji hj;have hl:=r.length;have hn:=yN;have I':Inv X WI σ (upd H p (.lst (xs.set j v))) {s with heap:=s.heap.update p (Obj.mapSeq (·.setIfInBounds j u))}:=
  I.oC hp ho (Hj its n j u) (r.set rv j) (by rw[ii];exact hz) s.toks
 by_cases h0:0<=k
 .have hk:k.toNat=j:=by rw[lz h0 h4]at h1;exact c9 h1
  exact W.ki_setAt ho h0 (by omega) (by rw[dg,<-hl];exact h4) (by rw[hk];exact⟨_,I',q⟩)
 .have hk:(k+(its.toArray.size:Int)).toNat=j:=by rw[kN (by omega) h3]at h1;rw[dg,<-hl];exact c9 h1
  exact W.ki_setBack ho (by omega) (by rw[dg,<-hl];exact h3) (by omega) (by rw[hk];exact⟨_,I',q⟩)
def Eh(lo hi:Option Int)(n:Nat):(sliceBounds lo hi none n).1=((HT.sY n 0 lo:Nat):Int)/\(sliceBounds lo hi none n).2.1=((HT.sY n n hi:Nat):Int)/\(sliceBounds lo hi none n).2.2=1:=by
 refine⟨?_,?_,rfl⟩
 .cases lo with
  | none=>simp[sliceBounds,HT.sY]
  | some i=>
   simp only[sliceBounds,HT.sY,lK,show(1:Int)>0 by decide,iX];by_cases h:i<0
   .simp only[h,iX]<;>omega
   .simp only[h,kc]<;>omega
 .cases hi with
  | none=>simp[sliceBounds,HT.sY]
  | some i=>
   simp only[sliceBounds,HT.sY,lK,show(1:Int)>0 by decide,iX];by_cases h:i<0
   .simp only[h,iX]<;>omega
   .simp only[h,kc]<;>omega
def C4(its:List Vl)(lo hi:Option Int):slicePick its.toArray lo hi none=((its.drop (HT.sY its.length 0 lo)).take (HT.sY its.length its.length hi - HT.sY its.length 0 lo)).toArray:=by obtain⟨h1,h2,h3⟩:=Eh lo hi its.toArray.size;unfold slicePick;rw[h1,h2,h3];simp only[sliceRange_one,pick_run,dg]<;>rfl
def Vc(K:qr):V->Option Int->Option Int->Hp->VK->Prop:=λx lo hi H Q=>∃a xs,x=.ref a/\yX K H a xs/\∀p,H p=none->Q (.ref p) (upd H p (.lst (B5 xs lo hi)))
def Jp:Uu X (Vc X.K):=by intro WI s σ H x v vl vu lo hi sl Q I rx hs pl pu h;obtain⟨a,xs,rfl,hx,q⟩:=h;cases rx;obtain⟨its,r,ht,hz⟩:=I.list hx;have WO:=r.length;refine⟨"list",_,lb.lookup,ht.isList.typeIs,?_⟩;refine wpAny_getItem_list_slice ht.isList hs pl pu .none (by simp) ?_ (by rw[dg]<;>omega);rw[C4,<-WO];refine⟨.ref s.heap.objs.size,_,I.laid (t':=s.toks) (o:=.lst (B5 xs lo hi)) (λb ob q=>cW _ q) (cZ _) ?_,rfl,q _ (I.mP.fresh (cZ _))⟩;exact⟨dN (Aw xs lo hi) hz,_,0,(r.drop (HT.sY xs.length 0 lo)).take (HT.sY xs.length xs.length hi - HT.sY xs.length 0 lo),dA _ rfl⟩
def yt:V->Bool
 | .mI=>true
 | .bl _=>true
 | .int _=>true
 | .str _=>true
 | _=>false
def NI:V->V->Bool
 | .mI,.mI=>true
 | .bl a,.bl b=>a==b
 | .bl a,.int b=>(if a then 1 else 0)==b
 | .int a,.bl b=>a==(if b then 1 else 0)
 | .int a,.int b=>a==b
 | .str a,.str b=>a==b
 | _,_=>false
def Sr{A:Ar}{s:Sd}{y x:V}{u v:Vl}(ry:qR y u)(rx:qR x v)(fy:yt y=true)(fx:yt x=true):SeqAt.EqAt A s u v (NI y x):=by
 cases y with
 | mI=>
  cases ry;cases x with
  | mI=>cases rx;exact SeqAt.EqAt.same _
  | bl b=>cases rx;exact SeqAt.EqAt.none_bool b
  | int b=>obtain⟨t,rfl⟩:=rx;exact SeqAt.EqAt.none_int b t
  | str b=>obtain⟨t,rfl⟩:=rx;exact SeqAt.EqAt.none_str b t
  | _=>exact absurd (show false=true from fx) dn
 | bl a=>
  cases ry;cases x with
  | mI=>cases rx;exact SeqAt.EqAt.bool_none a
  | bl b=>cases rx;exact SeqAt.EqAt.bool_bool a b
  | int b=>obtain⟨t,rfl⟩:=rx;exact SeqAt.EqAt.bool_int a b t
  | str b=>obtain⟨t,rfl⟩:=rx;exact SeqAt.EqAt.bool_str a b t
  | _=>exact absurd (show false=true from fx) dn
 | int a=>
  obtain⟨t',rfl⟩:=ry;cases x with
  | mI=>cases rx;exact SeqAt.EqAt.int_none a t'
  | bl b=>cases rx;exact SeqAt.EqAt.int_bool a t' b
  | int b=>obtain⟨t,rfl⟩:=rx;exact SeqAt.EqAt.int_int a t' b t
  | str b=>obtain⟨t,rfl⟩:=rx;exact kG a t' b t
  | _=>exact absurd (show false=true from fx) dn
 | str a=>
  obtain⟨t',rfl⟩:=ry;cases x with
  | mI=>cases rx;exact SeqAt.EqAt.str_none a t'
  | bl b=>cases rx;exact SeqAt.EqAt.str_bool a t' b
  | int b=>obtain⟨t,rfl⟩:=rx;exact kH a t' b t
  | str b=>obtain⟨t,rfl⟩:=rx;exact SeqAt.EqAt.str_str a t' b t
  | _=>exact absurd (show false=true from fx) dn
 | _=>exact absurd (show false=true from fy) dn
def Ef(x:V)(u:Vl):Bool:=match u with
 | .none=>NI .mI x
 | .bool b=>NI (.bl b) x
 | .int i _=>NI (.int i) x
 | .str z _=>NI (.str z) x
 | _=>false
def HK{x y:V}{u:Vl}(r:qR y u)(f:yt y=true):Ef x u=NI y x:=by
 cases y with
 | mI=>cases r;rfl
 | bl b=>cases r;rfl
 | int i=>obtain⟨t,rfl⟩:=r;rfl
 | str z=>obtain⟨t,rfl⟩:=r;rfl
 | _=>exact absurd (show false=true from f) dn
theorem zu{x:V}:∀{xs:List V} {us:List Vl},qz xs us->xs.all yt=true->us.any (Ef x)=xs.any λy=>NI y x
 | _,_,.nil,_=>rfl
 | y::xs,u::us,.cons r t,f=>by rw[eO,dO]at f;rw[fX,fX,HK r f.1,zu t f.2]
theorem wm{A:Ar}{s:Sd}{x:V}{v:Vl}(rx:qR x v)(fx:yt x=true):∀{xs:List V} {us:List Vl},qz xs us->xs.all yt=true->∀u∈us,SeqAt.EqAt A s u v (Ef x u)
 | _,_,.nil,_=>λu hu=>by cases hu
 | y::xs,u::us,.cons r t,f=>λu' hu=>by
  rw[eO,dO]at f;rcases cY.mp hu with rfl|hu
  .rw[HK r f.1];exact Sr r rx f.1 fx
  .exact wm rx fx t f.2 u' hu
def inV(x:V)(xs:List V):Bool:=xs.any λy=>NI y x
def Vq(K:qr)(Yg:Bool):R2:=λx y H Q=>∃p xs,y=.ref p/\(yX K H p xs\/uW K H p xs)/\yt x=true/\xs.all yt=true/\Q (.bl (if Yg then !inV x xs else inV x xs)) H
def Kd:xn X (compareOp .In) (Vq X.K false):=by
 intro WI s σ H x y v u Q I rx ry h;obtain⟨p,xs,rfl,hq,fx,fs,q⟩:=h;cases ry;rcases hq with hq|hq
 .obtain⟨its,r,pl,hz⟩:=I.list hq;refine SeqAt.in_listAt (Ef x) pl.isList (λw hw=>wm rx fx r fs w (by simpa using hw)) ⟨.bl _,H,I,rfl,?_⟩;rw[show its.toArray.any (Ef x)=its.any (Ef x)by simp,zu r fs];exact q
 .obtain⟨its,r,pl,hz⟩:=I.tuple hq;refine SeqAt.in_tupleAt (Ef x) pl (λw hw=>wm rx fx r fs w (by simpa using hw)) ⟨.bl _,H,I,rfl,?_⟩;rw[show its.toArray.any (Ef x)=its.any (Ef x)by simp,zu r fs];exact q
def Fu:xn X (compareOp .NotIn) (Vq X.K true):=by
 intro WI s σ H x y v u Q I rx ry h;obtain⟨p,xs,rfl,hq,fx,fs,q⟩:=h;cases ry;rcases hq with hq|hq
 .obtain⟨its,r,pl,hz⟩:=I.list hq;refine SeqAt.notIn_listAt (Ef x) pl.isList (λw hw=>wm rx fx r fs w (by simpa using hw)) ⟨.bl _,H,I,rfl,?_⟩;rw[show its.toArray.any (Ef x)=its.any (Ef x)by simp,zu r fs];exact q
 .obtain⟨its,r,pl,hz⟩:=I.tuple hq;refine SeqAt.notIn_tupleAt (Ef x) pl (λw hw=>wm rx fx r fs w (by simpa using hw)) ⟨.bl _,H,I,rfl,?_⟩;rw[show its.toArray.any (Ef x)=its.any (Ef x)by simp,zu r fs];exact q
def Fk:xn X (compareOp .NotIn) (λx y H Q=>∃i j,x=.str i/\y=.str j/\Q (.bl (!(!(Builtin.Str.occurrences j i 0 j.length 1).isEmpty))) H):=by intro WI s σ H x y v u Q I rx ry h;obtain⟨i,j,rfl,rfl,q⟩:=h;obtain⟨t,rfl⟩:=rx;obtain⟨t',rfl⟩:=ry;exact notIn_str ⟨.bl _,H,I,rfl,q⟩
def wz:zD X (.builtin "len") (λxs H Q=>∃p ys,xs=[.ref p]/\(yX X.K H p ys\/uW X.K H p ys)/\Q (.int ys.length) H):=by
 intro WI s σ H xs us Q I r h;obtain⟨p,ys,rfl,hq,q⟩:=h;obtain⟨u,rfl,rx⟩:=yq r;cases rx;have hn:=yN;rcases hq with hq|hq
 .obtain⟨its,r',pl,hz⟩:=I.list hq;have WO:=r'.length;exact Calls.call_len_list pl.isList (by simp only[dg]<;>omega) ⟨.int ys.length,H,I.tok _,⟨s.toks+1,by rw[dg,WO]⟩,q⟩
 .obtain⟨its,r',pl,hz⟩:=I.tuple hq;have WO:=r'.length;exact len_tuple pl (by simp only[dg]<;>omega) ⟨.int ys.length,H,I.tok _,⟨s.toks+1,by rw[dg,WO]⟩,q⟩
def FG:zD X (.builtin "len") (λxs H Q=>∃z,xs=[.str z]/\z.length<=sizeLine/\Q (.int z.length) H):=by intro WI s σ H xs us Q I r h;obtain⟨z,rfl,hz,q⟩:=h;obtain⟨u,rfl,t,rfl⟩:=yq r;have hn:=yN;exact len_str (by omega) ⟨.int z.length,H,I.tok _,⟨_,rfl⟩,q⟩
def E2:zD X (.type "list") (λxs H Q=>∃p ys,xs=[.ref p]/\(yX X.K H p ys\/uW X.K H p ys)/\∀l,H l=none->Q (.ref l) (upd H l (.lst ys))):=by
 intro WI s σ H xs us Q I r h;obtain⟨p,ys,rfl,hq,q⟩:=h;obtain⟨u,rfl,rx⟩:=yq r;cases rx;have WN:∀(its:List Vl),qz ys its->ys.length<=sizeLine->∀(h':Heap) (c':Nat),(∀b o',s.heap.get? b=some o'->h'.get? b=some o')->
   h'.get? s.heap.objs.size=some {cls:=.type "list",dict:=none,data:=.seq its.toArray c',slots:=#[]}->EP X WI σ Q (.ref s.heap.objs.size) {s with heap:=h'}:=λits r' hz h' c' kp e=>
  ⟨.ref s.heap.objs.size,_,I.laid (t':=s.toks) kp (cZ _) (show sR X.prog X.w _ h' _ (.lst ys)from⟨hz,its,c',r',e⟩),rfl,q _ (I.mP.fresh (cZ _))⟩
 rcases hq with hq|hq
 .obtain⟨its,r',pl,hz⟩:=I.list hq;have WO:=r'.length;obtain⟨o,ho,hc,n,hd⟩:=pl.isList;exact call_list_seq p (.inl rfl) ho hc hd (λh' c' kp e=>WN its r' hz h' c' kp e) (by simp only[dg]<;>omega)
 .obtain⟨its,r',pl,hz⟩:=I.tuple hq;have WO:=r'.length;obtain⟨o,ho,hc,n,hd⟩:=pl;exact call_list_seq p (.inr rfl) ho hc hd (λh' c' kp e=>WN its r' hz h' c' kp e) (by simp only[dg]<;>omega)
def vR:zD X (.type "tuple") (λxs H Q=>∃p ys,xs=[.ref p]/\((yX X.K H p ys/\∀l,H l=none->Q (.ref l) (upd H l (.tup ys)))\/(uW X.K H p ys/\Q (.ref p) H))):=by
 intro WI s σ H xs us Q I r h;obtain⟨p,ys,rfl,h⟩:=h;obtain⟨u,rfl,rx⟩:=yq r;cases rx;rcases h with⟨hq,q⟩|⟨hq,q⟩
 .obtain⟨its,r',pl,hz⟩:=I.list hq;have WO:=r'.length;refine call_tuple_list pl.isList (λh' kp=>?_) (by simp only[dg]<;>omega);have I1:Inv X WI σ H {s with heap:=h'}:=I.kept (t':=s.toks) kp;have I2:Inv X WI σ (upd H h'.objs.size (.tup ys)) {s with heap:=h'.push {cls:=.type "tuple",data:=.seq its.toArray}}:=
   I1.laid (t':=s.toks) (λb o e=>cW _ e) (cZ _) (show sR X.prog X.w _ _ _ (.tup ys)from⟨hz,its,r',Eb.new _ _⟩)
  exact⟨.ref h'.objs.size,_,I2,rfl,q _ (I1.mP.fresh (cZ _))⟩
 .obtain⟨its,r',pl,hz⟩:=I.tuple hq;exact call_tuple_same pl ⟨.ref p,H,I,rfl,q⟩
def Vt(K:qr)(T:String)(x:V)(H:Hp):Prop:=match x with
 | .str _=>T="str"
 | .int _=>T="int"
 | .ref p=>(T="list"/\∃xs,yX K H p xs)\/(T="tuple"/\∃o,K.lookup p=some o/\o.cls=.type "tuple"/\o.dict=none)\/
   (T="dict"/\((∃kvs,H p=some (.dK kvs))\/∃kvs,H p=some (.dT kvs)))\/(T="set"/\∃S n,H p=some (.set S n))
 | _=>False
def LR{WI:List (Addr×Obj)}{σ:St}{H:Hp}{s:Sd}{T:String}{x:V}{v:Vl}(I:Inv X WI σ H s)(r:qR x v)(ty:Vt X.K T x H):
  s.TypeIs v T/\∀a,v=.ref a->∃ob,s.heap.get? a=some ob/\ob.dict=none:=by
 cases x with
 | str z=>obtain⟨t,rfl⟩:=r;cases(show T="str" from ty);exact⟨typeIs_str s z t,λ_ e=>nomatch e⟩
 | int i=>obtain⟨t,rfl⟩:=r;cases(show T="int" from ty);exact⟨lV s i t,λ_ e=>nomatch e⟩
 | ref p=>
  cases r;rcases ty with⟨rfl,xs,hq⟩|⟨rfl,o,hk,hc,hd⟩|⟨rfl,hk⟩|⟨rfl,S,n,hk⟩
  .obtain⟨its,_,pl,_⟩:=I.list hq;refine⟨pl.isList.typeIs,λa e=>?_⟩;cases e;obtain⟨o,n,e,c,hd,_⟩:=pl;exact⟨o,e,hd⟩
  .refine⟨⟨o,I.ny p o hk,hc⟩,λa e=>?_⟩;cases e;exact⟨o,I.ny _ o hk,hd⟩
  .have z:∃o,s.heap.get? p=some o/\o.ExactDict:=by
    rcases hk with⟨kvs,hk⟩|⟨kvs,hk⟩
    .obtain⟨_,_,_,_,o,_,_,e,ex,_⟩:=I.mP p _ hk;exact⟨o,e,ex⟩
    .obtain⟨_,_,_,_,o,_,_,e,ex,_⟩:=I.mP p _ hk;exact⟨o,e,ex⟩
   obtain⟨o,e,ex⟩:=z;refine⟨⟨o,e,ex.1⟩,λa e2=>?_⟩;cases e2;exact⟨o,e,ex.2.1⟩
  .obtain⟨o,_,_,_,e,ex,_⟩:=I.mP p _ hk;refine⟨⟨o,e,ex.1⟩,λa e2=>?_⟩;cases e2;exact⟨o,e,ex.2.1⟩
 | _=>exact False.elim ty
def Wq(K:qr)(T:String)(r:V->List V->Hp->VK->Prop)(to:TE)(t:TA):TE:=λσ H Q=>to σ H λx H1=>Vt K T x H1/\t σ H1 λxs H2=>r x xs H2 Q
def TC(pa:PlainAttrs T)(slot:Slot T name id)(hty:typeOf (.builtin id)=pure (.type "method_descriptor"))(hm:Wk X id r)(ho:PE X o to)(ha:PA X (e::es) t) (WV:attributeBase o name X.env (eval o X.env)=eval o X.env:=by rfl)
  (X2:((backTo WP (starEach (e::es) X.env)).all (λx=>!x.1)&&(backToKw WP (keywordEach [] X.env)).all (λx=>x.1.isSome)
   &&decide ((e::es).length+([]:List Keyword).length+(if ([]:List Keyword).isEmpty then 0 else 1)<30))=true:=by rfl)
  (W6:(WL.endLine==WP.line)=true:=by rfl) (hs:A9 X e es:=by rfl) (W0:CC X WP es:=by rfl):
  PE X (.Call (.Attribute o name WL) (e::es) [] WP) (Wq X.K T r to t):=by
 intro WI s σ H Q I h;refine wpAny_Call_method_late WV X2 W6 rfl (so (ho WI s σ H _ I h) λv s1 zz=>?_);obtain⟨x,H1,I1,r1,ty,q1⟩:=zz;obtain⟨h1,h2⟩:=LR I1 r1 ty;refine⟨T,id,pa,slot,hty,h1,h2,?_⟩;have hA:=ha WP WI s1 σ H1 _ I1 q1;rw[hs]at hA ⊢;refine jW (by show(false||(backTo WP (starEach es X.env)).any (·.1))=false;rw[W0]<;>rfl) (Calls.evalArgs_plain ?_);exact so hA λus s2 zz=>x5 zz λvs H2 I2 r2 q2=>hm WI s2 σ H2 x vs v us Q I2 r1 r2 q2
end
def WC(X:Cx)(id:String)(r:V->List V->Hp->VK->Prop):Prop:=
 ∀(WI:List (Addr×Obj)) (s:Sd) (σ:St) (H:Hp) (x:V) (xs:List V) (v:Vl) (us:List Vl) (Q:VK),Inv X WI σ H s->qR x v->qz xs us->r x xs H Q->
  wpAny (model X.prog X.w) X.A (call (.builtin id) (v::us)) (EP X WI σ Q) X.xe s
def qz.one:∀{x:V} {us:List Vl},qz [x] us->∃u,us=[u]/\qR x u
 | _,_,.cons r .nil=>⟨_,rfl,r⟩
theorem qz.rep{xs:List V}{us:List Vl}(h:qz xs us):∀k:Nat,qz (List.replicate k xs).flatten (List.replicate k us).flatten
 | 0=>.nil
 | k+1=>by rw[eC,eC,fM,fM];exact qz.append h (qz.rep h k)
theorem Dq(its:List Vl):∀(k:Nat) (acc:List Vl),List.foldl (λx1 x2=>x1++x2) acc.toArray (List.replicate k its.toArray)=(acc++(List.replicate k its).flatten).toArray
 | 0,acc=>by simp
 | k+1,acc=>by
  have e:acc.toArray++its.toArray=(acc++its).toArray:=by simp
  have e2:(acc++its)++(List.replicate k its).flatten=acc++(List.replicate (k+1) its).flatten:=by rw[eC,fM,fh]
  rw[<-e2,<-Dq its k (acc++its),<-e,eC,fS]
variable {WI:List (Addr × Obj)}{σ:St}{H:Hp}{s:Sd}{l:Addr}{xs ys zs:List V}
section
variable {b:Addr}
def Inv.lset{its its':List Vl}{n:Nat}{f:Array Vl->Array Vl}{t':Nat}(I:Inv X WI σ H s)(hH:H l=some (.lst xs)) (e:s.heap.get? l=some {cls:=.type "list",data:=.seq its.toArray n}) (hf:f its.toArray=its'.toArray) (hv:qz ys its') (hz:ys.length<=sizeLine):
  Inv X WI σ (upd H l (.lst ys)) {s with heap:=s.heap.update l (Obj.mapSeq f),toks:=t'}:=by
 have q:=PySem.IsL.update e f;rw[hf]at q;refine I.write (x:=l) (e:=l) (by rw[hH];exact trivial) (.inl rfl) (λb' u hb hu=>(fW s.heap (Obj.mapSeq f) (dI hb)).trans hu) ⟨_,q⟩ ?_;exact⟨hz,its',_,hv,q⟩
def Inv.oJ{its:List Vl}{t':Nat}(I:Inv X WI σ H s)(hv:qz ys its)(hz:ys.length<=sizeLine):
  Inv X WI σ (upd H s.heap.objs.size (.lst ys)) {s with heap:=s.heap.push {cls:=.type "list",data:=.seq its.toArray},toks:=t'}:=
 I.laid (λ_ _ q=>cW _ q) (cZ _) ⟨hz,its,0,hv,dA _ rfl⟩
def Inv.fresh(I:Inv X WI σ H s):H s.heap.objs.size=none:=I.mP.fresh (cZ _)
def Inv.oS(I:Inv X WI σ H s)(hH:H l=some (.lst xs)):xs.length<=sizeLine/\∃(its:List Vl) (n:Nat),qz xs its/\xs.length=its.length/\s.heap.get? l=some {cls:=.type "list",data:=.seq its.toArray n}:=by obtain⟨z,its,n,r,e⟩:=I.mP l _ hH;exact⟨z,its,n,r,r.length,e⟩
def My{n:Nat}(h:n<=sizeLine):Builtin.List.listTooLong n=false:=by unfold Builtin.List.listTooLong;exact eK (by omega)
end
def P4:V->List V->Hp->VK->Prop:=λx vs H Q=>∃l xs y,x=.ref l/\vs=[y]/\H l=some (.lst xs)/\xs.length<sizeLine/\Q .mI (upd H l (.lst (xs++[y])))
def JS:WC X "list.append" P4:=by intro WI s σ H x vs v us Q I rx rv h;obtain⟨l,xs,y,rfl,rfl,hH,hz,q⟩:=h;cases rx;obtain⟨u,rfl,ru⟩:=rv.one;obtain⟨z,its,n,r,hl,e⟩:=I.oS hH;refine jp F.slot_list_append ⟨_,e,rfl⟩ F.entry_list_append (F.args_list_append_2 _ _) (PySem.list_append l its.toArray n u (by rw[dg];omega)) ⟨e,?_⟩;refine⟨.mI,_,I.lset (its':=its++[u]) hH e (by simp) (r.append (.cons ru .nil)) ?_,rfl,q⟩;rw[cT,dG];omega
def U6:R2:=λx y H Q=>∃l k xs,x=.ref l/\y=.int k/\H l=some (.lst xs)/\-(2 ^ 63)<=k/\k<2 ^ 63/\xs.length*k.toNat<=sizeLine/\
 ∀p,H p=none->Q (.ref p) (upd H p (.lst (List.replicate k.toNat xs).flatten))
def Pm{α:Type}(xs:List α)(k:Nat):(List.replicate k xs).flatten.length=k*xs.length:=by
 induction k with
 | zero=>simp
 | succ k ih=>rw[eC,fM,cT,ih,mq,Nat.add_comm]
def Rx:xn X (binaryOp .Mult) U6:=by
 intro WI s σ H x y v u Q I rx ry h;obtain⟨l,k,xs,rfl,rfl,hH,h1,h2,hz,q⟩:=h;cases rx;obtain⟨t,rfl⟩:=ry;obtain⟨z,its,n,r,hl,e⟩:=I.oS hH;have WO:its.toArray.size*k.toNat<=sizeLine:=by rw[dg,<-hl];exact hz
 have hcap:¬its.toArray.size*k.toNat>(2 ^ 63 - 1) / 8:=by
  have:(sizeLine:Nat)<=(2 ^ 63 - 1) / 8:=by decide
  omega
 have Xh:¬(!Builtin.List.listFitsIndex k)=true:=by rw[fitsIndex_both h1 h2];exact dn
 have hlong:¬Builtin.List.listTooLong (its.toArray.size*k.toNat)=true:=by rw[My WO];exact dn
 have Ym:List.foldl (λx1 x2=>x1++x2) #[] (List.replicate (if its.toArray.isEmpty=true then 0 else k.toNat) its.toArray)=(List.replicate k.toNat its).flatten.toArray:=by
  have f0:∀m:Nat,List.foldl (λx1 x2=>x1++x2) #[] (List.replicate m its.toArray)=(List.replicate m its).flatten.toArray:=λm=>by have:=Dq its m [];rw[dW]at this;exact this
  rw[f0];cases its with
  | nil=>simp
  | cons a r'=>rw[cV (by simp)]
 refine wpAny_binaryOp_repeat_ref (T:="list") (U:="int") (by decide) ⟨_,e,rfl⟩ (λs'=>lV s' k t) noFill_list_mul F.fills_int_mul lW repeat_list F.slot_int_index.lookup
  (jp lW (lV s k t) F.entry_int_rmul (F.args_int_rmul_2 _ _) (int___rmul___int_list k t l its.toArray n)
   ⟨e,rfl,⟨_,e,rfl⟩,jp F.slot_list_mul ⟨_,e,rfl⟩ F.entry_list_mul (F.args_list_mul_2 _ _) (AutoListH.list___mul___list_int_3 l its.toArray n k t Xh hcap hlong) ⟨e,?_⟩⟩)
 rw[Ym];exact⟨.ref _,_,I.oJ (t':=s.toks) (r.rep k.toNat) (by rw[Pm,Nat.mul_comm];exact hz),rfl,q _ I.fresh⟩
variable {prog:Pg}{w:Wo}{A:Ar}{E:Vl→Sd→Prop}
end L2
namespace Att
open PySem PySem.W PySem.Calls PyProof.Rows
def AJ{P:Params}{h:Heap}:∀(ns:List Int) (vs:List Vl),WellAll P h vs (ns.map WData.int)->IntsAre vs ns:=by
 intro ns;induction ns with
 | nil=>intro vs w;rw[iM]at w;cases w;exact .nil
 | cons n ns ih=>
  intro vs w;rw[dP]at w;cases w with
  | cons a b=>cases a;exact .cons _ _ (ih _ b)
def Km{l:OpenLaw}{n:Nat}(hn:l.most=some n){P:Params}{h:Heap}{args:List WData}{ZC:List Vl} (YU:l.row.toRowW.claim.pre args=true) (hwl:WellAll P h ZC args):
  ∃a vs ns,ZC=[Value.ref a]/\args=[WData.list (ns.map WData.int)]/\h.get? a=some {cls:=.type "list",data:=.seq vs.toArray}/\IntsAre vs ns/\ns.length<=n:=by
 have hsh:WShape.hasAll [] args [.list .int]=true:=(pre_splitW YU).1;have hc:l.pre.holds [] {args:=args}=true:=(pre_splitW YU).2;obtain⟨d,r,rfl,h1,h2⟩:=hasAllW_cons hsh;obtain rfl:=hasAllW_nil h2;obtain⟨xs,rfl,h3⟩:=hasW_list h1;obtain⟨ns,rfl⟩:=items_int h3;have WO:ns.length<=n:=by
  unfold OpenLaw.pre at hc;have h4:(WTm.not (.lt (.lit (.int (n:Int))) (.len (.arg 0)))).holds [] {args:=[.list (ns.map .int)]}=true:=by have h4:=(holds_andW hc).1;rw[hn]at h4;exact h4
  have h5:=condW_of h4 (w_not (w_lt w_lit (w_len_list (w_arg rfl))));rw[cQ]at h5;refine jA λq=>?_;have q':(n:Int)<((ns.length:Nat):Int):=by omega
  first
   | (rw[dQ q']at h5;exact absurd h5 (by decide))
   | (simp at h5;omega)
 cases hwl with
 | cons w1 w2=>
  cases w2;cases w1 with
  | list ho XM=>exact⟨_,_,ns,rfl,rfl,ho,AJ ns _ XM,WO⟩
def J4(l:OpenLaw)(args:List WData):l.row.toRowW.claim.post args (.bool true) args=true:=
 postW_of (r:=l.row.toRowW) (X:=(true==true))
  (show WShape.has [] (.bool true) .bool=true by first|rfl|decide|simp[WShape.has,WShape.arms,WShape.armsAll])
  (show(WTm.eq .res (.lit (.bool true))).value [] {args:=args,res:=some (.bool true),after:=args}=some (.bool (true==true))from w_eq_bool (w_res rfl) w_lit) rfl
def attach_call{l:OpenLaw}{n:Nat}{q:Pg}{Xv:List Str}{XP:(Str->Option Vl)->Heap->Prop}{YP:Wo->Heap->Prop}{d:DefRec} (hn:l.most=some n) (Zd:d.params.defaults=[]) (call:∀(w:Wo) (s₀ s₁:Sd) (mg mb:Str->Option Vl) (fa:Addr) (o:Obj) (pm cd Xm:Vl) (a:Addr) (vs:List Vl) (ns:List Int),Ground q Xv [] XP w s₀ mg mb s₁.heap->YP w s₁.heap->
   s₁.heap.get? fa=some o->o.data=.func (docDef d.name d.params d.body d.scope pm cd Xm)->s₁.heap.CodeRec cd d.name->mg d.name=some (.ref fa)->
   s₁.heap.get? a=some {cls:=.type "list",data:=.seq vs.toArray}->IntsAre vs ns->ns.length<=n->s₁.gens=#[]->
   codeAny (model l.prog w) callerA (.call (.ref fa) ⟨[.ref a],[]⟩) (λr s'=>r=.ok (.ret (.bool true))/\OldK s₁.heap s'.heap/\s'.os=s₁.os/\AllBare s'.gens) s₁):
  WalkO q Xv XP YP l.row.toRowW d [] (λf vs=>PySem.call f vs):=by
 intro w s₀ s₁ mg mb G Y fa o pm cd Xm dV kV ho hd XZ hD hmg hg args ZC as YU hlay hrd hwl hlo;obtain rfl:dV=.none:=Dflts.none hD Zd;obtain rfl:kV=.none:=Dflts.noKw hD;obtain⟨a,vs,ns,rfl,rfl,ZD,Yn,WO⟩:=Km hn YU hwl;refine enter_call (gh (call w s₀ s₁ mg mb fa o pm cd Xm a vs ns G Y ho (fd_plain hd) XZ hmg ZD Yn WO hg) λr s' hq=>?_);obtain⟨rfl,h2,h3,h4⟩:=hq;exact⟨.inl ⟨.bool true,.bool true,[],rfl,λ_=>rfl,.bool true,J4 l _,λ_=>⟨List.Pairwise.nil,λ_ hm=>(nomatch hm)⟩⟩,h2,h3,h4⟩
variable {prog:Pg}{w:Wo}{A:Ar}{E:Vl→Sd→Prop}{s:Sd}{K:Frag}
end Att
namespace L2
open PySem PySem.Spec PyProof.Rows
theorem Dy:∀{vs:List Vl} {ns:List Int},IntsAre vs ns->qz (ns.map V.int) vs
 | _,_,.nil=>.nil
 | _,_,.cons n t h=>.cons ⟨t,rfl⟩ (Dy h)
def LG(H:Hp):Prop:=∀b,H b=none\/∃o xs,H b=some (.frz o (.lst xs))
def Mz{P:Pg}{w:Wo}{K:qr}{mg mb:Str->Option Vl}{CX:KU}{k:Nat}{fa a:Addr}{fd:FuncData}{x:Str}{sp:Sp}{s₁:Sd}{vs:List Vl}{ns:List Int} (KX:K.In s₁.heap) (hns:s₁.heap.Ns mainGlobals mg) (hb:s₁.heap.Ns builtinsNs mb) (hbb:∀x:Str,x≠"__name__"->mb x=bootBuiltins x) (hlim:s₁.heap.NoLimit) (hg:s₁.gens=#[]) (ha:s₁.heap.get? a=some {cls:=.type "list",data:=.seq vs.toArray}) (hi:IntsAre vs ns) (hl:ns.length<=sizeLine) (hr:rS k callerA)
  (F:∀base:Heap,K.In base->base.Ns mainGlobals mg->xh P w K mg base CX k fa fd [x] sp) (hbind:∀(s:Sd) (u:Vl),BindsTo s fd ⟨[u],[]⟩ [(x,u)])
  (Yd:∀H:Hp,LG H->yX K H a (ns.map V.int)->sp [.ref a] H (λv _=>v=.bl true) λ_ _ _=>False)
  (hCX:∀H e s',CX [] H s₁ (λ_ _ _=>False) e s'->False):
  codeAny (model P w) callerA (.call (.ref fa) ⟨[.ref a],[]⟩) (λr s'=>r=.ok (.ret (.bool true))/\OldK s₁.heap s'.heap/\s'.os=s₁.os/\AllBare s'.gens) s₁:=by
 have rv:=Dy hi;have lenV:=hi.length;have core:∀H:Hp,LG H->yX K H a (ns.map V.int)->yh P w H s₁.heap->(∀b,H b≠none->b=a)->(H a≠none->K.lookup a=none)->
   codeAny (model P w) callerA (.call (.ref fa) ⟨[.ref a],[]⟩) (λr s'=>r=.ok (.ret (.bool true))/\OldK s₁.heap s'.heap/\s'.os=s₁.os/\AllBare s'.gens) s₁:=by
  intro H hO hS mP hA hK;have Ya:∀{b:Addr} {o:Obj},s₁.heap.get? b=some o->H b=none->(Eu s₁.heap H).get? b=some o:=λe n=>Ml e n;have noA:∀{b:Addr} {o:Obj} {es:Array DictEntry} {ep:Nat},s₁.heap.get? b=some o->o.data=.dict es ep->H b=none:=λ{b o es ep} e d=>by
   cases q:H b with
   | none=>rfl
   | some u=>have e':b=a:=hA b (by rw[q];simp);subst e';rw[ha]at e;cases e;have d':Data.seq vs.toArray _=Data.dict es ep:=d;cases d'
  have nsK:∀{b:Addr} {m:Str->Option Vl},s₁.heap.Ns b m->(Eu s₁.heap H).Ns b m:=λ{b m} ⟨o,es,ep,e,d,r⟩=>⟨o,es,ep,Ya e (noA e d),d,r⟩;have hKb:K.In (Eu s₁.heap H):=λb o e=>Ya (KX b o e) (by
   cases q:H b with
   | none=>rfl
   | some u=>
    have e':b=a:=hA b (by rw[q];simp);subst e';rw[hK (by rw[q];simp)]at e;cases e)
  have hM:Mod K mg (Eu s₁.heap H):=⟨hKb,nsK hns,⟨mb,nsK hb,hbb⟩,let⟨mc,h1,h2⟩:=hlim;⟨mc,nsK h1,h2⟩⟩;have e0:Ht P w K mg (Eu s₁.heap H) callerA [] s₁ H:=⟨rfl,hM,λb o e=>NP e,mj (KN _ _),trivial,λb hb=>absurd (show b∈([]:List Addr)from hb) (by simp),mP,.of_eq hg⟩;refine gh ((F _ hKb (nsK hns)).run callerA [] s₁ H ⟨[.ref a],[]⟩ [.ref a] [.ref a] _ _ hr e0 (hbind s₁ (.ref a)) (.cons rfl .nil) (Yd H hO hS)) λr s' h=>?_;cases r with
  | error e=>exact(hCX H e s' h).elim
  | ok fl=>
   cases fl with
   | next=>exact False.elim h
   | brk=>exact False.elim h
   | cont=>exact False.elim h
   | ret u=>
    obtain⟨v,H',os,bare,un,ZE,r',q⟩:=h;have q':v=.bl true:=q;subst q';obtain rfl:u=Value.bool true:=r';refine⟨rfl,OldK.of_keep λb o e=>?_,os,bare⟩;cases q:H b with
    | none=>exact un.keep b o e q (by intro z;exact absurd (show b∈([]:List Addr)from z) (by simp)) (by simp)
    | some u=>
     rcases hO b with z|⟨ob,xs,z⟩
     .rw[q]at z;cases z
     .have z2:=un.nC b ob _ z;obtain⟨e1,_⟩:=mP b _ z;obtain⟨e2,_⟩:=ZE b _ z2;rw[e]at e1;cases e1;exact e2
 cases hk:K.lookup a with
 | some o=>have e:=KX a o hk;rw[ha]at e;cases e;refine core (λ_=>none) (λ_=>.inl rfl) (.inr ⟨_,vs.toArray,_,hk,rfl,rfl,rfl,by rw[dg,lenV];exact hl,by simpa using rv⟩) (λb u z=>by have z':(none:Option HO)=some u:=z;cases z') (λb z=>absurd rfl z) λz=>absurd rfl z
 | none=>
  refine core (λb=>if b=a then some (.frz {cls:=.type "list",data:=.seq vs.toArray} (.lst (ns.map V.int)))else none) (λb=>?_) (.inl (.inr ⟨{cls:=.type "list",data:=.seq vs.toArray},cX rfl⟩)) (λb u z=>?_) (λb z=>?_) λ_=>hk
  .by_cases hb:b=a
   .exact .inr ⟨_,_,cX hb⟩
   .exact .inl (cV hb)
  .by_cases hb:b=a
   .have z':=(cX hb).symm.trans z;cases z';subst hb;exact⟨ha,by rw[cQ];exact hl,vs,_,rv,ha⟩
   .have z':=(cV hb).symm.trans z;cases z'
  .by_cases hb:b=a
   .exact hb
   .exact absurd (cV hb) z
def OQ{l:W.OpenLaw}{n k:Nat}{q:Pg}{Xv:List Str}{XP:(Str->Option Vl)->Heap->Prop}{YP:Wo->Heap->Prop}{d:DefRec}{K:Params->qr}{CX:Wo->KU}{sp:Wo->Sp}{x:Str} (hn:l.most=some n) (Zw:n<=sizeLine) (Zd:d.params.defaults=[]) (hr:rS k callerA) (hY:∀(w:Wo) (h:Heap),YP w h->(K w.params).In h) (F:∀(w:Wo) (mg:Str->Option Vl) (fa:Addr) (h:Heap),(K w.params).In h->h.Ns mainGlobals mg->mg d.name=some (.ref fa)->
   ∃fd:FuncData,(∀(s:Sd) (u:Vl),BindsTo s fd ⟨[u],[]⟩ [(x,u)])/\
    ∀base:Heap,(K w.params).In base->base.Ns mainGlobals mg->xh l.prog w (K w.params) mg base (CX w) k fa fd [x] (sp w))
  (Yd:∀(w:Wo) (H:Hp) (a:Addr) (ns:List Int),ns.length<=n->LG H->yX (K w.params) H a (ns.map V.int)->sp w [.ref a] H (λv _=>v=.bl true) λ_ _ _=>False)
  (hCX:∀(w:Wo) (H:Hp) (s:Sd) (e:Vl) (s':Sd),CX w [] H s (λ_ _ _=>False) e s'->False):
  W.WalkO q Xv XP YP l.row.toRowW d [] (λf vs=>PySem.call f vs):=by
 refine Att.attach_call hn Zd λw s₀ s₁ mg mb fa o pm cd Xm a vs ns G Y ho hd XZ hmg ZD Yn WO hg=>?_;have KX:=hY w _ Y;obtain⟨fd,hb,hF⟩:=F w mg fa _ KX G.T.g hmg;exact Mz KX G.T.g G.T.b G.T.builtins G.T.nolimit hg ZD Yn (dN WO Zw) hr hF hb (λH hO hS=>Yd w H a ns WO hO hS) λH e s'=>hCX w H s₁ e s'
def OV(s:Stmt)(j:Nat):Stmt:=match s with
 | .ClassDef _ _ _ body _ _ _ _ _ _ _=>body.getD j (.Pass ⟨0,0,0,0⟩)
 | _=>.Pass ⟨0,0,0,0⟩
def ul(s:Stmt):Arguments:=match s with
 | .FunctionDef _ a _ _ _ _ _ _ _ _=>a
 | _=>{posonlyargs:=[],args:=[],vararg:=none,kwonlyargs:=[],kw_defaults:=[],kwarg:=none,defaults:=[]}
def rM(s:Stmt):List Stmt:=match s with
 | .FunctionDef _ _ b _ _ _ _ _ _ _=>b
 | _=>[]
def qa(s:Stmt):Scope:=match s with
 | .FunctionDef _ _ _ _ _ _ sc _ _ _=>sc
 | _=>{kind:=.function,names:=[],isGenerator:=false,isCoroutine:=false}
abbrev NH:KU:=λ_ _ _ _ _ _=>False
abbrev E0:XK:=λ_ _ _=>False
def GK{X:Cx}:BD NH X E0:=λ_ _ _ _ _ _ _ h=>h.elim
structure Pe(K:qr)(x qual:Str)(st:Stmt)(f:Addr)(fd:FuncData):Prop where
 ex:∃(oc:Vl) (od:Option Addr) (kV Xm pm:Vl) (an:Option Addr) (WR ct:Vl) (XF:Array (Option Vl)),
  fd=W.fnOf x qual (ul st) (rM st) (qa st) .none kV Xm pm an WR ct/\K.lookup f=some ⟨oc,od,.func fd,XF⟩/\W.codeIn K WR qual=true
 kp:W.keepIn K (.ref f)=true
variable {P:Pg}{K:qr}{mg:Str→Option Vl}{base:Heap}
section
variable {w:Wo}
def Pe.ok{x qual:Str}{st:Stmt}{f:Addr}{fd:FuncData}{N ps:List Str}{k:Nat}{sp:Sp}(F:Pe K x qual st f fd)(S:sV N ps (qa st))(len:∀vs H Q E,sp vs H Q E->vs.length=ps.length) (W5:∀(WR:Vl) (A:Ar) (outer:List Env) (s:Sd) (H:Hp) (vs:List V) (Q:VK) (E:XK),rS k (A.deeper (envOfC qual (qa st) s.heap.objs.size f WR))->sp vs H Q E->
   ∃t,Co (vb NH P w K mg base N qual (qa st) f WR A outer s H E).oB (rM st) t/\t {nx:=λ_ H'=>Q .mI H',rt:=Q} (yp N vs) H):xh P w K mg base NH (k+1) f fd ps sp:=by
 obtain⟨oc,od,kV,Xm,pm,an,WR,ct,XF,rfl,lk,XZ⟩:=F.ex;refine K8 lk XZ S len λA outer s H vs Q E hr Yd=>?_;obtain⟨t,h,q⟩:=W5 WR A outer s H vs Q E hr Yd;exact⟨t,h.oB,q⟩
def Pe.binds{x qual:Str}{st:Stmt}{f:Addr}{fd:FuncData}{ps:List Str}(F:Pe K x qual st f fd) (h:∀(kV Xm pm:Vl) (an:Option Addr) (WR ct:Vl) (us:List Vl),us.length=ps.length->bindArgs (W.fnOf x qual (ul st) (rM st) (qa st) .none kV Xm pm an WR ct) ⟨us,[]⟩=pure (ps.zip us)):uK K fd ps []:=by
 obtain⟨oc,od,kV,Xm,pm,an,WR,ct,XF,rfl,lk,XZ⟩:=F.ex;exact .all (h kV Xm pm an WR ct)
def MB{x qual:Str}{st:Stmt}{f:Addr}{oc:Vl}{od an:Option Addr}{XF:Array (Option Vl)}{kV Xm pm WR ct:Vl}(l:K.lookup f=some ⟨oc,od,.func (W.fnOf x qual (ul st) (rM st) (qa st) .none kV Xm pm an WR ct),XF⟩) (c:W.codeIn K WR qual=true) (k:W.keepIn K (.ref f)=true):Pe K x qual st f (W.fnOf x qual (ul st) (rM st) (qa st) .none kV Xm pm an WR ct):=⟨⟨oc,od,kV,Xm,pm,an,WR,ct,XF,rfl,l,c⟩,k⟩
end
variable {X:Cx}
def pv(i:Nat){x:Str}{pos:Pos}(hN:X.N[i]?=some x:=by rfl)(hv:UF X.env.scope x:=by first|exact Or.inl rfl|exact Or.inr (Or.inl rfl)|exact Or.inr (Or.inr rfl))(hd:zG x:=by decide)
  (XZ:(x==("__classdict__":Str))=false:=by decide):PE X (.Name x pos) (Hn i):=R6 hN hv hd XZ
def Hi{A B:Prop}(h:B):if false=true then A else B:=by rw[cV dn];exact h
def Qf{A B:Prop}(h:A):if true=true then A else B:=by rw[cX rfl];exact h
def qF{c A B:Prop}[Decidable c](h1:c->A)(h2:¬c->B):if c then A else B:=by
 by_cases h:c
 .rw[cX h];exact h1 h
 .rw[cV h];exact h2 h
section
variable {κ:Type}[DecidableEq κ]
def wx(kvs:List (κ×V))(k:κ):Option V:=(kvs.find? λkv=>decide (kv.1=k)).map (·.2)
def yJ(kvs:List (κ×V))(k:κ)(v:V):List (κ×V):=
 if (kvs.any λkv=>decide (kv.1=k))=true then kvs.map (λkv=>if kv.1=k then(kv.1,v)else kv)else kvs++[(k,v)]
def BA{p:κ×V}{r:List (κ×V)}{k:κ}(e:p.1=k):wx (p::r) k=some p.2:=by simp[wx,fF,e]
def BF{p:κ×V}{r:List (κ×V)}{k:κ}(e:¬p.1=k):wx (p::r) k=wx r k:=by simp[wx,fF,e]
theorem FQ(k:κ):∀kvs:List (κ×V),(kvs.any λkv=>decide (kv.1=k))=(wx kvs k).isSome
 | []=>rfl
 | p::r=>by
  rw[fX];by_cases e:p.1=k
  .simp only[BA e,dQ e,gY,Option.isSome_some]
  .rw[BF e,eK e,fL];exact FQ k r
def Aq(kvs:List (κ×V))(k:κ)(v:V):(yJ kvs k v).length<=kvs.length+1:=by
 unfold yJ;split
 .rw[cQ];omega
 .rw[cT,dZ,dE];omega
def yg.nz{o:Option V}{u:Option Vl}(r:yg o u):o.isSome=u.isSome:=by
 cases o with
 | none=>cases u with
  | none=>rfl
  | some _=>exact(show False from r).elim
 | some _=>cases u with
  | none=>exact(show False from r).elim
  | some _=>rfl
def KV.val{kvs:List (κ×V)}{vs:List (κ×Vl)}(r:KV kvs vs)(k:κ):yg (wx kvs k) (valueAt vs k):=by
 unfold KV at r;induction r with
 | nil=>exact True.intro
 | @cons p q ps qs h t ih=>
  obtain⟨h1,h2⟩:=h;by_cases e:p.1=k
  .have e':q.1=k:=h1.symm.trans e;have b:valueAt (q::qs) k=some q.2:=by simp[valueAt,fF,e']
   rw[BA e,b];exact h2
  .have e':¬q.1=k:=λz=>e (h1.trans z);have b:valueAt (q::qs) k=valueAt qs k:=by simp[valueAt,fF,e']
   rw[BF e,b];exact ih
def KV.any{kvs:List (κ×V)}{vs:List (κ×Vl)}(r:KV kvs vs)(k:κ):(kvs.any λkv=>decide (kv.1=k))=vs.any λkv=>decide (kv.1=k):=by
 unfold KV at r;induction r with
 | nil=>rfl
 | cons h t ih=>rw[fX,fX,ih,h.1]
def KV.oj{kvs:List (κ×V)}{vs:List (κ×Vl)}(r:KV kvs vs)(k:κ){y:V}{u:Vl}(ry:qR y u):
  KV (kvs.map λkv=>if kv.1=k then(kv.1,y)else kv) (vs.map λkv=>if kv.1=k then(kv.1,u)else kv):=by
 unfold KV at r ⊢;induction r with
 | nil=>exact .nil
 | @cons p q ps qs h t ih=>
  rw[dP,dP];refine .cons ?_ ih;obtain⟨h1,h2⟩:=h;by_cases e:p.1=k
  .rw[cX e,cX (h1.symm.trans e)];exact⟨h1,ry⟩
  .rw[cV e,cV (λz=>e (h1.trans z))];exact⟨h1,h2⟩
def KV.put{kvs:List (κ×V)}{vs:List (κ×Vl)}(r:KV kvs vs)(k:κ){y:V}{u:Vl}(ry:qR y u):KV (yJ kvs k y) (stored vs k u):=by
 unfold yJ stored;rw[r.any k];by_cases e:(vs.any λkv=>decide (kv.1=k))=true
 .rw[cX e,cX e];exact r.oj k ry
 .rw[cV e,cV e];exact mB r ⟨rfl,ry⟩
def KV.length{kvs:List (κ×V)}{vs:List (κ×Vl)}(r:KV kvs vs):kvs.length=vs.length:=jf r
end
def FW{P:Pg}{w:Wo}{k:qV}{u:Vl}(r:qR (kV k) u):(rm P w).is k u=true:=by
 cases k with
 | inl i=>obtain⟨t,e⟩:=(show ∃t,u=Value.int i t from r);subst e;exact Gy P w i t
 | inr x=>obtain⟨t,e⟩:=(show ∃t,u=Value.str x t from r);subst e;exact Aj P w x t
theorem DW{P:Pg}{w:Wo}:∀{ks:List qV} {us:List Vl},qz (ks.map kV) us->ItemsAre (rm P w) ks us
 | [],_,r=>by rw[iM]at r;cases r;exact .nil
 | k::ks,_,r=>by
  rw[dP]at r;cases r with
  | cons h t=>exact .cons (FW h) (DW t)
abbrev KT(H:Hp):List (List qV×V)->List (List qV×Addr×Vl)->Prop:=Paired λp q=>p.1=q.1/\H q.2.1=some (.tup (p.1.map kV))/\qR p.2 q.2.2
def KT.val{H:Hp}{kvs:List (List qV×V)}{xs:List (List qV×Addr×Vl)}(r:KT H kvs xs)(k:List qV):yg (wx kvs k) ((atKey xs k).map (·.2)):=by
 induction r with
 | nil=>exact True.intro
 | @cons p q ps qs h t ih=>
  obtain⟨h1,_,h2⟩:=h;by_cases e:p.1=k
  .have e':q.1=k:=h1.symm.trans e;have b:atKey (q::qs) k=some q.2:=by simp[atKey,fF,e']
   rw[BA e,b];exact h2
  .have e':¬q.1=k:=λz=>e (h1.trans z);have b:atKey (q::qs) k=atKey qs k:=by simp[atKey,fF,e']
   rw[BF e,b];exact ih
def KT.oj{H:Hp}{kvs:List (List qV×V)}{xs:List (List qV×Addr×Vl)}(r:KT H kvs xs)(k:List qV){y:V}{u:Vl}(ry:qR y u):
  KT H (kvs.map λkv=>if kv.1=k then(kv.1,y)else kv) (xs.map (putAt k u)):=by
 induction r with
 | nil=>exact .nil
 | @cons p q ps qs h t ih=>
  rw[dP,dP];refine .cons ?_ ih;obtain⟨h1,h2,h3⟩:=h;unfold putAt;by_cases e:p.1=k
  .rw[cX e,cX (h1.symm.trans e)];exact⟨h1,h2,ry⟩
  .rw[cV e,cV (λz=>e (h1.trans z))];exact⟨h1,h2,h3⟩
def KT.put{H:Hp}{kvs:List (List qV×V)}{xs:List (List qV×Addr×Vl)}(r:KT H kvs xs)(k:List qV){b:Addr}{y:V}{u:Vl}(hb:H b=some (.tup (k.map kV)))(ry:qR y u):
  KT H (yJ kvs k y) (storedH xs k b u):=by
 have e:(kvs.any λkv=>decide (kv.1=k))=(atKey xs k).isSome:=by rw[FQ,(r.val k).nz,jl]
 unfold yJ storedH;rw[e];by_cases q:(atKey xs k).isSome=true
 .rw[cX q,cX q];exact r.oj k ry
 .rw[cV q,cV q];exact mB r ⟨rfl,hb,ry⟩
def KT.keeps{H H':Hp}{kvs:List (List qV×V)}{xs:List (List qV×Addr×Vl)}(r:KT H kvs xs)(ht:∀b ys,H b=some (.tup ys)->H' b=some (.tup ys)):KT H' kvs xs:=
 Paired.oo r λ_ _ z=>⟨z.1,ht _ _ z.2.1,z.2.2⟩
variable {H:Hp}{h:Heap}{a:Addr}
section
variable {w:Wo}
def Qs{u:HO}(ok:yh P w H h)(e:Rd H a u):sR P w H h a u:=e.ok ok
def IF{kvs:List (qV×V)}(ok:yh P w H h)(e:Rd H a (.dK kvs)):kvs.length<=sizeLine/\(a==sysModules)=false/\∃vs,KV kvs vs/\h.DictOf (rm P w) a vs:=
 show sR P w H h a (.dK kvs)from Qs ok e
def T7{kvs:List (qV×V)}(ok:yh P w H h)(e:H a=some (.dK kvs)):kvs.length<=sizeLine/\(a==sysModules)=false/\∃vs,KV kvs vs/\h.DictOf (rm P w) a vs:=IF ok (.inl e)
def FB{ks:List qV}(ok:yh P w H h)(e:H a=some (.tup (ks.map kV))):(tupleKind (rm P w)).is h ks a:=by obtain⟨_,its,r,o,h1,h2,⟨n,h3⟩,_⟩:=(show sR P w H h a (.tup (ks.map kV))from ok a _ e);exact⟨o,its.toArray,n,h1,h2,h3,by simpa using DW r⟩
def Jv{kvs:List (List qV×V)}(ok:yh P w H h)(e:Rd H a (.dT kvs)):kvs.length<=sizeLine/\(a==sysModules)=false/\
  ∃xs,KT H kvs xs/\h.DictOfH (tupleKind (rm P w)) a xs:=by
 obtain⟨z,y,xs,r,o,es,ep,h1,h2,h3,h4,h5⟩:=(show sR P w H h a (.dT kvs)from Qs ok e);refine⟨z,y,xs,r,o,es,ep,h1,h2,h3,h4,λx hx=>?_,h5⟩;have all:∀{l:List (List qV×V)} {m:List (List qV×Addr×Vl)},KT H l m->∀x∈m,(tupleKind (rm P w)).is h x.1 x.2.1:=by
  intro l m q;induction q with
  | nil=>intro x hx;exact nomatch hx
  | @cons p q ps qs hq t ih=>
   intro x hx;rcases cY.mp hx with e|hx
   .subst e;exact FB ok (by rw[<-hq.1];exact hq.2.1)
   .exact ih x hx
 exact all r x hx
def TY{kvs:List (List qV×V)}(ok:yh P w H h)(e:H a=some (.dT kvs)):kvs.length<=sizeLine/\(a==sysModules)=false/\
  ∃xs,KT H kvs xs/\h.DictOfH (tupleKind (rm P w)) a xs:=Jv ok (.inl e)
end
def Em(H:Hp)(a:Addr)(y:V)(r:Option V):Prop:=
 (∃kvs k,Rd H a (.dK kvs)/\y=kV k/\r=wx kvs k)\/∃kvs k b,Rd H a (.dT kvs)/\y=.ref b/\H b=some (.tup (k.map kV))/\r=wx kvs k
def L5(H:Hp)(a:Addr)(y v:V)(H':Hp):Prop:=
 (∃kvs k,H a=some (.dK kvs)/\y=kV k/\kvs.length<sizeLine/\H'=upd H a (.dK (yJ kvs k v)))\/
 ∃kvs k b,H a=some (.dT kvs)/\y=.ref b/\H b=some (.tup (k.map kV))/\kvs.length<sizeLine/\H'=upd H a (.dT (yJ kvs k v))
def Em.k{H:Hp}{a:Addr}{kvs:List (qV×V)}{k:qV}(e:H a=some (.dK kvs)):Em H a (kV k) (wx kvs k):=.inl ⟨kvs,k,.inl e,rfl,rfl⟩
def L5.k{H:Hp}{a:Addr}{kvs:List (qV×V)}{k:qV}{v:V}(e:H a=some (.dK kvs))(hl:kvs.length<sizeLine):L5 H a (kV k) v (upd H a (.dK (yJ kvs k v))):=.inl ⟨kvs,k,e,rfl,hl,rfl⟩
variable {WI:List (Addr × Obj)}{σ:St}{y v:V}{u r:Vl}
section
variable {s:Sd}{o:Option V}{A:Ar}{E:Vl→Sd→Prop}
def Inv.big(I:Inv X WI σ H s):sysModules<s.heap.objs.size:=by have h:mainGlobals<s.heap.objs.size:=(I.mod.glob.keeps I.bk).lt;exact il (by decide) h
def Ky{Q:Vl->Sd->Prop}(hu:A.units+1<cLine)(I:Inv X WI σ H s)(g:Em H a y (some v))(ry:qR y u)(h:∀w' s',Inv X WI σ H s'->qR v w'->Q w' s'):
  wpAny (model X.prog X.w) A (getItem (.ref a) u) Q E s:=by
 rcases g with⟨kvs,k,e,ey,l⟩|⟨kvs,k,b,e,ey,eb,l⟩
 .subst ey;obtain⟨z,hd,vs,rel,dd⟩:=IF I.mP e;obtain⟨w',hw,YT⟩:=yg.some_of (v:=v) (o:=valueAt vs k) (by rw[l];exact rel.val k);exact wpAny_getItem_of (FW ry) dd.mapOf hw (h w' _ (I.tok _) YT)
 .subst ey;cases(show u=Value.ref b from ry);obtain⟨z,hd,xs,rel,dd⟩:=Jv I.mP e;obtain⟨w',hw,YT⟩:=yg.some_of (v:=v) (o:=(atKey xs k).map (·.2)) (by rw[l];exact rel.val k);obtain⟨p,hp,WT⟩:=jX.mp hw;refine wpAny_getItem_heap (ja hu) (FB I.mP eb) dd hp ?_;rw[WT];exact h w' _ (I.tok _) YT
def VB{Q:Vl->Sd->Prop}(hu:A.units+1<cLine)(I:Inv X WI σ H s)(g:Em H a y o)(ry:qR y u)(h:∀s',Inv X WI σ H s'->Q (.bool o.isSome) s'):
  wpAny (model X.prog X.w) A (compareOp .In u (.ref a)) Q E s:=by
 rcases g with⟨kvs,k,e,ey,l⟩|⟨kvs,k,b,e,ey,eb,l⟩
 .subst ey;obtain⟨z,hd,vs,rel,dd⟩:=IF I.mP e;refine wpAny_in_of (FW ry) hd dd.mapOf ?_;rw[<-(rel.val k).nz,<-l];exact h _ (I.tok _)
 .subst ey;cases(show u=Value.ref b from ry);obtain⟨z,hd,xs,rel,dd⟩:=Jv I.mP e;refine wpAny_in_heap (ja hu) (FB I.mP eb) hd dd ?_;have q:=(rel.val k).nz;rw[jl]at q;rw[<-q,<-l];exact h _ (I.tok _)
def JC{h':Heap}{t':Nat}{ob:HO}(I:Inv X WI σ H s)(mu:Ua (H a))(hs:Heap.SameBut a s.heap h')(he:∃q,h'.get? a=some q)(new:sR X.prog X.w (upd H a ob) h' a ob):
  Inv X WI σ (upd H a ob) {s with heap:=h',toks:=t'}:=
 I.write (x:=a) (e:=a) mu (.inl rfl) (λb q hb z=>(hs.2 b hb).trans z) he new
def Na{P:Pg}{w:Wo}{H':Hp}{h':Heap}{kvs:List (qV×V)}{vs:List (qV×Vl)}(z:kvs.length<=sizeLine)(hd:(a==sysModules)=false)(rel:KV kvs vs)(dd:h'.DictOf (rm P w) a vs):
  sR P w H' h' a (.dK kvs):=⟨z,hd,vs,rel,dd⟩
def J9{H':Hp}{Q:Unit->Sd->Prop}(hu:A.units+1<cLine)(I:Inv X WI σ H s)(g:L5 H a y v H')(ry:qR y u)(rv:qR v r)(h:∀s',Inv X WI σ H' s'->Q () s'):
  wpAny (model X.prog X.w) A (setItem (.ref a) u r) Q E s:=by
 rcases g with⟨kvs,k,e,ey,l,eH⟩|⟨kvs,k,b,e,ey,eb,l,eH⟩
 .subst ey eH;obtain⟨z,hd,vs,rel,dd⟩:=T7 I.mP e;have hz:vs.length<=sizeLine:=by rw[<-rel.length];exact z
  have hl:(yJ kvs k v).length<=sizeLine:=by have:=Aq kvs k v;omega
  refine wpAny_setItem_pairs (hsz:=hz) (FW ry) dd λh' dd' hs=>h _ ?_;have he:∃q,h'.get? a=some q:=let⟨q,_,_,hq,_⟩:=dd';⟨q,hq⟩;exact JC I (by rw[e];exact True.intro) hs he (Na hl hd (rel.put k rv) dd')
 .subst ey eH;cases(show u=Value.ref b from ry);obtain⟨z,hd,xs,rel,dd⟩:=TY I.mP e;have hz:xs.length<=sizeLine:=by rw[<-jf rel];exact z
  have hl:(yJ kvs k v).length<=sizeLine:=by have:=Aq kvs k v;omega
  refine wpAny_setItem_heap (hsz:=hz) (ja hu) (FB I.mP eb) dd λh' dd' hs=>h _ ?_;obtain⟨q,es,ep,hq,h2,h3,h4,_,h5⟩:=dd';refine JC I (by rw[e];exact True.intro) hs ⟨q,hq⟩ ⟨hl,hd,_,(rel.put k eb rv).keeps λc ys ec=>?_,q,es,ep,hq,h2,h3,h4,h5⟩;rw[qc (TF ec e (λz=>nomatch z))];exact ec
end
variable {kvs:List (qV × V)}{k:qV}
section
variable {s:Sd}{A:Ar}{E:Vl→Sd→Prop}
end
def GA{X:Cx}{WI:List (Addr×Obj)}{σ:St}{H:Hp}{s:Sd}{a:Addr}{y:V}{o:Option V}(I:Inv X WI σ H s)(g:Em H a y o):s.TypeIs (.ref a) "dict":=by
 rcases g with⟨kvs,k,e,_,_⟩|⟨kvs,k,b,e,_,_,_⟩
 .obtain⟨_,_,vs,_,dd⟩:=IF I.mP e;exact dd.typeIs
 .obtain⟨_,_,xs,_,dd⟩:=Jv I.mP e;exact dd.typeIs
def UH(td ty tv:TE):TS:=λD σ H=>tv σ H λv H1=>td σ H1 λx H2=>ty σ H2 λy H3=>∃a H4,x=.ref a/\L5 H3 a y v H4/\D.nx σ H4
variable {i e value:Expr}{pos WQ YS:Pos}{td ty tv:TE}
section
variable {o:Expr}
def Ov(hu:X.A.units+1<cLine)(ho:PE X o td)(hi:PE X i ty)(hv:PE X value tv)(hs:swapsWith value (some (.Subscript o i WQ)) pos.line X.env=pure false):
  PS X (.Assign [.Subscript o i WQ] value pos) (UH td ty tv):=by
 intro WI s σ H D I h;refine wpAny_Assign_Subscript (so (hv WI s σ H _ I h) λr s1 zz=>x5 zz λv H1 I1 rv q1=>so (ho WI s1 σ H1 _ I1 q1) λu s2 zz=>x5 zz λx H2 I2 rx q2=>so (hi WI s2 σ H2 _ I2 q2) λiv s3 zz=>?_) hs;obtain⟨y,H3,I3,ry,a,H4,ex,g,q3⟩:=zz;subst ex;obtain rfl:u=Value.ref a:=rx;exact J9 hu I3 g ry rv λs4 I4=>⟨σ,H4,I4,q3⟩
end
structure M1(X:Cx)(o:Expr)(m:Str)(WL:Pos)(e:Expr)(WP:Pos):Prop where
 base:attributeBase o m X.env (eval o X.env)=eval o X.env
 oZ:((backTo WP (starEach [e] X.env)).all (λx=>!x.1)&&(backToKw WP (keywordEach [] X.env)).all (λx=>x.1.isSome)
  &&decide (([e]:List Expr).length+([]:List Keyword).length+(if ([]:List Keyword).isEmpty then 0 else 1)<30))=true
 line:(WL.endLine==WP.line)=true
 trees:backTo WP (starEach [e] X.env)=[(false,eval e X.env)]
structure M2(X:Cx)(o:Expr)(m:Str)(WL:Pos)(e f:Expr)(WP:Pos):Prop where
 base:attributeBase o m X.env (eval o X.env)=eval o X.env
 oZ:((backTo WP (starEach [e,f] X.env)).all (λx=>!x.1)&&(backToKw WP (keywordEach [] X.env)).all (λx=>x.1.isSome)
  &&decide (([e,f]:List Expr).length+([]:List Keyword).length+(if ([]:List Keyword).isEmpty then 0 else 1)<30))=true
 line:(WL.endLine==WP.line)=true
 trees:backTo WP (starEach [e,f] X.env)=[(false,eval e X.env),(false,eval f X.env)]
variable {d:V}
section
variable {s:Sd}{o:Option V}{A:Ar}{E:Vl→Sd→Prop}
end
variable {f:Expr}{WL WP:Pos}{tx:TE}
section
variable {o:Expr}
end
section
variable {s:Sd}{A:Ar}{E:Vl→Sd→Prop}
end
section
variable {s:Sd}{A:Ar}{E:Vl→Sd→Prop}
end
section
variable {κ:Type}[DecidableEq κ]
end
def AM(env:Env):List (Str×NameKind)->List (Str×Addr)->List (Str×Addr)
 | [],acc=>acc
 | (n,k)::r,acc=>AM env r (if k==.free then(n,(env.cells.lookup n).getD 0)::acc else acc)
theorem FP{env:Env}{f:(Str×NameKind)->List (Str×Addr)->Sem (ForInStep (List (Str×Addr)))} (hf:∀x cs,(x.2=.free->∃c,env.cells.lookup x.1=some c)->f x cs=pure (.yield (if x.2==.free then(x.1,(env.cells.lookup x.1).getD 0)::cs else cs))):
  ∀(l:List (Str×NameKind)) (acc:List (Str×Addr)),(∀x∈l,x.2=.free->∃c,env.cells.lookup x.1=some c)->forIn l acc f=pure (AM env l acc)
 | [],acc,_=>by rw[jY];rfl
 | (n,k)::r,acc,h=>by rw[jO,hf (n,k) acc (h _ dC),pure_bind];exact FP hf r _ λx hx=>h x (dv _ hx)
def yo{scope:Scope}{env:Env}(h:∀x∈scope.names,x.2=.free->∃c,env.cells.lookup x.1=some c):closureFor scope env=pure (AM env scope.names []):=by
 unfold closureFor;have e:=FP (env:=env) (f:=λ(x:Str×NameKind) (cs:List (Str×Addr))=>(do
   if x.2==.free then
    let a<-cellOf env x.1
    pure (ForInStep.yield ((x.1,a)::cs))
   else pure (ForInStep.yield cs))) (λx cs hx=>by
  cases hk:x.2==NameKind.free with
  | false=>simp
  | true=>
   obtain⟨c,hc⟩:=hx (by simpa using hk);simp[cellOf,hc]) scope.names [] h
 first
  | exact(eG (·>>=pure) e).trans (by simp)
  | (simp only[bind_pure];exact e)
  | (rw[<-e];rfl)
theorem Mj{env:Env}{x:Str}{c:Addr}:∀{l:List (Str×NameKind)} {acc:List (Str×Addr)},(∀x∈l,x.2=.free->∃c,env.cells.lookup x.1=some c)->(∀x c,acc.lookup x=some c->env.cells.lookup x=some c)->(AM env l acc).lookup x=some c->env.cells.lookup x=some c
 | [],acc,_,ha,h=>ha x c h
 | (n,k)::r,acc,hl,ha,h=>by
  refine Mj (l:=r) (acc:=if k==.free then(n,(env.cells.lookup n).getD 0)::acc else acc) (λy hy=>hl y (dv _ hy)) (λy d hd=>?_) h;cases hk:k==NameKind.free with
  | false=>rw[hk]at hd;exact ha y d (by simpa using hd)
  | true=>
   rw[hk,cX rfl]at hd;obtain⟨e,he⟩:=hl (n,k) dC (by simpa using hk);rw[eB]at hd;cases hy:y==n with
   | true=>
    rw[hy]at hd;have yn:y=n:=by simpa using hy
    subst yn;have he:env.cells.lookup y=some e:=he;rw[he]at hd ⊢;exact hd
   | false=>rw[hy]at hd;exact ha y d hd
theorem Lj{env:Env}{x:Str}:∀{l:List (Str×NameKind)} {acc:List (Str×Addr)},(∃c,acc.lookup x=some c)->∃c,(AM env l acc).lookup x=some c
 | [],_,h=>h
 | (n,k)::r,acc,h=>by
  refine Lj (l:=r) ?_;cases hk:k==NameKind.free with
  | false=>simpa using h
  | true=>
   rw[cX rfl,eB];cases hy:x==n with
   | true=>exact⟨_,rfl⟩
   | false=>exact h
theorem HX{env:Env}{x:Str}:∀{l:List (Str×NameKind)} {acc:List (Str×Addr)},l.lookup x=some .free->∃c,(AM env l acc).lookup x=some c
 | [],_,h=>by simp at h
 | (n,k)::r,acc,h=>by
  rw[eB]at h;cases hy:x==n with
  | true=>rw[hy]at h;have hk:k=.free:=c9 h;subst hk;refine Lj (l:=r) ⟨(env.cells.lookup n).getD 0,?_⟩;show List.lookup x (if NameKind.free==NameKind.free then(n,(env.cells.lookup n).getD 0)::acc else acc)=some ((env.cells.lookup n).getD 0);rw[cX (by rfl),eB,hy]
  | false=>rw[hy]at h;exact HX (l:=r) h
theorem ut{env:Env}{x:Str}:∀{l:List (Str×NameKind)},(l.map λ(n,k)=>if (k==NameKind.free&&env.scope.kind==.function&&env.kindOf n==some .cell)then(n,NameKind.cell)else(n,k)).lookup x
   = (l.lookup x).map λk=>if (k==NameKind.free&&env.scope.kind==.function&&env.kindOf x==some .cell)then NameKind.cell else k
 | []=>rfl
 | (n,k)::r=>by
  rw[dP];show List.lookup x ((if (k==NameKind.free&&env.scope.kind==.function&&env.kindOf n==some .cell)=true then(n,NameKind.cell)else(n,k))::_)=_;cases hy:x==n with
  | true=>
   have yn:x=n:=by simpa using hy
   subst yn;by_cases hc:(k==NameKind.free&&env.scope.kind==.function&&env.kindOf x==some .cell)=true
   .rw[cX hc,eB,eB,hy];simp only[jP];rw[cX hc]
   .rw[cV hc,eB,eB,hy];simp only[jP];rw[cV hc]
  | false=>
   by_cases hc:(k==NameKind.free&&env.scope.kind==.function&&env.kindOf n==some .cell)=true
   .rw[cX hc,eB,eB,hy];exact ut
   .rw[cV hc,eB,eB,hy];exact ut
def Ou(ix:List (Option Nat))(σ:St):St:=ix.map λo=>o.bind λi=>(σ[i]?).join
abbrev Cx.comp(X:Cx)(scope:Scope)(N':List Str)(C:Addr)(s0:Sd)(H0:Hp)(ex:List Addr):Cx:=
 {X with N:=N',s₀:=s0,H₀:=H0,env:=compEnvC scope (AM X.env scope.names []) C X.env,outer:=X.stack,ex:=ex,fn:=λ_=>false,pn:=[],xe:=λ_ _=>False}
structure r6(X:Cx)(scope:Scope)(ix:List (Option Nat))(N':List Str):Prop where
 kind:scope.kind=.function
 ou:∀y∈scope.names,y.2≠.cell
 nam:∀y∈scope.names,y.2=.local->scope.names.lookup y.1=some .local
 fre:∀y∈scope.names,y.2=.free->X.env.scope.names.lookup y.1=some .cell\/X.env.scope.names.lookup y.1=some .free
 len:ix.length=N'.length
 at_:∀(j i:Nat) (x:Str),ix[j]?=some (some i)->N'[j]?=some x->X.N[i]?=some x/\scope.names.lookup x=some .free
variable {scope:Scope}{ix:List (Option Nat)}{N':List Str}{fp:List Addr}
section
variable {s:Sd}
def r6.cells(S:r6 X scope ix N')(ok:X.Ok):∀x∈scope.names,x.2=.free->∃c,X.env.cells.lookup x.1=some c:=λx hx hk=>ok.has x.1 (S.fre x hx hk)
def r6.sub(S:r6 X scope ix N')(ok:X.Ok){x:Str}{c:Addr}(h:(AM X.env scope.names []).lookup x=some c):X.env.cells.lookup x=some c:=Mj (S.cells ok) (λ_ _ z=>by simp at z) h
theorem vd{x:Str}{k:NameKind}:∀{l:List (Str×NameKind)},l.lookup x=some k->(x,k)∈l
 | [],h=>by simp at h
 | (n,j)::r,h=>by
  rw[eB]at h;cases hy:x==n with
  | true=>
   rw[hy]at h;have yn:x=n:=by simpa using hy
   subst yn;rw[c9 h];exact dC
  | false=>rw[hy]at h;exact dv _ (vd h)
def Inv.comp{C:Addr}{h1:Heap}{tk:Nat}(I:Inv X WI σ H s)(S:r6 X scope ix N')(hf:∀b∈fp,AQ X WI H b)(WW:∀b∈fp,b<s.heap.objs.size)(hC:s.heap.objs.size<=C) (k:∀b o,s.heap.get? b=some o->h1.get? b=some o) (hn:h1.Ns C (λ_=>none)):Inv (X.comp scope N' C s H fp) (X.pn++WI) (Ou ix σ) H {s with heap:=h1,toks:=tk}:=by
 have sub:∀{x:Str} {c:Addr},(AM X.env scope.names []).lookup x=some c->X.env.cells.lookup x=some c:=λh=>S.sub I.ok h;refine⟨⟨I.ok.mod,S.kind,I.ok.glob,I.ok.blt,hC,λx y c e1 e2=>I.ok.inj x y c (sub e1) (sub e2),λx hx=>?_,λ_ _ z=>(dn z).elim,I.ok.hd,I.ok.frames,.inl rfl,λb hb=>⟨dB (dJ (WW b hb) hC),λx c e=>(hf b hb).2.2.2.2.1 x c (sub e)⟩,I.bs,dN I.ok.nY I.sz,λb o e hb=>?_,λb hb hfs=>?_,I.stack,I.nB⟩,rfl,I.bare,Un.kept k,⟨_,hn,λi x v e1 e2 e3=>?_⟩,λx c e=>?_,I.mP.fresh hC,λx c e=>I.mW x c (sub e),λp hp=>?_,I.mP.kept k,?_⟩
 .have hx:(relabel scope X.env).names.lookup x=some .cell\/(relabel scope X.env).names.lookup x=some .free:=hx;have e:(relabel scope X.env).names.lookup x=(scope.names.lookup x).map λk=>if (k==NameKind.free&&X.env.scope.kind==.function&&X.env.kindOf x==some .cell)then NameKind.cell else k:=ut
  rw[e]at hx;cases q:scope.names.lookup x with
  | none=>rw[q]at hx;rcases hx with hx|hx<;>simp at hx
  | some kd=>
   cases kd with
   | free=>exact HX q
   | cell=>exact absurd rfl (S.ou _ (vd q))
   | _=>rw[q]at hx;rcases hx with hx|hx<;>simp at hx
 .rcases(hf b hb).2.2.2.1 with z|z
  .exact I.ok.nP b o e z
  .exact absurd (dJ (dh e) (dN I.ok.nY z)) (eX _)
 .rcases cY.mp (I.nv b hfs)with z|z
  .exact(hf b hb).2.1 z
  .exact(hf b hb).2.2.1 z
 .have YV:(ix[i]?).map (λo=>o.bind λi=>(σ[i]?).join)=some (some v):=by have z:(Ou ix σ)[i]?=some (some v):=e2;unfold Ou at z;rw[dq]at z;exact z
  cases q:ix[i]? with
  | none=>rw[q]at YV;cases YV
  | some o=>
   rw[q]at YV;cases o with
   | none=>cases YV
   | some j=>
    have YW:(σ[j]?).join=some v:=c9 YV;have e4:σ[j]?=some (some v):=by
     cases r:σ[j]? with
     | none=>rw[r]at YW;cases YW
     | some w=>rw[r]at YW;exact eG some YW
    obtain⟨n1,n2⟩:=S.at_ i j x q e1;obtain⟨m,hm,hl⟩:=I.loc;have hk:=S.fre _ (vd n2) rfl;have hv:UF X.env.scope x:=by
     rcases hk with z|z
     .exact .inr (.inl z)
     .exact .inr (.inr z)
    obtain⟨u,ru,lk⟩:=hl j x v n1 e4 hv;refine⟨u,ru,?_⟩;have hk':X.env.kindOf x=some .cell\/X.env.kindOf x=some .free:=hk;rcases lk with⟨z,_⟩|⟨_,c,hc,hcell⟩
    .rcases hk' with y|y<;>(rw[y]at z;cases z)
    .obtain⟨c',hc'⟩:=HX (env:=X.env) (acc:=[]) n2;have:=sub hc';rw[hc]at this;cases this;refine .inr ⟨?_,c,hc',hcell.keeps k⟩;show(relabel scope X.env).names.lookup x=some .cell\/(relabel scope X.env).names.lookup x=some .free;have e:(relabel scope X.env).names.lookup x=(scope.names.lookup x).map λk=>if (k==NameKind.free&&X.env.scope.kind==.function&&X.env.kindOf x==some .cell)then NameKind.cell else k:=ut
     rw[e,n2];simp only[jP];split
     .exact .inl rfl
     .exact .inr rfl
 .obtain⟨v,q⟩:=I.cell x c (sub e);exact⟨v,q.keeps k⟩
 .obtain⟨e,n,ne,nf,d⟩:=I.pin p (by simpa using hp);refine⟨k _ _ e,n,dB (dJ (dh e) hC),λz=>?_,d⟩;rcases cY.mp (I.nv p.1 z)with y|y
  .exact ne y
  .exact nf y
 .show(Ou ix σ).length=N'.length;unfold Ou;rw[cQ];exact S.len
end
section
variable {prog:Pg}{w:Wo}{A:Ar}{R:Result→Sd→Prop}{s:Sd}
def xC{XB Xc iter:Expr}{Xi:List Expr}{scope:Scope}{pos:Pos}{it acc:Vl}{env:Env}(I:Nat->Sd->Prop){EX:Vl->Sd->Prop}(hEX:∀e s',EX e s'->notedBy (model prog w) A env (λx s'=>R (.error x) s') e s') (turn:∀n s,I n s->wpAny (model prog w) A (pyNext it) (λr s₁=>match r with
   | none=>R (.ok .next) s₁
   | some v=>wpAny (model prog w) A (letOwnedTupleGo Xc it v) (λ_ s₁=>wpAny (model prog w) A (assign Xc env v) (λ_ s₂=>
     wpAny (model prog w) A (forIn Xi true λc r=>if r=true then do let ok<-isTrue c env (eval c env);pure (ForInStep.yield ok)else pure (ForInStep.yield r)) (λok s₃=>
      if ok=true then wpAny (model prog w) A (eval XB env) (λx s₄=>
       wpAny (model prog w) A (call (.builtin "list.append") [acc,x]) (λ_ s₅=>∃m,m<n/\I m s₅) (λ_ _=>False) s₄) EX s₃
      else ∃m,m<n/\I m s₃) (λ_ _=>False) s₂) (λ_ _=>False) s₁) (λ_ _=>False) s₁) (λ_ _=>False) s)
  (n:Nat) (h:I n s):
  codeAny (model prog w) A (.compLoop (.ListComp XB [⟨Xc,iter,Xi,0⟩] scope pos) 0 it acc env) R s:=by
 refine codeAny_loop rfl I (λn s hI=>?_) n h;show wpAny _ A ((compTurn (.ListComp XB [⟨Xc,iter,Xi,0⟩] scope pos) 0 it acc env).onRaise (λx=>do noteFrame x env;theTreesLotGoes x)) _ _ s;refine wpAny_noted ?_;rw[compTurn_list];refine cR (ic (cR (dX (turn n s hI) (λr s₁ h₁=>?_) λ_ _ h'=>h'.elim)));cases r with
 | none=>exact de h₁
 | some v=>
  refine cR (dX h₁ (λ_ s₁' h₁'=>?_) λ_ _ h'=>h'.elim);refine cR (dX h₁' (λ_ s₂ h₂=>cR (dX h₂ (λok s₃ h₃=>?_) λ_ _ h'=>h'.elim)) λ_ _ h'=>h'.elim);cases ok with
  | false=>exact de ⟨rfl,h₃⟩
  | true=>exact cR (cR (dX h₃ (λx s₄ h₄=>cR (dX h₄ (λ_ s₅ h₅=>de (de ⟨rfl,h₅⟩)) λ_ _ h'=>h'.elim)) hEX))
end
def PF(X:Cx)(Xi:List Expr)(t:TT):Prop:=
 ∀(WI:List (Addr×Obj)) (s:Sd) (σ:St) (H:Hp) (Q:Bool->Hp->Prop),Inv X WI σ H s->t σ H Q->
  wpAny (model X.prog X.w) X.A (forIn Xi true λc r=>if r=true then do let ok<-isTrue c X.env (eval c X.env);pure (ForInStep.yield ok)else pure (ForInStep.yield r)) (TP X WI σ Q) X.xe s
def S4:TT:=λ_ H Q=>Q true H
def QY{X:Cx}:PF X [] S4:=λ_ _ _ H _ I h=>wpAny_tests_nil ⟨H,I,h⟩
def RV{X:Cx}{c:Expr}{t:TT}(h:PT X c t):PF X [c] t:=λWI s σ H Q I q=>wpAny_tests_one (h WI s σ H Q I q)
def Ql(ix:List (Option Nat))(g:TG)(tt:TT)(te:TE)(σ:St)(J:It)(Q:VK)(H:Hp):Prop:=
 ∃W:Nat->Nat->List V->St->Hp->Prop,(∃m,W 0 m [] (Ou ix σ) H)/\∀i m ys σ' H,W i m ys σ' H->
  (J.stop i H/\ys.length<=sizeLine/\∀D,H D=none->Q (.ref D) (upd H D (.lst ys)))\/
  (J.go i H/\ys.length<sizeLine/\∀x H',J.oN i H x H'->g x σ' H' λσ2 H2=>tt σ2 H2 λb H3=>if b=true then te σ2 H3 λy H4=>∃m',m'<m/\W (i+1) m' (ys++[y]) σ2 H4 else ∃m',m'<m/\W (i+1) m' ys σ2 H3)
def Nk(ix:List (Option Nat))(wi:TI)(g:TG)(tt:TT)(te:TE):TE:=λσ H Q=>wi σ H λJ H1=>Ql ix g tt te σ J Q H1
variable {tg iter XB:Expr}{Xi:List Expr}{g:TG}{tt:TT}{te:TE}{J:It}{it:Addr}{tn:Nat→Heap→Prop}{Q:VK}
section
variable {s:Sd}
def Cj{XP:Addr->Sd->Hp->List Addr->List (Addr×Obj)->St->Vl->Sd->Prop}{RR:Vl->Addr->Result->Sd->Prop}{E:Vl->Sd->Prop}(hc:X.calm=true)(S:r6 X scope ix N')(I:Inv X WI σ H s)(T:Gz X.prog X.w X.K tg J fp it tn)(st:tn 0 s.heap)(hf:∀b∈fp,AQ X WI H b) (hg:∀C s0 H0 ex,PG (X.comp scope N' C s0 H0 ex) tg g) (ht:∀C s0 H0 ex,PF (X.comp scope N' C s0 H0 ex) Xi tt) (he:∀C s0 H0 ex WI s σ H Q,Inv (X.comp scope N' C s0 H0 ex) WI σ H s->te σ H Q->wpAny (model X.prog X.w) X.A (eval XB (X.comp scope N' C s0 H0 ex).env) (EP (X.comp scope N' C s0 H0 ex) WI σ Q) (XP C s0 H0 ex WI σ) s) (hx:∀C D e s',s.heap.objs.size<=C->(∃XJ σ',(∀b∈fp,∃o,(b,o)∈XJ)/\XP C s H fp XJ σ' e s')->notedBy (model X.prog X.w) X.A (compEnvC scope (AM X.env scope.names []) C X.env) (λx s'=>RR D C (.error x) s') e s') (hw:Ql ix g tt te σ J Q H) (WN:∀D C s' H' m,s.heap.objs.size<=C->H' C=none->s'.heap.Ns C m->Inv X WI σ H' s'->Q (.ref D) H'->RR (.ref D) C (.ok .next) s'):
  wpAny (model X.prog X.w) X.A (newList []) (λacc s₃=>wpAny (model X.prog X.w) X.A (newFunctionEnv scope X.env.globals (AM X.env scope.names []) [] X.env.qual none .none (some X.env)) (λXo s₄=>
   codeAny (model X.prog X.w) X.A (.compStart (.ListComp XB [⟨tg,iter,Xi,0⟩] scope pos) 0 (.ref it) acc {Xo with scope:=relabel scope X.env}) (RR acc Xo.locals) s₄) E s₃) E s:=by
 obtain⟨W,⟨m0,w0⟩,turn⟩:=hw;have WW:∀b∈fp,b<s.heap.objs.size:=λb hb=>by obtain⟨o,e,_⟩:=T.obj _ _ st b hb;exact dh e
 refine fQ (wpAny_newFunctionEnv S.ou (by intro y hy;simp at hy) (λh₁ Yo YX=>?_) S.kind);dsimp only at Yo YX ⊢;generalize hH2:s.heap.push {cls:=.type "list",dict:=none,data:=.seq ([]:List Vl).toArray}=H2 at Yo YX ⊢;have hC:H2.objs.size=s.heap.objs.size+1:=by rw[<-hH2,fj]
 have hDC:s.heap.objs.size≠H2.objs.size:=by rw[hC];exact dB (fk _)
 have YY:s.heap.objs.size<=H2.objs.size:=by rw[hC];exact gS _
 have Ze:∀b,b<s.heap.objs.size->b≠H2.objs.size/\b≠s.heap.objs.size:=λb hb=>⟨by rw[hC];exact dB (fR hb),dB hb⟩;have old:∀b o,s.heap.get? b=some o->h₁.get? b=some o:=λb o e=>YX.extBut b o (Ze b (dh e)).1 (cW _ (hH2 ▸ cW _ e));have hacc:h₁.get? s.heap.objs.size=some {cls:=.type "list",data:=.seq ([]:List Vl).toArray 0}:=YX.extBut _ _ hDC (cW _ (hH2 ▸ dA _ rfl));have Yo:h₁.Ns H2.objs.size (λ_=>none):=Yo;have X0:∀{H':Hp} {pl:List (Addr×Obj)},(∀b∈fp,H' b=none)->(∀p∈pl,p.1∉fp)->∀b∈fp,AQ (X.comp scope N' H2.objs.size s H fp) (X.pn++WI++pl) H' b:=λ{H' pl} hn WY b hb=>by
  refine⟨hn b hb,dB (dJ (WW b hb) YY),λz=>?_,.inl hb,λx c e=>(hf b hb).2.2.2.2.1 x c (S.sub I.ok e),λp hp=>?_⟩
  .rcases cY.mp (I.nv b z)with y|y
   .exact(hf b hb).2.1 y
   .exact(hf b hb).2.2.1 y
  .rcases dR.mp (show p∈X.pn++WI++pl by simpa using hp)with z|z
   .exact(hf b hb).2.2.2.2.2 p z
   .intro q;exact WY p z (q ▸ hb)
 have loop:∀s₃:Sd,s₃={s with heap:=h₁,toks:=s.toks+([]:List (Str×Vl)).length}->
   codeAny (model X.prog X.w) X.A (.compLoop (.ListComp XB [⟨tg,iter,Xi,0⟩] scope pos) 0 (.ref it) (.ref s.heap.objs.size) (compEnvC scope (AM X.env scope.names []) H2.objs.size X.env))
    (RR (.ref s.heap.objs.size) H2.objs.size) s₃:=by
  rintro s₃ rfl
  refine xC (hEX:=λe s' z=>hx _ _ e s' YY z) (λn s'=>∃(i:Nat) (ys:List V) (us:List Vl) (k:Nat) (σ':St) (H':Hp),Inv (X.comp scope N' H2.objs.size s H fp) (X.pn++WI) σ' H' s'/\tn i s'.heap/\(∀b∈fp,H' b=none)/\H' s.heap.objs.size=none/\
   s'.heap.get? s.heap.objs.size=some {cls:=.type "list",data:=.seq us.toArray k}/\qz ys us/\ys.length<=sizeLine/\W i n ys σ' H') ?_ m0
   ⟨0,[],[],0,Ou ix σ,H,I.comp S hf WW YY old Yo,T.keep _ _ _ st λb _ o e=>old b o e,λb hb=>(hf b hb).1,I.mP.fresh (cZ _),hacc,.nil,dS _,w0⟩
  rintro n s' ⟨i,ys,us,k,σ',H',I',Xz,fr',hD',Xn,rv',hz',w'⟩
  have cellD:∀x c,(X.comp scope N' H2.objs.size s H fp).env.cells.lookup x=some c->c≠s.heap.objs.size:=λx c e=>by obtain⟨v,q⟩:=I.cell x c (S.sub I.ok e);exact dB q.lt
  have pinD:∀p∈X.pn++WI,p.1≠s.heap.objs.size:=λp hp=>dB (dh (I.pin p hp).1);have dfs:s.heap.objs.size∉(X.comp scope N' H2.objs.size s H fp).fs:=λz=>by
   rcases cY.mp (I.nv _ z)with y|y
   .exact absurd I.lt (by rw[<-y];exact eX _)
   .exact I.oO (cZ _) y
  have dfp:s.heap.objs.size∉fp:=λz=>absurd (WW _ z) (eX _);have IpD:Inv (X.comp scope N' H2.objs.size s H fp) (X.pn++WI++[(s.heap.objs.size,{cls:=.type "list",data:=.seq us.toArray k})]) σ' H' s':=I'.nJ λp hp=>by
   rcases dR.mp hp with z|z
   .exact I'.pin p (eh _ z)
   .have e:p=(s.heap.objs.size,{cls:=.type "list",data:=.seq us.toArray k}):=by simpa using z
    subst e;exact⟨Xn,hD',hDC,dfs,λv z=>by cases z⟩
  have pfp:∀p∈[((s.heap.objs.size,{cls:=.type "list",data:=.seq us.toArray k}):Addr×Obj)],p.1∉fp:=λp hp=>by
   have e:p=(s.heap.objs.size,{cls:=.type "list",data:=.seq us.toArray k}):=by simpa using hp
   subst e;exact dfp
  rcases turn i n ys σ' H' w' with⟨stop,hz,q⟩|⟨go,hz,step⟩
  .refine dX (T.done (X.comp scope N' H2.objs.size s H fp) rfl rfl rfl hc i _ s' σ' H' (λ_ _=>False) IpD (X0 fr' pfp) Xz stop) (λr s1 ⟨hr,I1⟩=>?_) λ_ _ z=>z;subst hr;show RR _ _ _ _;have ZF:s1.heap.get? s.heap.objs.size=some {cls:=.type "list",data:=.seq us.toArray k}:=(I1.pin (s.heap.objs.size,{cls:=.type "list",data:=.seq us.toArray k}) (by simp)).1;obtain⟨m,hnC,_⟩:=id I1.loc;refine WN _ _ s1 (upd H' s.heap.objs.size (.lst ys)) m YY (by rw[qc (dI hDC)];exact I1.free) hnC ?_ (q _ hD');have nD:∀b o,s.heap.get? b=some o->b≠s.heap.objs.size:=λb o e=>(Ze b (dh e)).2;have hD0:H s.heap.objs.size=none:=I.mP.fresh (cZ _);refine I.oQ (s':=s1) (ch:=fp) I1.os ⟨λb o e n1 n2 n3=>?_,λb o e n1 n2 n3=>?_,λb o e n1 n2=>?_,λb o e n1=>?_,λb xs e=>?_,λb o u e=>?_,λb ps e=>?_⟩ (λb u e=>?_) I1.bare λb hb=>⟨(hf b hb).2.2.2.1,(hf b hb).2.1,(hf b hb).2.2.2.2.1,(hf b hb).2.2.2.2.2⟩
   .exact I1.base.keep b o e n1 n2 n3
   .exact I1.base.slot b o e n1 n2 n3
   .rw[qc (nD b o e)];exact I1.base.free b o e n1 n2
   .exact I1.base.there b o e n1
   .rw[qc (qN e hD0)];exact I1.base.nI b xs e
   .rw[qc (qN e hD0)];exact I1.base.nC b o u e
   .obtain⟨more,z⟩:=I1.base.nK b ps e;exact⟨more,by rw[qc (qN e hD0)];exact z⟩
   .by_cases hb:b=s.heap.objs.size
    .subst hb;rw[qg]at e;cases e;exact⟨hz,us,k,rv',ZF⟩
    .rw[qc hb]at e;exact(I1.mP b u e).nj (λc v _ z=>z) (λc z=>by rw[qc (qN z hD')];exact z) (λc xs z=>by rw[qc (qN z hD')];exact z)
  .refine dX (T.item (X.comp scope N' H2.objs.size s H fp) rfl rfl rfl hc i _ s' σ' H' (λ_ _=>False) IpD (X0 fr' pfp) Xz go) (λr s1 ⟨v,hr,h4⟩=>?_) λ_ _ z=>z;subst hr;show wpAny _ _ (letOwnedTupleGo tg (.ref it) v) _ _ s1;refine dX h4 (λ_ s2 zz=>?_) λ_ _ z=>z;obtain⟨x,H5,I5,r5,y5,Zb,fr5⟩:=zz;have I5':=I5.pinned (X0 fr5 pfp) (T.obj _ _ Zb);refine dX (hg H2.objs.size s H fp _ s2 σ' H5 x v _ I5' r5 (step x H5 y5)) (λ_ s3 ⟨σ6,H6,I6,q6⟩=>?_) λ_ _ z=>z;refine dX (ht H2.objs.size s H fp _ s3 σ6 H6 _ I6 q6) (λok s4 ⟨H7,I7,q7⟩=>?_) λ_ _ z=>z;have Zf:∀{σ7:St} {H7:Hp} {s7:Sd},Inv (X.comp scope N' H2.objs.size s H fp) (X.pn++WI++[(s.heap.objs.size,{cls:=.type "list",data:=.seq us.toArray k})]++B8 fp s2.heap) σ7 H7 s7->
     tn (i+1) s7.heap/\(∀b∈fp,H7 b=none)/\H7 s.heap.objs.size=none/\s7.heap.get? s.heap.objs.size=some {cls:=.type "list",data:=.seq us.toArray k}:=λ{σ7 H7 s7} K7=>by
    have pd:=K7.pin (s.heap.objs.size,{cls:=.type "list",data:=.seq us.toArray k}) (by simp);refine⟨T.keep _ _ _ Zb λb hb o e=>(K7.pin (b,o) (eh _ (eh _ (vf hb e)))).1,λb hb=>?_,pd.2.1,pd.1⟩;obtain⟨o,e,d⟩:=T.obj _ _ Zb b hb;exact(K7.pin (b,o) (eh _ (eh _ (vf hb e)))).2.1
   cases ok with
   | false=>rw[cV dn]at q7 ⊢;obtain⟨m',hm,w7⟩:=q7;obtain⟨t7,f7,d7,o7⟩:=Zf I7;exact⟨m',hm,i+1,ys,us,k,σ6,H7,I7.mV.mV,t7,f7,d7,o7,rv',hz',w7⟩
   | true=>
    rw[cX rfl]at q7 ⊢;refine dX (he H2.objs.size s H fp _ s4 σ6 H7 _ I7 q7) (λyv s5 ⟨y,H8,I8,r8,m',hm,w8⟩=>?_) λ_ _ z=>⟨_,_,λb hb=>(by
     obtain⟨o,e,_⟩:=T.obj _ _ Zb b hb;exact⟨o,eh _ (vf hb e)⟩),z⟩
    obtain⟨t8,f8,d8,o8⟩:=Zf I8;have hsz:us.toArray.size<=sizeLine:=by rw[dg,<-rv'.length];exact hz'
    refine append_at (hsz:=hsz) o8 λh' sb od=>?_;refine⟨m',hm,i+1,ys++[y],us++[yv],k+1,σ6,H8,?_,T.keep _ _ _ t8 λb hb o e=>(sb.2 b λq=>dfp (q ▸ hb)).trans e,f8,d8,?_,rv'.append (.cons r8 .nil),?_,w8⟩
    .exact I8.mV.mV.turned (it:=s.heap.objs.size) (t':=s5.toks) (λb o hb e=>(sb.2 b hb).trans e) d8 hDC (.inr (cZ _)) cellD (by simpa using pinD)
    .rw[od,List.push_toArray]
    .rw[cT,dG];exact hz
 exact codeAny_compStart_list (loop _ rfl) (T.self _ 0 _ _ _ (T.keep _ _ _ st λb _ o e=>old b o e) (loop _ rfl))
def Inv.letGo{C:Addr}{s':Sd}{H':Hp}{σ':St}{h':Heap}(I:Inv X WI σ H s)(I':Inv X WI σ' H' s')(hC:s.heap.objs.size<=C)(hn:H' C=none)(hs:Heap.SameBut C s'.heap h'):Inv X WI σ' H' {s' with heap:=h'}:=
 I'.turned (t':=s'.toks) (it:=C) (λb o hb e=>(hs.2 b hb).trans e) hn (λz=>absurd (dJ I.lt hC) (by rw[z];exact eX _)) (.inr (dN I.sz hC))
  (λx c e z=>by
   obtain⟨v,r⟩:=I.cell x c e;exact absurd (dJ r.lt hC) (by rw[z];exact eX _))
  (λp hp z=>absurd (dJ (dh (I.pin p hp).1) hC) (by rw[z];exact eX _))
def PR{wi:TI}(hc:X.calm=true)(S:r6 X scope ix N')(hi:PI X tg iter wi)(hg:∀C s0 H0 ex,PG (X.comp scope N' C s0 H0 ex) tg g)(ht:∀C s0 H0 ex,PF (X.comp scope N' C s0 H0 ex) Xi tt)(he:∀C s0 H0 ex,PE (X.comp scope N' C s0 H0 ex) XB te) (hs:∀x,foldedSetIterable iter X.env x=pure x:=by intro _;rfl):PE X (.ListComp XB [⟨tg,iter,Xi,0⟩] scope pos) (Nk ix wi g tt te):=by
 intro WI s σ H Q I h;rw[eval_ListComp];refine jB (use:=none) rfl hs (yo (S.cells I.ok)) S.kind S.nam (dX (hi WI s σ H _ I h) (λxv s₁ h₁=>dX h₁ (λitv s₂ h₂=>?_) λ_ _ e=>e) λ_ _ e=>e);obtain⟨it,fp,tn,J,H2,e,I2,T,WZ,f2,hw⟩:=h₂;subst e;refine Cj (RR:=λacc C=>compPost (model X.prog X.w) X.A X.xe none (EP X WI σ Q) acc C) hc S I2 T WZ f2 hg ht (XP:=λ_ _ _ _ _ _ _ _=>False) he (λ_ _ _ _ _ z=>by obtain⟨_,_,_,z⟩:=z;exact z.elim) hw λD C s' H' m hCs hCn hn I3 q=>?_;exact⟨m,hn,λh' Zg=>⟨.ref D,_,I2.letGo I3 hCs hCn Zg,rfl,q⟩⟩
def Hs{wi:TI}{i:Nat}{x:Str}{px Yp:Pos}(hN:X.N.Nodup)(ZG:X.N[i]?=some x)(hx:KW X.env.scope x)(hc:X.calm=true)(S:r6 X scope ix N')(hi:PI X tg iter wi)(hg:∀C s0 H0 ex,PG (X.comp scope N' C s0 H0 ex) tg g)(ht:∀C s0 H0 ex,PF (X.comp scope N' C s0 H0 ex) Xi tt) (he:∀C s0 H0 ex,PE (X.comp scope N' C s0 H0 ex) XB te) (Xw:swapsWith (.ListComp XB [⟨tg,iter,Xi,0⟩] scope pos) (some (.Name x px)) Yp.line X.env=pure true) (hf:KS X x:=by first|exact .inl rfl|exact .inr rfl|assumption) (hs:∀x,foldedSetIterable iter X.env x=pure x:=by intro _;rfl):
  PS X (.Assign [.Name x px] (.ListComp XB [⟨tg,iter,Xi,0⟩] scope pos) Yp) (QT (Nk ix wi g tt te) (Nd i)):=by
 intro WI s σ H D I h;rw[exec_Assign_Name_used _ _ _ _ Xw];refine cR (ic (cR ?_));show wpAny _ X.A (do let _<-comprehension (.ListComp XB [⟨tg,iter,Xi,0⟩] scope pos) scope X.env _ (newList []) false (eval iter X.env) (some (assign (.Name x px) X.env))) _ _ s;refine cR (dX (jB (use:=some (assign (.Name x px) X.env)) (Q:=λ_ s'=>SP X WI D .next s') rfl hs (yo (S.cells I.ok)) S.kind S.nam
  (dX (hi WI s σ H _ I h) (λxv s₁ h₁=>dX h₁ (λitv s₂ h₂=>?_) λ_ _ e=>e) λ_ _ e=>e)) (λ_ s' hq=>de (de hq)) λ_ _ e=>e)
 obtain⟨it,fp,tn,J,H2,e,I2,T,WZ,f2,hw⟩:=h₂;subst e;refine Cj (RR:=λacc C=>compPost (model X.prog X.w) X.A X.xe (some (assign (.Name x px) X.env)) (λ_ s'=>SP X WI D .next s') acc C) hc S I2 T WZ f2 hg ht (XP:=λ_ _ _ _ _ _ _ _=>False) he (λ_ _ _ _ _ z=>by obtain⟨_,_,_,z⟩:=z;exact z.elim) hw λDa C s' H' m hCs hCn hn I3 q=>?_;show wpAny _ X.A (assign (.Name x px) X.env (.ref Da)) _ _ _;refine kX (DP I3 hN ZG hx (v:=.ref Da) rfl (λs4 I4 ⟨a,sb,ha⟩=>?_) hf);have ca:C≠a:=λz=>by
  rcases ha with y|y
  .exact absurd (dJ I2.lt hCs) (by rw[z,y];exact eX _)
  .obtain⟨v,r⟩:=I2.cell x a y;exact absurd (dJ r.lt hCs) (by rw[z];exact eX _)
 exact⟨m,hn.sameBut sb ca,λh' Zg=>⟨_,H',I2.letGo I4 hCs hCn Zg,q⟩⟩
end
def AX:typeLookup (.type "list") "__getattr__"=pure none:=by rw[typeLookup_type,jZ];kernel_rfl
def EM:typeLookup (.type "list") "keys"=pure none:=by rw[typeLookup_type,jZ];kernel_rfl
section
variable {prog:Pg}{w:Wo}{A:Ar}{E:Vl→Sd→Prop}
def LV(a:Addr)(u:Tok)(its:Array Vl)(n:Nat)(sl:Array (Option Vl)):
  Meets (Builtin.«object.__getattribute__» ⟨[.ref a,.str "keys" u],[]⟩) λA R s=>s.heap.get? a=some ⟨.type "list",none,.seq its n,sl⟩/\A.handled=none/\∀h' tk e,Heap.NewAttrErr s.heap h' e (.ref a) "keys"->R (.error (.ref e)) {s with heap:=h',toks:=tk}:=
 Meets.of_wp λprog w A R s hs=>by
  obtain⟨hp,g,d,tk,os⟩:=s;obtain⟨h1,h2,h3⟩:=hs;have hT:(⟨hp,g,d,tk,os⟩:Sd).TypeIs (.ref a) "list":=⟨_,h1,rfl⟩;have f1:=EM;unfold Builtin.«object.__getattribute__»
  repeat (any_goals(first|assumption|wp_step))
  exact wpAny_raiseAttrError h2 h3 (attrMsg_fits (by decide+kernel) (by decide))
def D7{s:Sd}{a:Addr}{its:Array Vl}{n:Nat}{sl:Array (Option Vl)}{Q:Option Vl->Sd->Prop}(ha:s.heap.get? a=some ⟨.type "list",none,.seq its n,sl⟩)(hA:A.handled=none) (h:∀h' tk,(∀b o,s.heap.get? b=some o->h'.get? b=some o)->Q none {s with heap:=h',toks:=tk}):wpAny (model prog w) A (getAttr? (.ref a) "keys") Q E s:=by
 obtain⟨hp,g,d,tk,os⟩:=s;have hT:(⟨hp,g,d,tk,os⟩:Sd).TypeIs (.ref a) "list":=⟨_,ha,rfl⟩;have f1:=sub_AttributeError;have f3:=im.lookup;have f4:=im.bind (.ref a);have f5:=AX;unfold getAttr? getAttrBy? getAttrBy
 repeat (any_goals(first|assumption|((with_reducible show wpAny _ _ (call (Value.builtin "list.__getattribute__") _ _) _ _ _);refine jp im hT F.entry_list_ga (F.args_list_getattribute_2 _ _) (LV a _ its n sl) ⟨ha,hA,λh' tk' e hx=>?_⟩)|wp_step))
 obtain⟨t',u',he⟩:=hx.there;show wpAny _ _ (getattributeRaised _ _ _ _ _ _ _) _ _ _;unfold getattributeRaised
 repeat (any_goals(first|assumption|wp_step))
 all_goals first|exact h _ _ hx.keeps|skip
end
def Am:entryFor table "dict.update.loop"=some Builtin.«dict.update.loop»:=entryFor_of_tree (by kernel_rfl)
def vH:plainId "dict.update.loop"=true:=by decide+kernel
section
variable {prog:Pg}{w:Wo}{A:Ar}{E:Vl→Sd→Prop}{R:Result→Sd→Prop}{κ:Type}[DecidableEq κ]{knd:PySem.KeyKind prog w κ}
 {I:Addr} {fp wr:List Addr} {G:Array GenState->Array GenState->Prop} {P:Nat->Vl->Prop} {St:Nat->Sd->Prop}
def NZ{s:Sd}{t:Addr}{x y:Vl}{Q:List Vl->Sd->Prop}(h:s.heap.IsTuple t #[x,y])(q:Q [x,y] s):wpAny (model prog w) A (Builtin.Dict.pairItems (.ref t)) Q E s:=by
 obtain⟨⟨oc,od,oda,XF⟩,h1,h2,n,h3⟩:=h;simp only at h2 h3;subst h2 h3;have hT:s.TypeIs (.ref t) "tuple":=⟨_,h1,rfl⟩;obtain⟨hp,g,d,tk,os⟩:=s;unfold Builtin.Dict.pairItems
 repeat (any_goals(first|assumption|wp_step))
def KM{all:List (κ×Vl)}(W:WalksS prog w A.in1 I fp wr G all.length P St)(d:Addr)(Zd:d∉fp)(kv:Nat->Vl)(tp:Nat->Addr)(hP:∀i v,P i v->v=.ref (tp i))(hw:∀j,j<all.length->tp j∉wr/\tp j≠d) (hk:∀j p,all[j]?=some p->knd.is p.1 (kv j)=true) (hz:all.length<=sizeLine):
  ∀(k i:Nat) (z:Int) (s:Sd),all.length - i=k->i<=all.length->St i s->(∀j p,all[j]?=some p->s.heap.IsTuple (tp j) #[kv j,p.2])->s.heap.DictOf knd d (merged [] (all.take i))->
   (∀s',Moved (d::wr) G s s'->s'.heap.DictOf knd d (merged [] all)->R (.ok (.ret .none)) s')->codeAny (model prog w) A (.builtin "dict.update.loop" ⟨[.ref d,.ref I,.int z 0,.none],[]⟩) R s:=by
 have hdw:d∉wr:=λh=>Zd (W.sub _ h);have Yq:∀b∈wr,b∈d::wr:=λb hb=>dv _ hb;intro k;induction k with
 | zero=>
  intro i z s hk0 hi W7 hT hD hR;have YG:i=all.length:=by omega
  subst YG;refine gO Am ?_;rw[hU vH _];show wpAny _ A.in1 (pyNext (.ref I)>>=_) _ _ s;refine cR (W.done s _ _ W7 λs' hm=>?_);show wpAny _ A.in1 (Builtin.Dict.addKeywords d []>>=_) _ _ s';refine cR (de (de (hR s' (hm.mono Yq) ?_)));rw[e9]at hD;obtain⟨o,es,ep,ho,rest⟩:=hD;exact⟨o,es,ep,hm.heap d _ hdw ho,rest⟩
 | succ k ih=>
  intro i z s hk0 hi W7 hT hD hR;have WW:i<all.length:=by omega
  have X3:all[i]?=some all[i]:=cU WW;refine gO Am ?_;rw[hU vH _];show wpAny _ A.in1 (pyNext (.ref I)>>=_) _ _ s;refine cR (W.item i s _ _ WW W7 λv s' hPv ZH hm=>?_);obtain rfl:=hP i v hPv;have hT':∀j p,all[j]?=some p->s'.heap.IsTuple (tp j) #[kv j,p.2]:=λj p e=>by obtain⟨o,h1,h2⟩:=hT j p e;exact⟨o,hm.heap _ _ (hw j (cS.mp e).1).1 h1,h2⟩
  have hD':s'.heap.DictOf knd d (merged [] (all.take i)):=by obtain⟨o,es,ep,ho,rest⟩:=hD;exact⟨o,es,ep,hm.heap d _ hdw ho,rest⟩
  show wpAny _ A.in1 (holding [Value.ref (tp i)] _>>=_) _ _ s';refine cR (eN (cR (wpAny_tryCatch (NZ (hT' i _ X3) ?_))));show wpAny _ A.in1 (holding [kv i,all[i].2] (dictSet d (kv i) all[i].2)) _ _ s';refine eN ?_;unfold dictSet;refine eN (cR (knd.pyHash (hk i _ X3) ?_));have hl:(merged [] (all.take i)).length<=sizeLine:=by have:=merged_length_le [] (all.take i);rw[fK]at this;simp only[dE]at this;omega
  refine wpAny_dictSetHashed_pairs (hsz:=hl) (hk i _ X3) hD' λh' dd hs=>?_;rw[<-merged_take_succ [] all i _ X3]at dd;refine de ⟨ku vH _,ih (i+1) _ _ (by omega) WW (W.frame _ s' _ _ ZH (gS _) λb hb o e=>?_) (λj p e=>?_) dd λZz ZI hD''=>?_⟩
  .rw[hs.2 b (λz:b=d=>Zd (z ▸ hb))];exact e
  .obtain⟨o,h1,h2⟩:=hT' j p e;refine⟨o,?_,h2⟩;show h'.get? (tp j)=some o;rw[hs.2 _ (hw j (cS.mp e).1).2];exact h1
  .refine hR Zz (mC W.gtrans ((hm.mono Yq).then_heap (gS _) λb o hb e=>?_) ZI) hD'';rw[hs.2 b (λz:b=d=>hb (by rw[z];exact dC))];exact e
end
section
variable {prog:Pg}{w:Wo}{A:Ar}{E:Vl→Sd→Prop}{κ:Type}[DecidableEq κ]{knd:PySem.KeyKind prog w κ}{s:Sd}
def AZ{l:Addr}{its:Array Vl}{n:Nat}{sl:Array (Option Vl)}{all:List (κ×Vl)}{Q:Vl->Sd->Prop}(kv:Nat->Vl)(tp:Nat->Addr)(hh:A.handled=none)(hl:s.heap.get? l=some ⟨.type "list",none,.seq its n,sl⟩) (hits:∀(j:Nat) (v:Vl),its[j]?=some v->v=.ref (tp j)) (WO:its.size=all.length) (hT:∀j p,all[j]?=some p->s.heap.IsTuple (tp j) #[kv j,p.2]) (hk:∀j p,all[j]?=some p->knd.is p.1 (kv j)=true) (hz:all.length<=sizeLine) (h:∀h' tk,h'.DictOf knd s.heap.objs.size (merged [] all)->(∀b o,s.heap.get? b=some o->h'.get? b=some o)->Q (.ref s.heap.objs.size) {s with heap:=h',toks:=tk}):
  wpAny (model prog w) A (call (.type "dict") [.ref l]) Q E s:=by
 refine callType_codes (Q₁:=λobj s₁=>obj=Value.ref s.heap.objs.size/\s₁={s with heap:=s.heap.push {cls:=.type "dict",data:=.dict #[]}}) PySem.F.kt_called_dict (PySem.F.kt_typeCall_dict_1 _) F.entry_dict_init (kt_code_dict_new _ ⟨rfl,rfl⟩) ?_
 rintro obj s₁ ⟨rfl,rfl⟩
 have Ym:(s.heap.push {cls:=.type "dict",data:=.dict #[]}).DictOf knd s.heap.objs.size []:=Heap.DictOf.new s.heap;have hl':(s.heap.push {cls:=.type "dict",data:=.dict #[]}).get? l=some ⟨.type "list",none,.seq its n,sl⟩:=cW _ hl;have hTl:Shared.TypeIs {s with heap:=s.heap.push {cls:=.type "dict",data:=.dict #[]}} (.ref l) "list":=⟨_,hl',rfl⟩;have lsz:l<s.heap.objs.size:=dh hl;refine⟨Ym.typeIs,F.args_dict_init_2 _ _,?_⟩;unfold Builtin.«dict.__init__»;refine cR ?_;unfold Builtin.Dict.selfAndRest;refine cR (wpAny_notOrdered_dict Ym.typeIs ?_);show wpAny _ _ (pure (s.heap.objs.size,[Value.ref l])) _ _ _;refine de ?_;show wpAny _ _ (Builtin.Dict.updateFrom "dict.__init__" s.heap.objs.size (.ref l) [] .none) _ _ _;unfold Builtin.Dict.updateFrom;refine cR (jz hTl ?_);rw[cX (by decide)];refine cR (D7 hl' (by simpa using hh) λh' tk keep=>?_);have hl2:h'.IsList l its:=⟨_,keep _ _ hl',rfl,n,rfl⟩;show wpAny _ _ (rule _>>=_) _ _ _;refine cR (ke (cR (gT hl2 ?_)));have nd:h'.objs.size>s.heap.objs.size:=by have z:h'.get? s.heap.objs.size=some _:=keep _ _ (dA _ rfl);exact dh z
 have hDn:h'.DictOf knd s.heap.objs.size []:=by obtain⟨o,es,ep,ho,rest⟩:=Ym;exact⟨o,es,ep,keep _ _ ho,rest⟩
 have hTs:∀j p,all[j]?=some p->h'.IsTuple (tp j) #[kv j,p.2]:=λj p e=>by obtain⟨o,h1,h2⟩:=hT j p e;exact⟨o,keep _ _ (cW _ h1),h2⟩
 have W8:l≠h'.objs.size:=dB (il lsz nd);have W:=(kg (prog:=prog) (w:=w) (A:=A.in1.in1) (by simpa using hh) h'.objs.size l W8 its).toS;rw[WO]at W;refine de ⟨ku vH _,KM (A:=A.in1) W s.heap.objs.size ?_ kv tp (λi v e=>hits i v e) (λj hj=>?_) hk hz all.length 0 0 _ (by omega) (dS _) ⟨⟨_,dA _ rfl,rfl,rfl⟩,hl2.push _⟩ (λj p e=>(hTs j p e).push _) ?_ λs' hm hD=>?_⟩
 .simp only[cY,dz,eQ,fH];exact⟨dB nd,gH lsz⟩
 .have hj':all[j]?=some all[j]:=cU hj;obtain⟨o,h1,_⟩:=hT j _ hj';have tsz:=dh h1;simp only[cY,dz,eQ];exact⟨dB (il tsz nd),dB tsz⟩
 .obtain⟨o,es,ep,ho,rest⟩:=hDn;exact⟨o,es,ep,cW _ ho,rest⟩
 .obtain⟨h2,g2,d2,t2,o2⟩:=s';have eg:g2=s.gens:=hm.gens;have ed:d2=s.drawn:=hm.drawn;have eo:o2=s.os:=hm.os;subst eg ed eo;refine⟨rfl,h h2 t2 hD λb o e=>?_⟩;have hb:=dh e;refine hm.heap b o ?_ (cW _ (keep _ _ (cW _ e)));simp only[cY,dz,eQ,fH];exact⟨dB hb,dB (il hb nd)⟩
end
def sQ{κ:Type}[DecidableEq κ](l:List κ):List κ:=l.foldl (λacc k=>if k∈acc then acc else acc++[k]) []
def xY{κ:Type}[DecidableEq κ](l:List κ)(k:κ):sQ (l++[k])=if k∈sQ l then sQ l else sQ l++[k]:=by unfold sQ;rw[lh];rfl
def IS{κ:Type}[DecidableEq κ]:∀l:List κ,(sQ l).length<=l.length:=by
 have go:∀(l acc:List κ),(l.foldl (λacc k=>if k∈acc then acc else acc++[k]) acc).length<=acc.length+l.length:=by
  intro l;induction l with
  | nil=>intro acc;simp
  | cons k r ih=>
   intro acc;rw[fS];refine dN (ih _) ?_;split
   .simp only[dZ];omega
   .simp only[dZ,cT,dE];omega
 intro l;have:=go l []
 simpa [sQ]using this
def K5{κ:Type}[DecidableEq κ](x:κ):∀l:List κ,x∈sQ l↔x∈l:=by
 have go:∀(l acc:List κ),x∈l.foldl (λacc k=>if k∈acc then acc else acc++[k]) acc↔x∈acc\/x∈l:=by
  intro l;induction l with
  | nil=>intro acc;simp
  | cons k r ih=>
   intro acc;rw[fS,ih];by_cases h:k∈acc
   .rw[cX h,cY];constructor
    .rintro (z|z)
     .exact .inl z
     .exact .inr (.inr z)
    .rintro (z|z|z)
     .exact .inl z
     .subst z;exact .inl h
     .exact .inr z
   .rw[cV h,dR,df,cY,or_assoc]
 intro l;have:=go l []
 simpa [sQ]using this
def HD{κ:Type}[DecidableEq κ]:∀l:List κ,l.Nodup->sQ l=l:=by
 have go:∀(l acc:List κ),(acc++l).Nodup->l.foldl (λacc k=>if k∈acc then acc else acc++[k]) acc=acc++l:=by
  intro l;induction l with
  | nil=>intro acc _;simp
  | cons k r ih=>
   intro acc h;have hk:k∉acc:=λz=>by rw[gj]at h;exact h.2.2 k z k dC rfl
   rw[fS,cV hk,ih]
   .rw[fh];rfl
   .rw[fh];exact h
 intro l h;have:=go l [] (by simpa using h)
 simpa [sQ]using this
section
variable {prog:Pg}{w:Wo}{A:Ar}{E:Vl→Sd→Prop}{R:Result→Sd→Prop}{κ:Type}[DecidableEq κ][BEq κ][LawfulBEq κ]{knd:PySem.KeyKind prog w κ}
 {I:Addr} {fp wr:List Addr} {G:Array GenState->Array GenState->Prop} {P:Nat->Vl->Prop} {St:Nat->Sd->Prop}
def FS{all:List κ}(W:WalksS prog w A.in1 I fp wr G all.length P St)(S:Addr)(hSf:S∉fp)(hval:∀i v k,P i v->all[i]?=some k->knd.is k v=true/\v.scannable=true)(hb:all.length+1<scanBound):
  ∀(n i:Nat) (s:Sd),all.length - i=n->i<=all.length->St i s->s.heap.SetOf knd S (λx=>decide (x∈sQ (all.take i))) (sQ (all.take i)).length->
   (∀s',Moved (S::wr) G s s'->s'.heap.SetOf knd S (λx=>decide (x∈sQ all)) (sQ all).length->R (.ok (.ret .none)) s')->codeAny (model prog w) A (.builtin "set.update.loop" ⟨[.ref S,.ref I],[]⟩) R s:=by
 have hSw:S∉wr:=λh=>hSf (W.sub _ h);have up:∀b∈wr,b∈S::wr:=λb hb=>dv _ hb;have kept:∀{s s':Sd} {T:κ->Bool} {m:Nat},Moved wr G s s'->s.heap.SetOf knd S T m->s'.heap.SetOf knd S T m:=λhm ⟨o,es,ep,t,ho,rest⟩=>⟨o,es,ep,t,hm.heap S _ hSw ho,rest⟩;intro n;induction n with
 | zero=>
  intro i s h0 hi W7 hS hR;obtain rfl:i=all.length:=by omega
  refine gO io ?_;rw[hU gy _];rw[e9]at hS;exact cR (W.done s _ _ W7 λs' hm=>de (hR s' (hm.mono up) (kept hm hS)))
 | succ n ih=>
  intro i s h0 hi W7 hS hR;have WW:i<all.length:=by omega
  have X3:all[i]?=some all[i]:=cU WW;refine gO io ?_;rw[hU gy _];refine cR (W.item i s _ _ WW W7 λv s' hP ZH hm=>?_);obtain⟨k1,k2⟩:=hval i v _ hP X3;have Yr:=kept hm hS;show wpAny _ A.in1 (holding [v] (setAdd S v)>>=_) _ _ s';refine cR (eN ?_);unfold setAdd;refine eN (cR (knd.pyHash k1 ?_));have room:(sQ (all.take i)).length+1<scanBound:=by have h1:=IS (all.take i);rw[fK]at h1;omega
  refine wpAny_setAddHashed_of (knd:=knd) (s:={s' with toks:=s'.toks+1}) k1 k2 Yr room λh' hsb hS2=>?_;have et:all.take (i+1)=all.take i++[all[i]]:=by rw[gU,X3];rfl
  have hSi:h'.SetOf knd S (λx=>decide (x∈sQ (all.take (i+1)))) (sQ (all.take (i+1))).length:=by
   refine ip hS2 (λx=>?_) ?_
   .rw[et];by_cases WK:all[i]∈sQ (all.take i)
    .rw[xY,cX WK];by_cases hx:x=all[i]
     .subst hx;simp[WK]
     .simp[hx]
    .rw[xY,cV WK];by_cases hx:x=all[i]
     .subst hx;simp
     .simp[hx]
   .rw[et,xY];by_cases WK:all[i]∈sQ (all.take i)
    .rw[cX WK];simp[WK]
    .rw[cV WK];simp[WK]
  refine de ⟨ku gy _,ih (i+1) _ (by omega) WW (W.frame _ s' _ _ ZH (gS _) λb hb o e=>?_) hSi λZz ZI hS''=>?_⟩
  .rw[hsb.2 b (λz:b=S=>hSf (z ▸ hb))];exact e
  .refine hR Zz (mC W.gtrans ((hm.mono up).then_heap (gS _) λb o hb e=>?_) ZI) hS'';rw[hsb.2 b (λz:b=S=>hb (by rw[z];exact dC))];exact e
end
def D4:isSubtype (.type "list") (.type "set")=pure false:=by rw[iY];kernel_rfl
def AY:isSubtype (.type "list") (.type "frozenset")=pure false:=by rw[iY];kernel_rfl
section
variable {prog:Pg}{w:Wo}{A:Ar}{E:Vl→Sd→Prop}{κ:Type}[DecidableEq κ][BEq κ][LawfulBEq κ]{knd:PySem.KeyKind prog w κ}{s:Sd}
set_option maxHeartbeats 4000000 in
def CL{l:Addr}{WJ:Array Vl}{all:List κ}{Q:Vl->Sd->Prop}(hh:A.handled=none)(hl:s.heap.IsList l WJ)(hn:WJ.size=all.length)(hi:∀(i:Nat) (v:Vl) (k:κ),WJ[i]?=some v->all[i]?=some k->knd.is k v=true/\v.scannable=true)(hb:all.length+1<scanBound) (h:∀(h':Heap) (tk:Nat),h'.SetOf knd s.heap.objs.size (λx=>decide (x∈sQ all)) (sQ all).length->(∀b o,s.heap.get? b=some o->h'.get? b=some o)->Q (.ref s.heap.objs.size) {s with heap:=h',toks:=tk}):
  wpAny (model prog w) A (call (.type "set") [.ref l]) Q E s:=by
 obtain⟨c,tl,ZJ⟩:=fm.mro;have hmade:=fm.made;have Yq:=fm.sub;refine iz (jQ ?_);show wpAny _ _ (callAny (.type "set") _) _ _ _;refine de ⟨iq _ (by decide+kernel),gO lj ?_⟩;rw[kO (j3 "set" [.ref l] []) rfl];have h1:=fm.notType;have h2:=fm.canCreate;have hct:=lL (.ref l)
 repeat (any_goals(first|assumption|wp_step))
 have fresh:∀W9:Bool,(s.heap.push {cls:=.type "set",dict:=none,data:=.set #[] 0 (.fresh 0 0 W9)}).get? s.heap.objs.size=some {cls:=.type "set",dict:=none,data:=.set #[] 0 (.fresh 0 0 W9)}:=λW9=>dA _ rfl;refine gh (code_set_new_1 (.ref l) (E:=E) (Q₁:=λobj s₁=>∃W9:Bool,obj=Value.ref s.heap.objs.size/\s₁={s with heap:=s.heap.push {cls:=.type "set",dict:=none,data:=.set #[] 0 (.fresh 0 0 W9)}}) λW9=>⟨W9,rfl,rfl⟩) λr s₁ hr=>?_;cases r with
 | error e=>exact hr
 | ok fl=>
  cases fl with
  | ret obj=>
   obtain⟨W9,rfl,rfl⟩:=hr;have hS:=fresh W9;have hT:Shared.TypeIs {s with heap:=s.heap.push {cls:=.type "set",dict:=none,data:=.set #[] 0 (.fresh 0 0 W9)}} (.ref s.heap.objs.size) "set":=⟨_,hS,rfl⟩;have hli:=fm.init.lookup;have hbi:=fm.init.bind (.ref s.heap.objs.size)
   repeat (any_goals(first|assumption|wp_step))
   refine gh (iN (R:=wants (λr s₂=>r=.none/\∃h' tk,s₂={s with heap:=h',toks:=tk}/\h'.SetOf knd s.heap.objs.size (λx=>decide (x∈sQ all)) (sQ all).length/\(∀b o,s.heap.get? b=some o->h'.get? b=some o)) E) fm.init.plain lM (lN hT ?_)) λr₂ s₂ ZK=>?_
   .obtain⟨ol,hol,Zh,nl,hdl⟩:=hl;obtain⟨ocls,Ys,odata,X4⟩:=ol;simp only at Zh hdl;subst Zh;subst hdl;have ZL:(s.heap.push {cls:=.type "set",dict:=none,data:=.set #[] 0 (.fresh 0 0 W9)}).get? l=some {cls:=.type "list",dict:=Ys,data:=.seq WJ nl,slots:=X4}:=cW _ hol;have hsls:=D4;have hslf:=AY;have hnd:(Value.type "list"==Value.type "dict")=false:=by decide
    have hl1:(s.heap.push {cls:=.type "set",dict:=none,data:=.set #[] 0 (.fresh 0 0 W9)}).IsList l WJ:=⟨_,ZL,rfl,nl,rfl⟩;unfold Builtin.«set.__init__» noKeywords Builtin.Frozenset.updateFrom;generalize hPI:pyIter=PI
    wp_walk
    subst hPI;refine gT hl1 ?_;refine cR (wpAny_runValue ?_);have lS:l<s.heap.objs.size:=dh hol;have hh3:A.in1.in1.in1.handled=none:=by simp[hh]
    have lI:l≠(s.heap.push {cls:=.type "set",dict:=none,data:=.set #[] 0 (.fresh 0 0 W9)}).objs.size:=by rw[fj];exact dB (fR lS)
    have W:=(kg (prog:=prog) (w:=w) hh3 _ l lI WJ).toS;rw[hn]at W;refine FS W s.heap.objs.size ?hf (λi v k e1 e2=>hi i v k e1 e2) hb all.length 0 _ (by omega) (dS _) ⟨⟨_,dA _ rfl,rfl,rfl⟩,(hl1.push _)⟩ ?h0 ?hR;case hf=>rw[fj];simp only[cY,dz,eQ,fH];exact⟨dB (fk _),gH lS⟩
    case h0=>exact ip ((jb (knd:=knd) W9).setOf (cW _ hS) (by unfold scanBound;omega)) (λ_=>rfl) rfl
    case hR=>intro s' hm Yr;obtain⟨h',g',d',tk',Zy⟩:=s';have eg:g'=s.gens:=hm.gens;have ed:d'=s.drawn:=hm.drawn;have eo:Zy=s.os:=hm.os;subst eg;subst ed;subst eo;refine de ?_;show wpAny _ _ (ret Value.none) _ _ _;refine de ⟨rfl,h',tk',rfl,Yr,λb o e=>?_⟩;have hb:=dh e;refine hm.heap b o ?_ (cW _ (cW _ e));rw[fj];simp only[cY,dz,eQ,fH];exact⟨dB hb,dB (fR hb)⟩
   .cases r₂ with
    | error e=>exact ZK
    | ok fl₂=>
     cases fl₂ with
     | ret r=>
      obtain⟨rfl,h',tk,rfl,Yr,hk'⟩:=ZK
      repeat (any_goals(first|assumption|wp_step))
      exact h _ _ Yr hk'
     | _=>exact ZK.elim
  | _=>exact hr.elim
end
def CU:isSubtype (.type "tuple") (.type "set")=pure false:=by rw[iY];kernel_rfl
def zM:isSubtype (.type "tuple") (.type "frozenset")=pure false:=by rw[iY];kernel_rfl
section
variable {prog:Pg}{w:Wo}{A:Ar}{E:Vl→Sd→Prop}{κ:Type}[DecidableEq κ][BEq κ][LawfulBEq κ]{knd:PySem.KeyKind prog w κ}{s:Sd}
set_option maxHeartbeats 4000000 in
def Br{l:Addr}{WJ:Array Vl}{all:List κ}{Q:Vl->Sd->Prop}(hh:A.handled=none)(hl:s.heap.IsTuple l WJ)(hn:WJ.size=all.length)(hi:∀(i:Nat) (v:Vl) (k:κ),WJ[i]?=some v->all[i]?=some k->knd.is k v=true/\v.scannable=true)(hb:all.length+1<scanBound) (h:∀(h':Heap) (tk:Nat),h'.SetOf knd s.heap.objs.size (λx=>decide (x∈sQ all)) (sQ all).length->(∀b o,s.heap.get? b=some o->h'.get? b=some o)->Q (.ref s.heap.objs.size) {s with heap:=h',toks:=tk}):
  wpAny (model prog w) A (call (.type "set") [.ref l]) Q E s:=by
 obtain⟨c,tl,ZJ⟩:=fm.mro;have hmade:=fm.made;have Yq:=fm.sub;refine iz (jQ ?_);show wpAny _ _ (callAny (.type "set") _) _ _ _;refine de ⟨iq _ (by decide+kernel),gO lj ?_⟩;rw[kO (j3 "set" [.ref l] []) rfl];have h1:=fm.notType;have h2:=fm.canCreate;have hct:=lL (.ref l)
 repeat (any_goals(first|assumption|wp_step))
 have fresh:∀W9:Bool,(s.heap.push {cls:=.type "set",dict:=none,data:=.set #[] 0 (.fresh 0 0 W9)}).get? s.heap.objs.size=some {cls:=.type "set",dict:=none,data:=.set #[] 0 (.fresh 0 0 W9)}:=λW9=>dA _ rfl;refine gh (code_set_new_1 (.ref l) (E:=E) (Q₁:=λobj s₁=>∃W9:Bool,obj=Value.ref s.heap.objs.size/\s₁={s with heap:=s.heap.push {cls:=.type "set",dict:=none,data:=.set #[] 0 (.fresh 0 0 W9)}}) λW9=>⟨W9,rfl,rfl⟩) λr s₁ hr=>?_;cases r with
 | error e=>exact hr
 | ok fl=>
  cases fl with
  | ret obj=>
   obtain⟨W9,rfl,rfl⟩:=hr;have hS:=fresh W9;have hT:Shared.TypeIs {s with heap:=s.heap.push {cls:=.type "set",dict:=none,data:=.set #[] 0 (.fresh 0 0 W9)}} (.ref s.heap.objs.size) "set":=⟨_,hS,rfl⟩;have hli:=fm.init.lookup;have hbi:=fm.init.bind (.ref s.heap.objs.size)
   repeat (any_goals(first|assumption|wp_step))
   refine gh (iN (R:=wants (λr s₂=>r=.none/\∃h' tk,s₂={s with heap:=h',toks:=tk}/\h'.SetOf knd s.heap.objs.size (λx=>decide (x∈sQ all)) (sQ all).length/\(∀b o,s.heap.get? b=some o->h'.get? b=some o)) E) fm.init.plain lM (lN hT ?_)) λr₂ s₂ ZK=>?_
   .obtain⟨ol,hol,Zh,nl,hdl⟩:=hl;obtain⟨ocls,Ys,odata,X4⟩:=ol;simp only at Zh hdl;subst Zh;subst hdl;have ZL:(s.heap.push {cls:=.type "set",dict:=none,data:=.set #[] 0 (.fresh 0 0 W9)}).get? l=some {cls:=.type "tuple",dict:=Ys,data:=.seq WJ nl,slots:=X4}:=cW _ hol;have hsls:=CU;have hslf:=zM;have hnd:(Value.type "tuple"==Value.type "dict")=false:=by decide
    have hl1:(s.heap.push {cls:=.type "set",dict:=none,data:=.set #[] 0 (.fresh 0 0 W9)}).IsTuple l WJ:=⟨_,ZL,rfl,nl,rfl⟩;unfold Builtin.«set.__init__» noKeywords Builtin.Frozenset.updateFrom;generalize hPI:pyIter=PI
    wp_walk
    subst hPI;refine ir hl1 ?_;refine cR (wpAny_runValue ?_);have lS:l<s.heap.objs.size:=dh hol;have hh3:A.in1.in1.in1.handled=none:=by simp[hh]
    have lI:l≠(s.heap.push {cls:=.type "set",dict:=none,data:=.set #[] 0 (.fresh 0 0 W9)}).objs.size:=by rw[fj];exact dB (fR lS)
    have W:=(Walks.tuple (prog:=prog) (w:=w) hh3 _ l lI WJ).toS;rw[hn]at W;refine FS W s.heap.objs.size ?hf (λi v k e1 e2=>hi i v k e1 e2) hb all.length 0 _ (by omega) (dS _) ⟨⟨_,dA _ rfl,rfl,rfl⟩,(hl1.push _)⟩ ?h0 ?hR;case hf=>rw[fj];simp only[cY,dz,eQ,fH];exact⟨dB (fk _),gH lS⟩
    case h0=>exact ip ((jb (knd:=knd) W9).setOf (cW _ hS) (by unfold scanBound;omega)) (λ_=>rfl) rfl
    case hR=>intro s' hm Yr;obtain⟨h',g',d',tk',Zy⟩:=s';have eg:g'=s.gens:=hm.gens;have ed:d'=s.drawn:=hm.drawn;have eo:Zy=s.os:=hm.os;subst eg;subst ed;subst eo;refine de ?_;show wpAny _ _ (ret Value.none) _ _ _;refine de ⟨rfl,h',tk',rfl,Yr,λb o e=>?_⟩;have hb:=dh e;refine hm.heap b o ?_ (cW _ (cW _ e));rw[fj];simp only[cY,dz,eQ,fH];exact⟨dB hb,dB (fR hb)⟩
   .cases r₂ with
    | error e=>exact ZK
    | ok fl₂=>
     cases fl₂ with
     | ret r=>
      obtain⟨rfl,h',tk,rfl,Yr,hk'⟩:=ZK
      repeat (any_goals(first|assumption|wp_step))
      exact h _ _ Yr hk'
     | _=>exact ZK.elim
  | _=>exact hr.elim
end
end L2
namespace HT
open PySem PyProof.Rows
variable {prog:Pg}{w:Wo}{A:Ar}{E:Vl→Sd→Prop}{s:Sd}
def zF{t sl:Addr}{WJ:Array Vl}{vl vu:Vl}{lo hi:Option Int}{Q:Vl->Sd->Prop}(ht:IsTup s.heap t WJ)(hs:s.heap.IsSliceOf sl vl vu .none)(pl:IsPart vl lo)(pu:IsPart vu hi) (hw:sY WJ.size 0 lo=0/\sY WJ.size WJ.size hi=WJ.size) (h:Q (.ref t) s):wpAny (model prog w) A (getItem (.ref t) (.ref sl)) Q E s:=by
 obtain⟨os,ZA,Zc,X1⟩:=id hs;have hTs:s.TypeIs (.ref sl) "slice":=⟨os,ZA,Zc⟩;unfold getItem
 try with_reducible refine eN ?_
 first|refine cR (de ?_)|skip
 refine cR (jk ht.typeIs (by decide) ?_);refine cR (fJ (name:=Str.ofString "__getitem__") ht.typeIs fv (fP fv ht.typeIs kz ?_ (kM _ _)));show wpAny _ _ (Builtin.Tuple.tupleItemsOf (.ref t)>>=_) _ _ s;refine cR (tupleItemsOf_ ht ?_);refine cR (jz hTs ?_);rw[cX (by decide)];refine cR (vV hs pl pu ?_);have yes:(((sY WJ.size 0 lo:Nat):Int)==0&&(1:Int)==1&&(sY WJ.size WJ.size hi - sY WJ.size 0 lo)==WJ.size)=true:=by rw[hw.1,hw.2];simp
 show wpAny _ _ (if (((sY WJ.size 0 lo:Nat):Int)==0&&(1:Int)==1&&(sY WJ.size WJ.size hi - sY WJ.size 0 lo)==WJ.size)=true then _ else _) _ _ s;rw[cX yes];have hT:=ht.typeIs;obtain⟨hp,g,d,tk,o⟩:=s
 repeat (any_goals(first|assumption|wp_step))
 exact⟨_,rfl,de h⟩
end HT
namespace L2
open PySem PySem.Spec PyProof.Rows
variable {X:Cx}{p p2 pos Yt:Pos}{e:Expr}{te:TE}
section
def Vx(K:qr):V->Option Int->Option Int->Hp->VK->Prop:=λx lo hi H Q=>∃a xs,x=.ref a/\uW K H a xs/\(HT.sY xs.length 0 lo=0/\HT.sY xs.length xs.length hi=xs.length)/\Q (.ref a) H
def Sb:Uu X (Vx X.K):=by
 intro WI s σ H x v vl vu lo hi sl Q I rx hs pl pu h;obtain⟨a,xs,rfl,hx,hw,q⟩:=h;cases rx;obtain⟨its,r,ht,hz⟩:=I.tuple hx;have WO:its.toArray.size=xs.length:=by rw[dg];exact r.length.symm
 exact⟨"tuple",_,fv.lookup,ht.typeIs,HT.zF ht hs pl pu (by rw[WO];exact hw) ⟨.ref a,H,I,rfl,q⟩⟩
local instance (priority:=5000) keyBEq:BEq qV:=instBEqOfDecidableEq
local instance (priority:=5000) keyLaw:LawfulBEq qV:=inferInstanceAs (LawfulBEq (Sum Int Str))
def O8(K:qr)(te:TE):TE:=λσ H Q=>te σ H λx H1=>∃a,∃ss:List Str,x=.ref a/\(yX K H1 a (ss.map V.str)\/uW K H1 a (ss.map V.str))/\ss.length+1<scanBound/\Q (.int (sQ ss).length) H1
def GH{P:Pg}{w:Wo}{ss:List Str}{us:List Vl}(r:qz (ss.map V.str) us):us.length=ss.length/\∀(i:Nat) (v:Vl) (k:qV),us[i]?=some v->(ss.map λx=>(Sum.inr x:qV))[i]?=some k->(rm P w).is k v=true/\v.scannable=true:=by
 refine⟨by rw[<-r.length,cQ],λi v k e1 e2=>?_⟩;rw[dq]at e2;cases q:ss[i]? with
 | none=>rw[q]at e2;cases e2
 | some x=>rw[q]at e2;cases e2;obtain⟨u,e3,t,rfl⟩:=r.get (i:=i) (x:=V.str x) (by rw[dq,q];rfl);rw[e3]at e1;cases e1;exact⟨Aj P w x t,rfl⟩
def LD{ss:List Str}:(sQ (ss.map λx=>(Sum.inr x:qV))).length=(sQ ss).length:=by
 have go:∀(l acc:List Str),(l.map λx=>(Sum.inr x:qV)).foldl (λacc k=>if k∈acc then acc else acc++[k]) (acc.map Sum.inr)=(l.foldl (λacc k=>if k∈acc then acc else acc++[k]) acc).map Sum.inr:=by
  intro l;induction l with
  | nil=>intro acc;rfl
  | cons k r ih=>
   intro acc;rw[dP,fS,fS];have hm:(Sum.inr k:qV)∈acc.map Sum.inr↔k∈acc:=by
    rw[dw];constructor
    .rintro ⟨y,h1,h2⟩;cases h2;exact h1
    .exact λh=>⟨k,h,rfl⟩
   by_cases h:k∈acc
   .rw[cX h,cX (hm.mpr h)];exact ih acc
   .rw[cV h,cV λz=>h (hm.mp z)];have:=ih (acc++[k]);rw[dH]at this;exact this
 have:=go ss [];unfold sQ;rw[iM]at this;rw[this,cQ]
def JU(hc:X.calm=true)(he:PE X e te)(hg1:Gl X "len")(WK:X.mg "len"=none)(hg2:Gl X "set")(W1:X.mg "set"=none)(b1:bootBuiltins "len"=some (.builtin "len"))(b2:bootBuiltins "set"=some (.type "set")) (hs:starEach [e] X.env=[(false,eval e X.env)]:=by rfl):PE X (.Call (.Name "len" p) [.Call (.Name "set" p2) [e] [] Yt] [] pos) (O8 X.K te):=by
 intro WI s σ H Q I h;refine fO (wW I hg1 WK b1 ?_);refine gN ?_ rfl rfl;show wpAny _ _ (spliced ((false,eval (.Call (.Name "set" p2) [e] [] Yt) X.env)::backTo pos (starEach [] X.env))) _ _ s;refine ik ?_;refine fO (wW I hg2 W1 b2 ?_);refine fG ?_ hs rfl;rw[hs];show wpAny _ _ (spliced ((false,eval e X.env)::backTo Yt (starEach [] X.env))) _ _ s;refine ik (so (he WI s σ H _ I h) λu s1 ⟨x,H1,I1,r1,a,ss,ex,hq,hb,q⟩=>iD ?_);subst ex;obtain rfl:u=Value.ref a:=r1;have XC:(ss.map λx=>(Sum.inr x:qV)).length+1<scanBound:=by rw[cQ];exact hb
 have WN:∀(h':Heap) (tk:Nat),h'.SetOf (rm X.prog X.w) s1.heap.objs.size (λx=>decide (x∈sQ (ss.map λx=>(Sum.inr x:qV)))) (sQ (ss.map λx=>(Sum.inr x:qV))).length->(∀b o,s1.heap.get? b=some o->h'.get? b=some o)->
   wpAny (model X.prog X.w) X.A (spliced (backTo pos (starEach [] X.env))) (λvs s₁=>wpAny (model X.prog X.w) X.A (call (.builtin "len") (.ref s1.heap.objs.size::vs)) (EP X WI σ Q) X.xe s₁) X.xe {s1 with heap:=h',toks:=tk}:=λh' tk hS keep=>by
  refine iD ?_;obtain⟨o,es,ep,t,ho,hex,hd,_,_,hz,hf,hn⟩:=hS;have WW:(es.size:Int)<2 ^ 63:=by have:scanBound=4096:=rfl;omega
  refine call_len_set ho hex hd hf WW ?_;refine⟨.int es.size,H1,I1.kept keep,⟨_,rfl⟩,?_⟩;rw[hn,LD];exact q
 rcases hq with hq|hq
 .obtain⟨its,r,pl,hz⟩:=I1.list hq;obtain⟨k1,k2⟩:=GH (P:=X.prog) (w:=X.w) r;exact L2.CL (knd:=rm X.prog X.w) (all:=ss.map λx=>(Sum.inr x:qV)) (I1.ok.hd hc) pl.isList (by rw[dg,k1,cQ]) (λi v k e1 e2=>k2 i v k (by simpa using e1) e2) XC WN
 .obtain⟨its,r,pl,hz⟩:=I1.tuple hq;obtain⟨k1,k2⟩:=GH (P:=X.prog) (w:=X.w) r;exact L2.Br (knd:=rm X.prog X.w) (all:=ss.map λx=>(Sum.inr x:qV)) (I1.ok.hd hc) pl (by rw[dg,k1,cQ]) (λi v k e1 e2=>k2 i v k (by simpa using e1) e2) XC WN
end
variable {WI:List (Addr × Obj)}{σ:St}{H:Hp}{s:Sd}
theorem Dt(I:Inv X WI σ H s):∀(ts:List Addr) (kvs:List (qV×V)),ts.length=kvs.length->(∀(j:Nat) (t:Addr) (p:qV×V),ts[j]?=some t->kvs[j]?=some p->uW X.K H t [kV p.1,p.2])->
  ∃(us:List Vl) (all:List (qV×Vl)),us.length=kvs.length/\KV kvs all/\∀(j:Nat) (t:Addr) (p:qV×Vl),ts[j]?=some t->all[j]?=some p->∃u,us[j]?=some u/\s.heap.IsTuple t #[u,p.2]/\(rm X.prog X.w).is p.1 u=true
 | [],[],_,_=>⟨[],[],rfl,.nil,λj t p e=>by simp at e⟩
 | [],_::_,h,_=>by simp at h
 | _::_,[],h,_=>by simp at h
 | t::ts,(k,v)::kvs,h,hq=>by
  obtain⟨us,all,h1,h2,h3⟩:=Dt I ts kvs (by simpa using h) (λj t p e1 e2=>hq (j+1) t p (by simpa using e1) (by simpa using e2));obtain⟨its,r,pl,_⟩:=I.tuple (hq 0 t (k,v) (by simp) (by simp));cases r with
  | cons r1 r2=>
   cases r2 with
   | cons r3 r4=>
    cases r4;rename_i u w;refine⟨u::us,(k,w)::all,by simpa using h1,.cons ⟨rfl,r3⟩ h2,λj t' p e1 e2=>?_⟩;cases j with
    | zero=>
     have e1':t=t':=by simpa using e1
     have YV:(k,w)=p:=by simpa using e2
     subst e1' YV;exact⟨u,by simp,pl,FW r1⟩
    | succ j=>simpa using h3 j t' p (by simpa using e1) (by simpa using e2)
theorem Nv:∀{kvs:List (qV×V)} {all:List (qV×Vl)},KV kvs all->all.map (·.1)=kvs.map (·.1)
 | _,_,.nil=>rfl
 | _,_,.cons r rs=>by rw[dP,dP,Nv rs,r.1]
def Ig(hc:X.calm=true):zD X (.type "dict") (λxs H Q=>∃l,∃ts:List Addr,∃kvs:List (qV×V),xs=[V.ref l]/\yX X.K H l (ts.map V.ref)/\ts.length=kvs.length/\
  (∀(j:Nat) (t:Addr) (p:qV×V),ts[j]?=some t->kvs[j]?=some p->uW X.K H t [kV p.1,p.2])/\(kvs.map (·.1)).Nodup/\∀d,H d=none->Q (.ref d) (upd H d (.dK kvs))):=by
 intro WI s σ H xs us Q I r h;obtain⟨l,ts,kvs,rfl,hl,WO,hq,hnd,q⟩:=h;obtain⟨u,rfl,ru⟩:=yq r;cases ru;obtain⟨its,rv,⟨⟨c1,d1,t1,sl1⟩,n,g1,e1,e2,e3⟩,hz⟩:=I.list hl;simp only at e1 e2 e3;subst e1 e2 e3;obtain⟨ks,all,h1,h2,h3⟩:=Dt I ts kvs WO hq;have la:all.length=kvs.length:=(jf h2).symm;have li:its.length=kvs.length:=by rw[<-rv.length,cQ,WO]
 have zl:all.length<=sizeLine:=by rw[la,<-WO];simpa using hz
 have at_:∀(j:Nat) (p:qV×Vl),all[j]?=some p->∃t,ts[j]?=some t:=λj p e=>by have:=(cS.mp e).1;exact⟨ts[j],cU (by omega)⟩
 refine AZ (knd:=rm X.prog X.w) (all:=all) (λj=>(ks[j]?).getD .none) (λj=>(ts[j]?).getD 0) (I.ok.hd hc) g1 (λj v e=>?_) (by rw[dg,li,la]) (λj p e=>?_) (λj p e=>?_) zl λh' tk hD keep=>?_
 .have e':its[j]?=some v:=by simpa using e
  have hj:=(cS.mp e').1;have hj2:j<ts.length:=by omega
  obtain⟨w,e4,e5⟩:=rv.get (i:=j) (x:=V.ref ts[j]) (by rw[dq,cU hj2];rfl);rw[e']at e4;cases e4;show v=Value.ref ((ts[j]?).getD 0);rw[cU hj2];exact e5
 .obtain⟨t,et⟩:=at_ j p e;obtain⟨u,e4,e5,_⟩:=h3 j t p et e;show s.heap.IsTuple ((ts[j]?).getD 0) #[(ks[j]?).getD .none,p.2];rw[et,e4];exact e5
 .obtain⟨t,et⟩:=at_ j p e;obtain⟨u,e4,_,e6⟩:=h3 j t p et e;show(rm X.prog X.w).is p.1 ((ks[j]?).getD .none)=true;rw[e4];exact e6
 .rw[merged_nil_of_nodup all (by rw[Nv h2];exact hnd)]at hD;have fr:=I.mP.fresh (cZ s.heap.objs.size);exact⟨.ref s.heap.objs.size,_,I.laid (t':=tk) (o:=.dK kvs) keep (cZ _) (Na (by rw[<-la];exact zl) (gq.mpr (dI (dB I.big))) h2 hD),rfl,q _ fr⟩
def VH:R2:=λx y H Q=>∃a v,x=.ref a/\Em H a y (some v)/\Q v H
def OR(hu:X.A.units+1<cLine):SW X VH:=by
 intro value WS WI s σ H x y o i Q I rx ry h hs;obtain⟨a,v,rfl,g,q⟩:=h;obtain rfl:o=Value.ref a:=rx;have hT:=GA I g;have h2:wpAny (model X.prog X.w) X.A (getItem (.ref a) i) (EP X WI σ Q) X.xe s:=Ky hu I g ry λw' s3 I3 YT=>⟨v,H,I3,YT,q⟩;unfold subscriptTail;refine cR ?_;rw[j4 hT.not_modules];refine cR (jR hT jq.lookup ?_);have WN:wpAny (model X.prog X.w) X.A (subscripted WS false (.ref a) i) (λr s₃=>wpAny (model X.prog X.w) X.A (letTemporaryGo value (.ref a) r>>=λ_=>pure r) (EP X WI σ Q) X.xe s₃) X.xe s:=by rw[hs];exact wpAny_operating (dX h2 (λr s₃ h₃=>cR (kh (de h₃))) λ_ _ x=>x)
 first
  | exact de (cR WN)
  | exact cR (de (cR WN))
  | exact cR WN
def Rl(hu:X.A.units+1<cLine):xn X (compareOp .In) (λx y H Q=>∃a o,y=.ref a/\Em H a x o/\Q (.bl o.isSome) H):=by intro WI s σ H x y v u Q I rx ry h;obtain⟨a,o,rfl,g,q⟩:=h;obtain rfl:u=Value.ref a:=ry;exact VB hu I g rx λs3 I3=>⟨.bl o.isSome,H,I3,rfl,q⟩
variable {prog:Pg}{w:Wo}{A:Ar}{E:Vl→Sd→Prop}{a:Addr}{δ:Type}{k:Str}{tk:Tok}
section
variable {R:δ→Vl→Prop}{D:List (Str × δ)}
def yA(T:KTD.TabOf R s.heap a D):s.TypeIs (.ref a) "dict":=let⟨_,o,_,_,ho,hc,_⟩:=T;⟨o,ho,hc.1⟩
def IZ{Q:Option Vl->Sd->Prop}(T:KTD.TabOf R s.heap a D)(h1:∀d v,KTD.datumAt k D=some d->R d v->Q (some v) {s with toks:=s.toks+1})(h2:KTD.datumAt k D=none->Q none {s with toks:=s.toks+1}):
  wpAny (model prog w) A (dictGet a (.str k tk)) Q E s:=by
 obtain⟨_,o,es,ep,ho,hc,hd,hr⟩:=T;have hq:Q (findBy (λk v=>v.isStr k) es k) {s with toks:=s.toks+1}:=by
  have hf:findBy (λk v=>v.isStr k) es k=(es.toList.find? λe=>e.key.isStr k).map (·.val):=by obtain⟨l⟩:=es;simp[findBy]
  rw[hf];cases Zi:KTD.datumAt k D with
  | none=>rw[hr.find_none Zi];exact h2 Zi
  | some d=>obtain⟨v,hv,hfl⟩:=hr.find_some Zi;rw[hv];exact h1 d v Zi hfl
 have XM:(es.all λe=>isExactStrKey e.key)=true:=by
  obtain⟨l⟩:=es
  simpa using hr.exact
 unfold dictGet
 try with_reducible refine eN ?_
 refine cR (lC (cR (KTD.kt_dictFind_strs (s:={s with toks:=s.toks+1}) ho hd XM ?_)));rw[findBy_of_findIdx?]at hq;cases hi:es.findIdx? λe=>e.key.isStr k with
 | none=>rw[hi]at hq;exact de hq
 | some i=>rw[hi]at hq;exact cR (wpAny_dictEntries (s:={s with toks:=s.toks+1}) ho hd (de hq))
def Ru{Q:Vl->Sd->Prop}(T:KTD.TabOf R s.heap a D)(h:Q (.bool (KTD.datumAt k D).isSome) {s with toks:=s.toks+1}):wpAny (model prog w) A (compareOp .In (.str k tk) (.ref a)) Q E s:=by
 have hT:=yA T;show wpAny _ _ (do return .bool (<-contains (.ref a) (.str k tk))) Q E s;refine cR ?_;unfold contains
 try with_reducible refine eN ?_
 refine cR (jR hT jc.lookup ?_);show wpAny _ _ (if (some (Value.builtin "dict.__contains__")==some Value.none)=true then _ else _) _ E s;rw[cV (by rw[beq_builtin_none];exact dn)];refine cR (wpAny_callSpecialUnlessNone?_slot (name:=Str.ofString "__contains__") hT jc (fP jc hT entry_dict_contains ?_ (args_dict_contains _ _)));show wpAny _ _ (dictGet a (.str k tk)>>=_) _ _ s;refine cR (IZ T (λd v ha _=>?_) λhn=>?_)
 .rw[ha]at h;show wpAny _ _ (ret (.bool true)) _ _ _;exact de ⟨_,rfl,fg (de h)⟩
 .rw[hn]at h;show wpAny _ _ (Builtin.Dict.pendingKey? a (.str k tk)>>=_) _ _ _;exact cR (wpAny_pendingKey_other T.1 (de ⟨_,rfl,fg (de h)⟩))
def LW{Q:Vl->Sd->Prop}{d:δ}(T:KTD.TabOf R s.heap a D)(hd:KTD.datumAt k D=some d)(h:∀v,R d v->Q v {s with toks:=s.toks+1}):wpAny (model prog w) A (getItem (.ref a) (.str k tk)) Q E s:=by
 have hT:=yA T;unfold getItem
 try with_reducible refine eN ?_
 refine cR (jk hT (by decide) ?_);refine cR (fJ (name:=Str.ofString "__getitem__") hT ls (fP ls hT entry_dict_getitem ?_ (args_dict_getitem _ _)));show wpAny _ _ (dictGet a (.str k tk)>>=_) _ _ s;refine cR (IZ T (λd' v ha hv=>de ⟨v,rfl,de (h v ?_)⟩) λhn=>?_)
 .rw[hd]at ha;cases ha;exact hv
 .rw[hd]at hn;cases hn
end
def Nm(K:qr)(mg:Str->Option Vl)(x:Str)(F:List (Str×List Str)):Prop:=∃a o es ep,mg x=some (.ref a)/\(a==sysModules)=false/\K.lookup a=some o/\o.ExactDict/\o.data=.dict es ep/\
 KTD.Rows (λ(ss:List Str) v=>∃t,v=Value.ref t/\uW K (λ_=>none) t (ss.map V.str)) es.toList F
variable {x:Str}{F:List (Str × List Str)}
def JI{K:qr}{t:Addr}{xs:List V}{H:Hp}(h:uW K (λ_=>none) t xs):uW K H t xs:=by
 rcases h with(h|⟨o,h⟩)|h
 .cases h
 .cases h
 .exact .inr h
def F2{K:qr}{mg:Str->Option Vl}(T:Nm K mg x F):∃a,mg x=some (.ref a)/\∀h:Heap,K.In h->KTD.TabOf (λ(ss:List Str) v=>∃t,v=Value.ref t/\uW K (λ_=>none) t (ss.map V.str)) h a F:=by obtain⟨a,o,es,ep,h1,h2,h3,h4,h5,h6⟩:=T;exact⟨a,h1,λh hk=>⟨h2,o,es,ep,hk a o h3,h4,h5,h6⟩⟩
def Vm(x:Str):It:=⟨λi _=>i<x.cps.size,λi H v H'=>H'=H/\∃c,x.cps[i]?=some c/\v=.str ⟨#[c]⟩,λi _=>i=x.cps.size⟩
def Gu{P:Pg}{w:Wo}{K:qr}{tg:Expr}{ty:String}{x:Str}{t:Tok}(it:Addr)(W:∀A':Ar,A'.handled=none->Walks P w A' it [it] [it] x.cps.size (SignAt x) (λi h=>h.IsStrIter it ty x t i)) (hself:∀(A:Ar) (i:Nat) (s:Sd) (Q:Vl->Sd->Prop) (E:Vl->Sd->Prop),s.heap.IsStrIter it ty x t i->Q (.ref it) s->wpAny (model P w) A (pyIter (.ref it)) Q E s) (hn:["enumerate","zip","dict_itemiterator","dict_reverseitemiterator","odict_iterator","itertools.zip_longest","itertools.pairwise"].contains ty=false):Gz P w K tg (Vm x) [it] it (λi h=>h.IsStrIter it ty x t i) where
 mem:=by simp
 obj:=λi h st b hb=>by
  obtain rfl:b=it:=by simpa using hb
  obtain⟨o,e,c,d⟩:=st;exact⟨o,e,λv z=>by rw[d]at z;cases z⟩
 keep:=λi h h' st k=>by obtain⟨o,e,r⟩:=st;exact⟨o,k it (by simp) o e,r⟩
 item:=by intro X hP hw hK hc i WI s σ H E I hf st hg;subst hP hw hK;obtain⟨f0,f1,f2,f3,f4,f5⟩:=hf it (by simp);refine(W X.A (I.ok.hd hc)).item i s _ _ hg st λv h' tk hv Xz kp=>?_;obtain⟨c,u,e1,e2⟩:=hv;have I1:Inv X WI σ H {s with heap:=h',toks:=tk}:=I.turned (t':=tk) (λb o hb e=>kp b o (by simpa using hb) e) f0 f1 f3 f4 f5;obtain⟨o,e,cl,d⟩:=id Xz;exact⟨v,rfl,JN (s:={s with heap:=h',toks:=tk}) e cl d hn ⟨.str ⟨#[c]⟩,H,I1,⟨u,e2⟩,⟨rfl,c,e1,rfl⟩,Xz,λb hb=>(hf b hb).1⟩⟩
 done:=by intro X hP hw hK hc i WI s σ H E I hf st hg;subst hP hw hK;obtain⟨f0,f1,f2,f3,f4,f5⟩:=hf it (by simp);obtain rfl:i=x.cps.size:=hg;exact(W X.A (I.ok.hd hc)).done s _ _ st λh' tk kp=>⟨rfl,I.turned (t':=tk) (λb o hb e=>kp b o (by simpa using hb) e) f0 f1 f3 f4 f5⟩
 self:=hself
variable {tg:Expr}
def PM{l:Expr}{tl:TE}(hc:X.calm=true)(hl:PE X l tl):PI X tg l (λσ H R=>tl σ H λx H1=>(∃a,x=.ref a/\(((∃xs,yX X.K H1 a xs)/\R (UK X.K a) H1)\/((∃xs,uW X.K H1 a xs)/\R (U0 X.K a) H1)))\/∃z,x=.str z/\R (Vm z) H1):=by
 intro WI s σ H R I h;refine so (hl WI s σ H _ I h) λv s1 zz=>x5 zz λx H1 I1 r1 q1=>?_;rcases q1 with⟨a,e,q1⟩|⟨z,e,q⟩
 .subst e;cases r1;rcases q1 with⟨⟨xs,hq⟩,q⟩|⟨⟨xs,hq⟩,q⟩
  .obtain⟨its,rv,p,hz⟩:=I1.list hq;refine gT p.isList ?_;refine⟨s1.heap.objs.size,[s1.heap.objs.size],_,_,H1,rfl,I1.kept (t':=s1.toks) λb o e=>cW _ e,Kt a _,⟨_,dA _ rfl,rfl,rfl⟩,λb hb=>?_,q⟩;obtain rfl:b=s1.heap.objs.size:=by simpa using hb
   exact I1.nU (cZ _) (I1.mP.fresh (cZ _))
  .obtain⟨its,rv,p,hz⟩:=I1.tuple hq;refine ir (show s1.heap.IsTuple a its.toArray from p) ?_;refine⟨s1.heap.objs.size,[s1.heap.objs.size],_,_,H1,rfl,I1.kept (t':=s1.toks) λb o e=>cW _ e,Iv a _,⟨_,dA _ rfl,rfl,rfl⟩,λb hb=>?_,q⟩;obtain rfl:b=s1.heap.objs.size:=by simpa using hb
   exact I1.nU (cZ _) (I1.mP.fresh (cZ _))
 .subst e;obtain⟨t,rfl⟩:=r1;have fp:∀b∈[s1.heap.objs.size],AQ X WI H1 b:=λb hb=>by
   obtain rfl:b=s1.heap.objs.size:=by simpa using hb
   exact I1.nU (cZ _) (I1.mP.fresh (cZ _))
  cases ha:z.cps.all (·<128)
  .refine wpAny_pyIter_wide ha ?_;exact⟨s1.heap.objs.size,[s1.heap.objs.size],_,_,H1,rfl,I1.kept (t':=s1.toks) λb o e=>cW _ e,Gu _ (λA' hA=>Walks.strWide hA _ z t) (λA i s Q E st h=>wpAny_pyIter_striter_wide st h) (by decide),⟨_,dA _ rfl,rfl,rfl⟩,fp,q⟩
  .refine wpAny_pyIter_ascii ha ?_;exact⟨s1.heap.objs.size,[s1.heap.objs.size],_,_,H1,rfl,I1.kept (t':=s1.toks) λb o e=>cW _ e,Gu _ (λA' hA=>Walks.strAscii hA _ z t) (λA i s Q E st h=>wpAny_pyIter_striter_ascii st h) (by decide),⟨_,dA _ rfl,rfl,rfl⟩,fp,q⟩
end L2
namespace L2
inductive Bq{α0:Sort u}{α1:Sort v}(p:α0->α1->Prop):Prop
 | mk (a0:α0) (a1:α1) (h:p a0 a1):Bq p
inductive CO{α0:Sort u}{α1:Sort v}{α2:Sort w}(p:α0->α1->α2->Prop):Prop
 | mk (a0:α0) (a1:α1) (a2:α2) (h:p a0 a1 a2):CO p
def x7{α:Sort u}{β:Sort v}{γ:Sort w}{p q r s:α->β->γ->Prop}{C:Prop}(h:CO λa b c=>p a b c/\q a b c/\r a b c/\s a b c)(f:∀a b c,p a b c->q a b c->r a b c->s a b c->C):C:=by obtain⟨a,b,c,h1,h2,h3,h4⟩:=h;exact f a b c h1 h2 h3 h4
def KR{α:Sort u}{β:Sort v}{γ:Sort w}{p q r s s1 s2 s3:α->β->γ->Prop}{C:Prop}(h:CO λa b c=>p a b c/\q a b c/\r a b c/\s a b c/\s1 a b c/\s2 a b c/\s3 a b c)(f:∀a b c,p a b c->q a b c->r a b c->s a b c->s1 a b c->s2 a b c->s3 a b c->C):C:=by obtain⟨a,b,c,h1,h2,h3,h4,h5,h6,h7⟩:=h;exact f a b c h1 h2 h3 h4 h5 h6 h7
inductive CF{α0:Sort u}{α1:Sort v}{α2:Sort w}{α3:Sort u1}(p:α0->α1->α2->α3->Prop):Prop
 | mk (a0:α0) (a1:α1) (a2:α2) (a3:α3) (h:p a0 a1 a2 a3):CF p
inductive F8{α0:Sort u}{α1:Sort v}{α2:Sort w}{α3:Sort u1}{α4:Sort u2}(p:α0->α1->α2->α3->α4->Prop):Prop
 | mk (a0:α0) (a1:α1) (a2:α2) (a3:α3) (a4:α4) (h:p a0 a1 a2 a3 a4):F8 p
inductive IE{α0:Sort u}{α1:Sort v}{α2:Sort w}{α3:Sort u1}{α4:Sort u2}{α5:Sort u3}(p:α0->α1->α2->α3->α4->α5->Prop):Prop
 | mk (a0:α0) (a1:α1) (a2:α2) (a3:α3) (a4:α4) (a5:α5) (h:p a0 a1 a2 a3 a4 a5):IE p
inductive SS{α0:Sort u}{α1:Sort v}{α2:Sort w}{α3:Sort u1}{α4:Sort u2}{α5:Sort u3}{α6:Sort u4}(p:α0->α1->α2->α3->α4->α5->α6->Prop):Prop
 | mk (a0:α0) (a1:α1) (a2:α2) (a3:α3) (a4:α4) (a5:α5) (a6:α6) (h:p a0 a1 a2 a3 a4 a5 a6):SS p
inductive SR{α0:Sort u}{α1:Sort v}{α2:Sort w}{α3:Sort u1}{α4:Sort u2}{α5:Sort u3}{α6:Sort u4}{α7:Sort u5}(p:α0->α1->α2->α3->α4->α5->α6->α7->Prop):Prop
 | mk (a0:α0) (a1:α1) (a2:α2) (a3:α3) (a4:α4) (a5:α5) (a6:α6) (a7:α7) (h:p a0 a1 a2 a3 a4 a5 a6 a7):SR p
inductive UJ{α0:Sort u}{α1:Sort v}{α2:Sort w}{α3:Sort u1}{α4:Sort u2}{α5:Sort u3}{α6:Sort u4}{α7:Sort u5}{α8:Sort u6}(p:α0->α1->α2->α3->α4->α5->α6->α7->α8->Prop):Prop
 | mk (a0:α0) (a1:α1) (a2:α2) (a3:α3) (a4:α4) (a5:α5) (a6:α6) (a7:α7) (a8:α8) (h:p a0 a1 a2 a3 a4 a5 a6 a7 a8):UJ p
inductive Mu{α0:Sort u}{α1:Sort v}{α2:Sort w}{α3:Sort u1}{α4:Sort u2}{α5:Sort u3}{α6:Sort u4}{α7:Sort u5}{α8:Sort u6}{α9:Sort u7}(p:α0->α1->α2->α3->α4->α5->α6->α7->α8->α9->Prop):Prop
 | mk (a0:α0) (a1:α1) (a2:α2) (a3:α3) (a4:α4) (a5:α5) (a6:α6) (a7:α7) (a8:α8) (a9:α9) (h:p a0 a1 a2 a3 a4 a5 a6 a7 a8 a9):Mu p
inductive VP{α0:Sort u}{α1:Sort v}{α2:Sort w}{α3:Sort u1}{α4:Sort u2}{α5:Sort u3}{α6:Sort u4}{α7:Sort u5}{α8:Sort u6}{α9:Sort u7}{α10:Sort u8}(p:α0->α1->α2->α3->α4->α5->α6->α7->α8->α9->α10->Prop):Prop
 | mk (a0:α0) (a1:α1) (a2:α2) (a3:α3) (a4:α4) (a5:α5) (a6:α6) (a7:α7) (a8:α8) (a9:α9) (o9:α10) (h:p a0 a1 a2 a3 a4 a5 a6 a7 a8 a9 o9):VP p
inductive Vv{α0:Sort u}{α1:Sort v}{α2:Sort w}{α3:Sort u1}{α4:Sort u2}{α5:Sort u3}{α6:Sort u4}{α7:Sort u5}{α8:Sort u6}{α9:Sort u7}{α10:Sort u8}{α11:Sort u9}(p:α0->α1->α2->α3->α4->α5->α6->α7->α8->α9->α10->α11->Prop):Prop
 | mk (a0:α0) (a1:α1) (a2:α2) (a3:α3) (a4:α4) (a5:α5) (a6:α6) (a7:α7) (a8:α8) (a9:α9) (o9:α10) (a11:α11) (h:p a0 a1 a2 a3 a4 a5 a6 a7 a8 a9 o9 a11):Vv p
end L2
namespace L2
open PySem
def Ur(a C:Addr)(h:Heap):Prop:=Bq λoe vs=>h.get? a=some oe/\oe.cls=.ref C/\oe.data=.fields vs/\oe.dict=none
end L2
namespace L3
open PySem PySem.Spec PyProof.Rows L2
inductive D where
 | mI|bl (b:Bool)|int (i:Int)|str (x:Str)|tup (ds:List D)|ref (a:Addr)|ty (n:String)
 | rl (ds:List D)
def ON(K:qr)(H:Hp)(a:Addr)(xs:List V):Prop:=(∃o,H a=some (.frz o (.lst xs)))\/
 ∃(o:Obj) (its:Array Vl) (n:Nat),K.lookup a=some o/\o.cls=.type "list"/\o.dict=none/\o.data=.seq its n/\its.size<=sizeLine/\qz xs its.toList
def ON.sq{K:qr}{H:Hp}{a:Addr}{xs:List V}(h:ON K H a xs):yX K H a xs:=by
 rcases h with⟨o,h⟩|h
 .exact .inl (.inr ⟨o,h⟩)
 .exact .inr h
mutual
def rN(K:qr)(H:Hp):D->V->Prop
 | .mI,v=>v=.mI
 | .bl b,v=>v=.bl b
 | .int i,v=>v=.int i
 | .str x,v=>v=.str x
 | .ref a,v=>v=.ref a
 | .ty n,v=>v=.ty n
 | .tup ds,v=>∃a xs,v=.ref a/\uW K H a xs/\qd K H ds xs
 | .rl ds,v=>∃a xs,v=.ref a/\ON K H a xs/\qd K H ds xs
def qd(K:qr)(H:Hp):List D->List V->Prop
 | [],xs=>xs=[]
 | d::ds,xs=>∃x r,xs=x::r/\rN K H d x/\qd K H ds r
end
structure qL(K:qr)(H H':Hp):Prop where
 t:∀a xs,uW K H a xs->uW K H' a xs
 f:∀a o xs,H a=some (.frz o (.lst xs))->H' a=some (.frz o (.lst xs))
def qL.refl{K:qr}{H:Hp}:qL K H H:=⟨λ_ _ h=>h,λ_ _ _ h=>h⟩
def qL.trans{K:qr}{H H1 H2:Hp}(a:qL K H H1)(b:qL K H1 H2):qL K H H2:=⟨λc xs h=>b.t c xs (a.t c xs h),λc o xs h=>b.f c o xs (a.f c o xs h)⟩
def qL.upd{K:qr}{H:Hp}{p:Addr}{o:HO}(h:∀xs,¬Rd H p (.tup xs))(h':∀u xs,H p≠some (.frz u (.lst xs))):qL K H (upd H p o):=⟨λa xs q=>by
 rcases q with q|q
 .have ne:a≠p:=λz=>h xs (z ▸ q);rcases q with q|⟨u,q⟩
  .exact .inl (.inl (by rw[qc ne];exact q))
  .exact .inl (.inr ⟨u,by rw[qc ne];exact q⟩)
 .exact .inr q,λa u xs q=>by
 have ne:a≠p:=λz=>h' u xs (z ▸ q);rw[qc ne];exact q⟩
def qL.new{K:qr}{H:Hp}{p:Addr}{o:HO}(h:H p=none):qL K H (L2.upd H p o):=.upd (λxs q=>by
 rcases q with q|⟨u,q⟩<;>(rw[h]at q;cases q)) λu xs q=>by rw[h]at q;cases q
def ON.mono{K:qr}{H H':Hp}{a:Addr}{xs:List V}(e:qL K H H')(h:ON K H a xs):ON K H' a xs:=by
 rcases h with⟨o,h⟩|h
 .exact .inl ⟨o,e.f a o xs h⟩
 .exact .inr h
mutual
theorem rN.mono{K:qr}{H H':Hp}(e:qL K H H'):∀{d:D} {v:V},rN K H d v->rN K H' d v
 | .mI,_,h=>h
 | .bl _,_,h=>h
 | .int _,_,h=>h
 | .str _,_,h=>h
 | .ref _,_,h=>h
 | .ty _,_,h=>h
 | .tup ds,v,h=>by unfold rN at h ⊢;obtain⟨a,xs,e1,e2,e3⟩:=h;exact⟨a,xs,e1,e.t _ _ e2,qd.mono e e3⟩
 | .rl ds,v,h=>by unfold rN at h ⊢;obtain⟨a,xs,e1,e2,e3⟩:=h;exact⟨a,xs,e1,e2.mono e,qd.mono e e3⟩
theorem qd.mono{K:qr}{H H':Hp}(e:qL K H H'):∀{ds:List D} {xs:List V},qd K H ds xs->qd K H' ds xs
 | [],_,h=>h
 | d::ds,xs,h=>by unfold qd at h ⊢;obtain⟨x,r,e1,e2,e3⟩:=h;exact⟨x,r,e1,rN.mono e e2,qd.mono e e3⟩
end
variable {K:qr}{H H':Hp}
def qd.nil:qd K H [] []:=by unfold qd;rfl
def qd.cons{d:D}{ds:List D}{x:V}{xs:List V}(a:rN K H d x)(b:qd K H ds xs):qd K H (d::ds) (x::xs):=by unfold qd;exact⟨x,xs,rfl,a,b⟩
def qd.inv{d:D}{ds:List D}{xs:List V}(h:qd K H (d::ds) xs):∃x r,xs=x::r/\rN K H d x/\qd K H ds r:=by unfold qd at h;exact h
def qd.nil_inv{xs:List V}(h:qd K H [] xs):xs=[]:=by unfold qd at h;exact h
theorem qd.length:∀{ds:List D} {xs:List V},qd K H ds xs->ds.length=xs.length
 | [],_,h=>by rw[h.nil_inv];rfl
 | d::ds,_,h=>by obtain⟨x,r,rfl,_,e⟩:=h.inv;simp[qd.length e]
theorem qd.get:∀{ds:List D} {xs:List V} {i:Nat} {d:D},qd K H ds xs->ds[i]?=some d->∃x,xs[i]?=some x/\rN K H d x
 | [],_,_,_,_,e=>by simp at e
 | d::ds,_,0,_,h,e=>by obtain⟨x,r,rfl,a,_⟩:=h.inv;simp at e;subst e;exact⟨x,by simp,a⟩
 | d::ds,_,i+1,_,h,e=>by obtain⟨x,r,rfl,_,b⟩:=h.inv;obtain⟨y,e1,e2⟩:=qd.get b (by simpa using e);exact⟨y,by simpa using e1,e2⟩
theorem qd.append:∀{ds es:List D} {xs ys:List V},qd K H ds xs->qd K H es ys->qd K H (ds++es) (xs++ys)
 | [],_,_,_,h,g=>by rw[h.nil_inv];exact g
 | d::ds,_,_,_,h,g=>by obtain⟨x,r,rfl,a,b⟩:=h.inv;exact .cons a (qd.append b g)
theorem qd.take:∀{ds:List D} {xs:List V} (n:Nat),qd K H ds xs->qd K H (ds.take n) (xs.take n)
 | _,_,0,_=>by simp only[List.take_zero];exact .nil
 | [],_,n+1,h=>by rw[h.nil_inv];exact .nil
 | d::ds,_,n+1,h=>by obtain⟨x,r,rfl,a,b⟩:=h.inv;exact .cons a (qd.take n b)
theorem qd.drop:∀{ds:List D} {xs:List V} (n:Nat),qd K H ds xs->qd K H (ds.drop n) (xs.drop n)
 | _,_,0,h=>h
 | [],_,n+1,h=>by rw[h.nil_inv];exact .nil
 | d::ds,_,n+1,h=>by obtain⟨x,r,rfl,a,b⟩:=h.inv;exact qd.drop n b
def qd.snoc{ds:List D}{xs:List V}{d:D}{x:V}(h:qd K H ds xs)(a:rN K H d x):qd K H (ds++[d]) (xs++[x]):=h.append (.cons a .nil)
theorem qd.ints:∀{ns:List Int},qd K H (ns.map D.int) (ns.map V.int)
 | []=>.nil
 | n::r=>.cons (by unfold rN;rfl) qd.ints
def rN.tup{ds:List D}{a:Addr}{xs:List V}(q:uW K H a xs)(h:qd K H ds xs):rN K H (.tup ds) (.ref a):=by unfold rN;exact⟨a,xs,rfl,q,h⟩
def rN.mO{ds:List D}{v:V}(h:rN K H (.tup ds) v):∃a xs,v=.ref a/\uW K H a xs/\qd K H ds xs:=by unfold rN at h;exact h
def rN.mY{ds:List D}{v:V}(h:rN K H (.rl ds) v):∃a xs,v=.ref a/\ON K H a xs/\qd K H ds xs:=by unfold rN at h;exact h
def rN.int{i:Int}:rN K H (.int i) (.int i):=by unfold rN;rfl
def rN.bl{i:Bool}:rN K H (.bl i) (.bl i):=by unfold rN;rfl
def rN.str{i:Str}:rN K H (.str i) (.str i):=by unfold rN;rfl
def rN.ref{i:Addr}:rN K H (.ref i) (.ref i):=by unfold rN;rfl
def rN.mI:rN K H .mI .mI:=by unfold rN;rfl
def rN.int_inv{i:Int}{v:V}(h:rN K H (.int i) v):v=.int i:=by unfold rN at h;exact h
def rN.mK{i:Bool}{v:V}(h:rN K H (.bl i) v):v=.bl i:=by unfold rN at h;exact h
def rN.str_inv{i:Str}{v:V}(h:rN K H (.str i) v):v=.str i:=by unfold rN at h;exact h
def rN.mG{i:Addr}{v:V}(h:rN K H (.ref i) v):v=.ref i:=by unfold rN at h;exact h
def rN.nX{i:String}{v:V}(h:rN K H (.ty i) v):v=.ty i:=by unfold rN at h;exact h
def rN.mJ{v:V}(h:rN K H .mI v):v=.mI:=by unfold rN at h;exact h
inductive uG where
 | lst (ds:List D)
 | ins (C:Addr) (fs:List (Str×D))
 | dk (kvs:List (qV×D))
 | exc (C:Addr)
abbrev Mp:=Addr->Option uG
def pB(M:Mp)(a:Addr)(c:uG):Mp:=λb=>if b=a then some c else M b
def pN{M:Mp}{a:Addr}{c:uG}:pB M a c a=some c:=by unfold pB;rw[cX rfl]
def tW{M:Mp}{a b:Addr}{c:uG}(h:b≠a):pB M a c b=M b:=by unfold pB;rw[cV h]
def rF{M:Mp}{a:Addr}{c d:uG}:pB (pB M a c) a d=pB M a d:=by funext b;unfold pB;split<;>rfl
def SY{M:Mp}{a b:Addr}{c:uG}(h:M a=some c)(h':M b=none):a≠b:=by intro e;subst e;rw[h]at h';cases h'
def B1(K:qr)(H:Hp)(fs:List (Str×D))(vs:List (Str×V)):Prop:=vs.map (·.1)=fs.map (·.1)/\qd K H (fs.map (·.2)) (vs.map (·.2))
def xE(K:qr)(H:Hp)(a:Addr):uG->Prop
 | .lst ds=>∃xs,H a=some (.lst xs)/\qd K H ds xs
 | .ins C fs=>∃dx vs,H a=some (.ins C dx vs)/\Cls K C/\(∀f,f∈fs.map (·.1)->ud K C f)/\B1 K H fs vs
 | .dk kvs=>∃vs,H a=some (.dK vs)/\vs.map (·.1)=kvs.map (·.1)/\qd K H (kvs.map (·.2)) (vs.map (·.2))
 | .exc C=>H a=some (.ext (Ur a C))
def HM(K:qr)(H:Hp)(M:Mp):Prop:=∀a c,M a=some c->xE K H a c
variable {M:Mp}
def B1.mono{fs:List (Str×D)}{vs:List (Str×V)}(e:qL K H H')(h:B1 K H fs vs):B1 K H' fs vs:=⟨h.1,h.2.mono e⟩
def xE.keep{a:Addr}{c:uG}(e:qL K H H')(k:H' a=H a)(h:xE K H a c):xE K H' a c:=by
 cases c with
 | lst ds=>obtain⟨xs,e1,e2⟩:=h;exact⟨xs,by rw[k];exact e1,e2.mono e⟩
 | ins C fs=>obtain⟨dx,vs,e1,c,n,e2⟩:=h;exact⟨dx,vs,by rw[k];exact e1,c,n,e2.mono e⟩
 | dk kvs=>obtain⟨vs,e1,e2,e3⟩:=h;exact⟨vs,by rw[k];exact e1,e2,e3.mono e⟩
 | exc C=>exact k.trans h
def xE.there{a:Addr}{c:uG}(h:xE K H a c):∃o,H a=some o/\(∀xs,¬Rd H a (.tup xs))/\∀u xs,H a≠some (.frz u (.lst xs)):=by
 have go:∀o,H a=some o->(∀xs,o≠.tup xs)->(∀u v,o≠.frz u v)->∃o,H a=some o/\(∀xs,¬Rd H a (.tup xs))/\∀u xs,H a≠some (.frz u (.lst xs)):=λo e n1 n2=>⟨o,e,λxs q=>by
  rcases q with q|⟨u,q⟩
  .rw[e]at q;exact n1 xs (c9 q)
  .rw[e]at q;exact n2 u _ (c9 q),λu xs q=>by rw[e]at q;exact n2 u _ (c9 q)⟩
 cases c with
 | lst ds=>obtain⟨xs,e1,e2⟩:=h;exact go _ e1 (λ_ z=>by cases z) λ_ _ z=>by cases z
 | ins C fs=>obtain⟨dx,vs,e1,e2⟩:=h;exact go _ e1 (λ_ z=>by cases z) λ_ _ z=>by cases z
 | dk kvs=>obtain⟨vs,e1,e2,e3⟩:=h;exact go _ e1 (λ_ z=>by cases z) λ_ _ z=>by cases z
 | exc C=>exact go _ h (λ_ z=>by cases z) λ_ _ z=>by cases z
def HM.fresh(h:HM K H M){p:Addr}(n:H p=none):M p=none:=by
 cases e:M p with
 | none=>rfl
 | some c=>obtain⟨o,q,_⟩:=(h p c e).there;rw[n]at q;cases q
def HM.keep(h:HM K H M)(e:qL K H H')(k:∀a c,M a=some c->H' a=H a):HM K H' M:=λa c q=>(h a c q).keep e (k a c q)
def HM.add(h:HM K H M){p:Addr}{o:HO}(n:H p=none):HM K (upd H p o) M:=h.keep (.new n) λa c q=>by obtain⟨u,e,_⟩:=(h a c q).there;rw[qc (qN e n)]
def HM.new(h:HM K H M){p:Addr}{o:HO}{c:uG}(n:H p=none)(ok:xE K (upd H p o) p c):HM K (upd H p o) (pB M p c):=λa d q=>by
 by_cases e:a=p
 .subst e;rw[pN]at q;cases q;exact ok
 .rw[tW e]at q;exact h.add n a d q
def HM.put(h:HM K H M){p:Addr}{o:HO}{c c0:uG}(e0:M p=some c0)(ok:qL K H (upd H p o)->xE K (upd H p o) p c):HM K (upd H p o) (pB M p c)/\qL K H (upd H p o):=by
 obtain⟨u,eu,nt,nf⟩:=(h p c0 e0).there;have x:qL K H (upd H p o):=.upd nt nf;refine⟨λa d q=>?_,x⟩;by_cases e:a=p
 .subst e;rw[pN]at q;cases q;exact ok x
 .rw[tW e]at q;exact(h a d q).keep x (qc e)
abbrev St:=L2.St
abbrev va:=List (Option D)
abbrev DK:=D->Mp->Prop
abbrev T3:=va->Mp->DK->Prop
abbrev Ap:=va->Mp->(Bool->Mp->Prop)->Prop
abbrev xl:=va->Mp->(List D->Mp->Prop)->Prop
structure F1 where
 nx:va->Mp->Prop
 rt:DK
 bk:va->Mp->Prop:=λ_ _=>False
 ct:va->Mp->Prop:=λ_ _=>False
abbrev xk:=F1->va->Mp->Prop
def zH(K:qr)(H:Hp)(σ:St)(δ:va):Prop:=∀(i:Nat) (d:D),δ[i]?=some (some d)->∃v,σ[i]?=some (some v)/\rN K H d v
def zH.mono{K:qr}{H H':Hp}{σ:St}{δ:va}(e:qL K H H')(h:zH K H σ δ):zH K H' σ δ:=λi d q=>by obtain⟨v,e1,e2⟩:=h i d q;exact⟨v,e1,e2.mono e⟩
def zH.set{K:qr}{H:Hp}{σ:St}{δ:va}{i:Nat}{d:D}{v:V}(h:zH K H σ δ)(hv:rN K H d v)(hi:i<σ.length):zH K H (σ.set i (some v)) (δ.set i (some d)):=λj e q=>by
 by_cases hj:j=i
 .subst hj;rw[fB hi];by_cases hl:j<δ.length
  .rw[fB hl]at q;cases q;exact⟨v,rfl,hv⟩
  .rw[gZ (by simpa using hl)]at q;cases q
 .rw[fA (dI hj)]at q ⊢;exact h j e q
def lo(K:qr)(t:T3):TE:=λσ H Q'=>CO λδ M Q=>zH K H σ δ/\HM K H M/\t δ M Q/\∀v H' d M',rN K H' d v->HM K H' M'->qL K H H'->Q d M'->Q' v H'
def SX(K:qr)(t:Ap):TT:=λσ H Q'=>CO λδ M Q=>zH K H σ δ/\HM K H M/\t δ M Q/\∀b H' M',HM K H' M'->qL K H H'->Q b M'->Q' b H'
def Wm(K:qr)(t:xl):TA:=λσ H Q'=>CO λδ M Q=>zH K H σ δ/\HM K H M/\t δ M Q/\∀vs H' ds M',qd K H' ds vs->HM K H' M'->qL K H H'->Q ds M'->Q' vs H'
def UM(K:qr)(t:xk):TS:=λD' σ H=>CO λδ M D=>zH K H σ δ/\HM K H M/\t D δ M/\(∀σ' H' δ' M',zH K H' σ' δ'->HM K H' M'->qL K H H'->σ'.length=σ.length->D.nx δ' M'->D'.nx σ' H')/\
 (∀v H' d M',rN K H' d v->HM K H' M'->qL K H H'->D.rt d M'->D'.rt v H')/\(∀σ' H' δ' M',zH K H' σ' δ'->HM K H' M'->qL K H H'->σ'.length=σ.length->D.bk δ' M'->D'.bk σ' H')/\
 (∀σ' H' δ' M',zH K H' σ' δ'->HM K H' M'->qL K H H'->σ'.length=σ.length->D.ct δ' M'->D'.ct σ' H')
def E3(X:Cx)(e:Expr)(t:T3):Prop:=PE X e (lo X.K t)
def B3(X:Cx)(e:Expr)(t:Ap):Prop:=PT X e (SX X.K t)
def A3(X:Cx)(es:List Expr)(t:xl):Prop:=PA X es (Wm X.K t)
def S3(X:Cx)(st:Stmt)(t:xk):Prop:=PS X st (UM X.K t)
def Hd(X:Cx)(st:List Stmt)(t:xk):Prop:=Co X st (UM X.K t)
def PE.mono{X:Cx}{e:Expr}{t t':TE}(h:PE X e t)(m:∀σ H Q,t' σ H Q->t σ H Q):PE X e t':=λWI s σ H Q I q=>h WI s σ H Q I (m σ H Q q)
def PT.mono{X:Cx}{e:Expr}{t t':TT}(h:PT X e t)(m:∀σ H Q,t' σ H Q->t σ H Q):PT X e t':=λWI s σ H Q I q=>h WI s σ H Q I (m σ H Q q)
def PA.mono{X:Cx}{e:List Expr}{t t':TA}(h:PA X e t)(m:∀σ H Q,t' σ H Q->t σ H Q):PA X e t':=λpos WI s σ H Q I q=>h pos WI s σ H Q I (m σ H Q q)
def PS.mono{X:Cx}{e:Stmt}{t t':TS}(h:PS X e t)(m:∀D σ H,t' D σ H->t D σ H):PS X e t':=λWI s σ H D I q=>h WI s σ H D I (m D σ H q)
def Co.mono{X:Cx}{e:List Stmt}{t t':TS}(h:Co X e t)(m:∀D σ H,t' D σ H->t D σ H):Co X e t':=λWI s σ H D I q=>h WI s σ H D I (m D σ H q)
def PS.nN{X:Cx}{e:Stmt}{t t':TS}(h:PS X e t)(m:∀D σ H,σ.length=X.N.length->t' D σ H->t D σ H):PS X e t':=λWI s σ H D I q=>h WI s σ H D I (m D σ H I.len q)
def vI{K:qr}{H H1:Hp}{Q':VK}{Q:DK}(x:qL K H H1)(f:∀v H' d M',rN K H' d v->HM K H' M'->qL K H H'->Q d M'->Q' v H'):∀v H' d M',rN K H' d v->HM K H' M'->qL K H1 H'->Q d M'->Q' v H':=
 λv H' d M' a b c e=>f v H' d M' a b (x.trans c) e
variable {X:Cx}{pos:Pos}
def v3(i:Nat):T3:=λδ M Q=>(δ.getD i none).elim False λd=>Q d M
def KF{δ:va}{i:Nat}{P:D->Prop}(h:(δ.getD i none).elim False P):∃d,δ[i]?=some (some d)/\P d:=by
 cases e:δ[i]? with
 | none=>rw[fY,e]at h;exact h.elim
 | some o=>
  rw[fY,e]at h;cases o with
  | none=>exact h.elim
  | some d=>exact⟨d,rfl,h⟩
def QP(i:Nat){x:Str}(h:PE X (.Name x pos) (Hn i)):E3 X (.Name x pos) (v3 i):=PE.mono h λσ H Q' zz=>x7 zz λδ M Q hs hm ht k=>by obtain⟨d,e,q⟩:=KF ht;obtain⟨v,e1,e2⟩:=hs i d e;exact⟨v,e1,k v H d M e2 hm .refl q⟩
def c3(d:D):T3:=λ_ M Q=>Q d M
def pk{i j}:E3 X (.Constant (.int i) j pos) (c3 (.int i)):=PE.mono R7 λσ H Q' zz=>x7 zz λδ M Q hs hm ht k=>k _ H _ M .int hm .refl ht
def w9{i j}:E3 X (.Constant (.bool i) j pos) (c3 (.bl i)):=PE.mono Ux λσ H Q' zz=>x7 zz λδ M Q hs hm ht k=>k _ H _ M .bl hm .refl ht
def pq{i j}:E3 X (.Constant (.str i) j pos) (c3 (.str i)):=PE.mono RO λσ H Q' zz=>x7 zz λδ M Q hs hm ht k=>k _ H _ M .str hm .refl ht
def rQ{j}:E3 X (.Constant .none j pos) (c3 .mI):=PE.mono Ss λσ H Q' zz=>x7 zz λδ M Q hs hm ht k=>k _ H _ M .mI hm .refl ht
def oS(M:Mp)(a:Addr):Option (List D):=match M a with
 | some (.lst ds)=>some ds
 | _=>none
def yG(x:Str)(n:Int):Str:=⟨(List.replicate n.toNat x.cps).foldl (·++·) #[]⟩
def US(op:Operator)(x y:D)(M:Mp)(Q:DK):Prop:=match op,x,y with
 | .Add,.int i,.int j=>Q (.int (i+j)) M
 | .Add,.str i,.str j=>i.length+j.length<=sizeLine/\Q (.str (i++j)) M
 | .Add,.tup i,.tup j=>i≠[]/\i.length+j.length<=sizeLine/\Q (.tup (i++j)) M
 | .Add,.ref a,.ref b=>(oS M a).elim False λi=>(oS M b).elim False λj=>i.length+j.length<=sizeLine/\∀p,M p=none->Q (.ref p) (pB M p (.lst (i++j)))
 | .Add,.rl i,.ref b=>(oS M b).elim False λj=>i.length+j.length<=sizeLine/\∀p,M p=none->Q (.ref p) (pB M p (.lst (i++j)))
 | .Sub,.int i,.int j=>Q (.int (i - j)) M
 | .Mult,.int i,.int j=>C6 i j/\Q (.int (i*j)) M
 | .Mult,.str i,.int j=>(j<4096/\-4096<j/\i.length<4096)/\Q (.str (yG i j)) M
 | .FloorDiv,.int i,.int j=>Ts i j/\Q (.int (i / j)) M
 | .Mod,.int i,.int j=>0<j/\Q (.int (i % j)) M
 | _,_,_=>False
def o3(op:Operator)(ta tb:T3):T3:=λδ M Q=>ta δ M λx M1=>tb δ M1 λy M2=>US op x y M2 Q
def Up(K:qr)(H:Hp)(Q':VK)(Q:DK):Prop:=∀v H' d M',rN K H' d v->HM K H' M'->qL K H H'->Q d M'->Q' v H'
variable {ta tb:T3}
section
def qw{K:qr}{H:Hp}{M:Mp}{a:Addr}{ds:List D}(hm:HM K H M)(h:oS M a=some ds):∃xs,yX K H a xs/\qd K H ds xs/\Rd H a (.lst xs):=by
 unfold oS at h;cases e:M a with
 | none=>rw[e]at h;cases h
 | some c=>
  rw[e]at h;have ok:=hm a c e;cases c with
  | lst es=>cases h;obtain⟨xs,e1,e2⟩:=ok;exact⟨xs,.inl (.inl e1),e2,.inl e1⟩
  | ins _ _=>cases h
  | dk _=>cases h
  | exc _=>cases h
def qX{α:Type}{o:Option α}{P:α->Prop}(h:o.elim False P):∃a,o=some a/\P a:=by
 cases o with
 | none=>exact h.elim
 | some a=>exact⟨a,rfl,h⟩
def Jn:xn X (binaryOp .Add) (λx y H Q=>∃l b xs zs,x=.ref l/\y=.ref b/\yX X.K H l xs/\yX X.K H b zs/\xs.length+zs.length<=sizeLine/\∀p,H p=none->Q (.ref p) (upd H p (.lst (xs++zs)))):=by
 intro WI s σ H x y v u Q I rx ry h;obtain⟨l,b,xs,zs,rfl,rfl,hH,hB,hz,q⟩:=h;cases rx;cases ry;obtain⟨its,r,⟨⟨c1,d1,t1,sl1⟩,n,g1,e1,_,f1⟩,_⟩:=I.list hH;obtain⟨YH,r2,⟨⟨c2,d2,t2,sl2⟩,m,g2,e2,_,f2⟩,_⟩:=I.list hB;simp only at e1 f1 e2 f2;subst e1 f1 e2 f2;have hl:=r.length;have hl2:=r2.length;refine kK ⟨_,g1,rfl⟩ ⟨_,g2,rfl⟩ noFill_list_add seq_list_add PySem.F.slot_list_add PySem.F.entry_list_add (PySem.F.args_list_add_2 _ _) (list_addW l b its.toArray YH.toArray n m d1 d2 sl1 sl2 (by rw[dg,dg];omega)) ⟨g1,g2,?_⟩;have ea:its.toArray++YH.toArray=(its++YH).toArray:=by simp
 rw[ea];exact⟨.ref _,_,I.oJ (t':=s.toks) (r.append r2) (by rw[cT];omega),rfl,q _ I.fresh⟩
def IR(x:Array Nat):∀k,((List.replicate k x).foldl (·++·) #[]:Array Nat).size=k*x.size:=by
 have go:∀(k:Nat) (acc:Array Nat),((List.replicate k x).foldl (·++·) acc).size=acc.size+k*x.size:=by
  intro k;induction k with
  | zero=>intro acc;simp
  | succ k ih=>intro acc;rw[eC,fS,ih,Array.size_append,mq];omega
 intro k;rw[go];simp
def OE:xn X (binaryOp .Mult) (λx y H Q=>∃i j,x=.str i/\y=.int j/\(j<4096/\-4096<j/\i.length<4096)/\Q (.str (yG i j)) H):=by
 intro WI s σ H x y v u Q I rx ry h;obtain⟨i,j,rfl,rfl,⟨h1,h2,h3⟩,q⟩:=h;obtain⟨t,rfl⟩:=rx;obtain⟨t',rfl⟩:=ry;refine PySem.P.mul_str ?_ ?_ ?_ ?_
 .rw[eK (by omega),eK (by omega)];rfl
 .intro h0 _;have:(4096:Int)<=(2 ^ 63 - 1) / j:=by
   have:(4096:Int)*j<=2 ^ 63 - 1:=by omega
   exact(Int.le_ediv_iff_mul_le (by omega)).mpr this
  omega
 .intro h0 _;have hm:i.length*j.toNat<=4096*4096:=j5 (by omega) (by omega);have hz:=dF;unfold Builtin.Str.tooLong;exact eK (by omega)
 .by_cases h0:j<1
  .rw[cX h0];have e:yG i j=Str.empty:=by unfold yG;rw[show j.toNat=0 by omega];rfl
   rw[e]at q;exact⟨by decide,⟨.str Str.empty,H,I.tok _,⟨_,rfl⟩,q⟩⟩
  .rw[cV h0];by_cases hj:(j==1||i.length==0)=true
   .rw[cX hj];have e:yG i j=i:=by
     have hj':j=1\/i.length=0:=by simpa using hj
     unfold yG;rcases hj' with z|z
     .subst z;show(⟨#[]++i.cps⟩:Str)=i;simp
     .have ec:i.cps=#[]:=Array.size_eq_zero_iff.mp z;have er:∀k:Nat,((List.replicate k (#[]:Array Nat)).foldl (·++·) #[]:Array Nat)=#[]:=by
       intro k;induction k with
       | zero=>rfl
       | succ k ih=>rw[eC,fS];simpa using ih
      rw[ec,er,<-ec]
    rw[e]at q;exact⟨.str i,H,I,⟨t,rfl⟩,q⟩
   .rw[cV hj];refine⟨?_,⟨.str _,H,I.tok _,⟨_,rfl⟩,q⟩⟩;have hz:=dF;have hm:j.toNat*i.length<=4096*4096:=j5 (by omega) (by omega);show((List.replicate j.toNat i.cps).foldl (·++·) #[]:Array Nat).size<=_;rw[IR];have Ye:j.toNat*i.cps.size<=4096*4096:=hm;omega
def R3(K:qr)(f:D->D->Mp->DK->Prop):R2:=λvx vy H Q'=>CF λx y M Q=>rN K H x vx/\rN K H y vy/\HM K H M/\f x y M Q/\Up K H Q' Q
def Wu(op:Operator):xn X (binaryOp op) (R3 X.K (US op)):=by
 intro WI s σ H vx vy v u Q' I rx ry h;obtain⟨x,y,M,Q,hx,hy,hm,q,k⟩:=h;unfold US at q;split at q
 .cases hx.int_inv;cases hy.int_inv;exact SO WI s σ H _ _ v u Q' I rx ry ⟨_,_,rfl,rfl,k _ _ _ _ .int hm .refl q⟩
 .cases hx.str_inv;cases hy.str_inv;exact HY WI s σ H _ _ v u Q' I rx ry ⟨_,_,rfl,rfl,q.1,k _ _ _ _ .str hm .refl q.2⟩
 .rename_i i j;obtain⟨q1,q2,q3⟩:=q;obtain⟨a,xs,rfl,ha,Yh⟩:=hx.mO;obtain⟨b,ys,rfl,hb,XC⟩:=hy.mO;have l1:=Yh.length;have l2:=XC.length;refine OP WI s σ H _ _ v u Q' I rx ry ⟨a,b,xs,ys,rfl,rfl,ha,hb,λz=>q1 (by rw[z]at l1;exact gm.mp l1),by omega,λz=>?_,λz p hp=>?_⟩
  .refine k _ _ _ _ (.tup ha ?_) hm .refl q3;rw[z]at XC;have e0:j=[]:=gm.mp (by simpa using XC.length);rw[e0,eU];exact Yh
  .have e:qL X.K H (upd H p (.tup (xs++ys))):=.new hp;exact k _ _ _ _ (.tup (.of qg) ((Yh.append XC).mono e)) (hm.add hp) e q3
 .obtain⟨i,ei,q⟩:=qX q;obtain⟨j,ej,q1,q2⟩:=qX q;cases hx.mG;cases hy.mG;obtain⟨xs,rx',ZM,_⟩:=qw hm ei;obtain⟨ys,ry',hys,_⟩:=qw hm ej;have l1:=ZM.length;have l2:=hys.length;refine Jn WI s σ H _ _ v u Q' I rx ry ⟨_,_,xs,ys,rfl,rfl,rx',ry',by omega,λp hp=>?_⟩;have e:qL X.K H (upd H p (.lst (xs++ys))):=.new hp;exact k _ _ _ _ .ref (hm.new (c:=.lst (i++j)) hp ⟨_,qg,(ZM.append hys).mono e⟩) e (q2 p (hm.fresh hp))
 .obtain⟨j,ej,q1,q2⟩:=qX q;obtain⟨l,xs,rfl,rx',ZM⟩:=hx.mY;cases hy.mG;obtain⟨ys,ry',hys,_⟩:=qw hm ej;have l1:=ZM.length;have l2:=hys.length;refine Jn WI s σ H _ _ v u Q' I rx ry ⟨_,_,xs,ys,rfl,rfl,rx'.sq,ry',by omega,λp hp=>?_⟩;have e:qL X.K H (upd H p (.lst (xs++ys))):=.new hp;exact k _ _ _ _ .ref (hm.new (c:=.lst (_++j)) hp ⟨_,qg,(ZM.append hys).mono e⟩) e (q2 p (hm.fresh hp))
 .cases hx.int_inv;cases hy.int_inv;exact RB WI s σ H _ _ v u Q' I rx ry ⟨_,_,rfl,rfl,k _ _ _ _ .int hm .refl q⟩
 .cases hx.int_inv;cases hy.int_inv;exact Rp WI s σ H _ _ v u Q' I rx ry ⟨_,_,rfl,rfl,q.1,k _ _ _ _ .int hm .refl q.2⟩
 .cases hx.str_inv;cases hy.int_inv;exact OE WI s σ H _ _ v u Q' I rx ry ⟨_,_,rfl,rfl,q.1,k _ _ _ _ .str hm .refl q.2⟩
 .cases hx.int_inv;cases hy.int_inv;exact Pc WI s σ H _ _ v u Q' I rx ry ⟨_,_,rfl,rfl,q.1,k _ _ _ _ .int hm .refl q.2⟩
 .cases hx.int_inv;cases hy.int_inv;exact Sy WI s σ H _ _ v u Q' I rx ry ⟨_,_,rfl,rfl,q.1,k _ _ _ _ .int hm .refl q.2⟩
 .exact q.elim
variable {a b:Expr}
def Hq{f:D->D->Mp->DK->Prop}:∀σ H Q',lo X.K (λδ M Q=>ta δ M λx M1=>tb δ M1 λy M2=>f x y M2 Q) σ H Q'->S5 (R3 X.K f) (lo X.K ta) (lo X.K tb) σ H Q':=λσ H Q' zz=>x7 zz λδ M Q hs hm ht k=>⟨δ,M,_,hs,hm,ht,λv H1 x M1 hx WK e1 q1=>⟨δ,M1,_,hs.mono e1,WK,q1,λu H2 y M2 hy W1 e2 q2=>⟨x,y,M2,Q,hx.mono e2,hy,W1,q2,vI (e1.trans e2) k⟩⟩⟩
def pV{op:Operator}(ha:E3 X a ta)(hb:E3 X b tb):E3 X (.BinOp a op b pos) (o3 op ta tb):=PE.mono (QF (Wu op) ha hb) Hq
end
def sD(f:D->D->Option Bool):List D->List D->Option Bool
 | x::a,y::b=>(f x y).bind λp=>(sD f a b).map λq=>p&&q
 | _,_=>some true
def yd(M:Mp):Nat->D->D->Option Bool
 | 0,_,_=>none
 | n+1,x,y=>match x,y with
  | .mI,.mI=>some true
  | .bl a,.bl b=>some (a==b)
  | .int a,.int b=>some (a==b)
  | .str a,.str b=>some (a==b)
  | .mI,.bl _=>some false
  | .mI,.int _=>some false
  | .mI,.str _=>some false
  | .bl _,.mI=>some false
  | .bl _,.str _=>some false
  | .int _,.mI=>some false
  | .int _,.str _=>some false
  | .str _,.mI=>some false
  | .str _,.bl _=>some false
  | .str _,.int _=>some false
  | .tup a,.tup b=>(sD (yd M n) a b).map λp=>p&&a.length==b.length
  | .ref a,.ref b=>(oS M a).bind λi=>(oS M b).bind λj=>if i.length=j.length then sD (yd M n) i j else some false
  | _,_=>none
variable {WI:List (Addr × Obj)}{σ:St}{s:Sd}
theorem yK{f:D->D->Option Bool}:∀{ds es:List D} {xs:List V} {b:Bool},qd X.K H ds xs->qd X.K H es xs->(∀x y v b,rN X.K H x v->rN X.K H y v->f x y=some b->b=true)->sD f ds es=some b->b=true
 | [],[],_,_,_,_,_,e=>(c9 e).symm
 | [],_::_,_,_,h,g,_,_=>by have h1:=h.length;have h2:=g.length;rw[<-h1]at h2;simp at h2
 | _::_,[],_,_,h,g,_,_=>by have h1:=h.length;have h2:=g.length;rw[<-h1]at h2;simp at h2
 | d::ds,e::es,xs,b,h,g,k,q=>by
  obtain⟨x,r,rfl,h1,h2⟩:=h.inv;obtain⟨x',r',e',g1,g2⟩:=g.inv;cases e';unfold sD at q;cases p1:f d e with
  | none=>rw[p1]at q;cases q
  | some b1=>
   rw[p1]at q;cases p2:sD f ds es with
   | none=>rw[p2]at q;cases q
   | some b2=>rw[p2]at q;have q':(b1&&b2)=b:=c9 q;rw[<-q',k _ _ _ _ h1 g1 p1,yK h2 g2 k p2];rfl
theorem zj(I:Inv X WI σ H s)(hm:HM X.K H M):∀(n:Nat) (x y:D) (v:V) (b:Bool),rN X.K H x v->rN X.K H y v->yd M n x y=some b->b=true
 | 0,_,_,_,_,_,_,e=>by cases e
 | n+1,x,y,v,b,hx,hy,e=>by
  unfold yd at e;split at e
  .exact(c9 e).symm
  .rw[hx.mK]at hy;cases hy.mK;exact(c9 e).symm.trans (by simp)
  .rw[hx.int_inv]at hy;cases hy.int_inv;exact(c9 e).symm.trans (by simp)
  .rw[hx.str_inv]at hy;cases hy.str_inv;exact(c9 e).symm.trans (by simp)
  .rw[hx.mJ]at hy;cases hy.mK
  .rw[hx.mJ]at hy;cases hy.int_inv
  .rw[hx.mJ]at hy;cases hy.str_inv
  .rw[hx.mK]at hy;cases hy.mJ
  .rw[hx.mK]at hy;cases hy.str_inv
  .rw[hx.int_inv]at hy;cases hy.mJ
  .rw[hx.int_inv]at hy;cases hy.str_inv
  .rw[hx.str_inv]at hy;cases hy.mJ
  .rw[hx.str_inv]at hy;cases hy.mK
  .rw[hx.str_inv]at hy;cases hy.int_inv
  .obtain⟨a,xs,rfl,h1,h2⟩:=hx.mO;obtain⟨a',ys,e',g1,g2⟩:=hy.mO;cases e';rw[I.m8 g1 h1]at g2;cases p:sD (yd M n) _ _ with
   | none=>rw[p]at e;cases e
   | some b1=>rw[p]at e;have e':=c9 e;rw[<-e',yK h2 g2 (zj I hm n) p,h2.length,g2.length];simp
  .rw[hx.mG]at hy;cases hy.mG;cases p:oS M _ with
   | none=>rw[p]at e;cases e
   | some i=>rw[p]at e;have e:(if i.length=i.length then sD (yd M n) i i else some false)=some b:=e;rw[cX rfl]at e;obtain⟨xs,_,h2,_⟩:=qw hm p;exact yK h2 h2 (zj I hm n) e
  .cases e
theorem Cs{f:D->D->Option Bool}{A:Ar}:∀{ds es:List D} {xs ys:List V} {us ws:List Vl} {b:Bool},sD f ds es=some b->qd X.K H ds xs->qd X.K H es ys->qz xs us->qz ys ws->
  (∀x y b vx vy u w,f x y=some b->rN X.K H x vx->rN X.K H y vy->qR vx u->qR vy w->SeqAt.EqAt A s u w b)->
  ∃e:Nat->Bool,(∀j (h1:j<us.length) (h2:j<ws.length),SeqAt.EqAt A s us[j] ws[j] (e j))/\(List.range (min us.length ws.length)).all e=b
 | [],es,xs,ys,us,ws,b,q,hx,hy,rx,ry,k=>by
  have e1:=hx.nil_inv;subst e1;cases rx;refine⟨λ_=>true,λj h1=>absurd h1 (by simp),?_⟩;have q':some true=some b:=by cases es<;>exact q
  simpa using(c9 q')
 | d::ds,[],xs,ys,us,ws,b,q,hx,hy,rx,ry,k=>by
  have e1:=hy.nil_inv;subst e1;cases ry;refine⟨λ_=>true,λj _ h2=>absurd h2 (by simp),?_⟩;have q':some true=some b:=q
  simpa using(c9 q')
 | d::ds,e::es,xs,ys,us,ws,b,q,hx,hy,rx,ry,k=>by
  obtain⟨x,r,rfl,h1,h2⟩:=hx.inv;obtain⟨y,r',rfl,g1,g2⟩:=hy.inv;cases rx with
  | cons r1 r2=>
   cases ry with
   | cons t1 t2=>
    unfold sD at q;cases p1:f d e with
    | none=>rw[p1]at q;cases q
    | some b1=>
     rw[p1]at q;cases p2:sD f ds es with
     | none=>rw[p2]at q;cases q
     | some b2=>
      rw[p2]at q;have q':(b1&&b2)=b:=c9 q;obtain⟨e',he,ha⟩:=Cs p2 h2 g2 r2 t2 k;refine⟨λj=>match j with|0=>b1|j+1=>e' j,λj l1 l2=>?_,?_⟩
      .cases j with
       | zero=>exact k _ _ _ _ _ _ _ p1 h1 g1 r1 t1
       | succ j=>exact he j (by simpa using l1) (by simpa using l2)
      .rw[<-q',<-ha];simp only[dZ];rw[Nat.succ_min_succ,List.range_succ_eq_map,eO,jC];rfl
theorem Ey(I:Inv X WI σ H s)(hm:HM X.K H M):∀(n:Nat) (A:Ar) (x y:D) (b:Bool) (vx vy:V) (u w:Vl),A.units+n<cLine->yd M n x y=some b->rN X.K H x vx->rN X.K H y vy->qR vx u->qR vy w->
  SeqAt.RcAt A s u w b/\SeqAt.EqAt A s u w b/\SeqAt.RcNeAt A s u w (!b)
 | 0,_,_,_,_,_,_,_,_,_,e,_,_,_,_=>by cases e
 | n+1,A,x,y,b,vx,vy,u,w,hu,e,hx,hy,rx,ry=>by
  have hu1:A.units<cLine:=by omega
  have hui:A.in1.units+n<cLine:=by show A.units+1+n<cLine;omega
  unfold yd at e;split at e
  .cases hx.mJ;cases hy.mJ;cases rx;cases ry;cases e;exact⟨.none_none,.same _,.none_none⟩
  .cases hx.mK;cases hy.mK;cases rx;cases ry;cases e;exact⟨.bool_bool _ _,.bool_bool _ _,.bool_bool _ _⟩
  .cases hx.int_inv;cases hy.int_inv;obtain⟨t,rfl⟩:=rx;obtain⟨t',rfl⟩:=ry;cases e;exact⟨.int_int _ _ _ _,.int_int _ _ _ _,.int_int _ _ _ _⟩
  .cases hx.str_inv;cases hy.str_inv;obtain⟨t,rfl⟩:=rx;obtain⟨t',rfl⟩:=ry;cases e;exact⟨.str_str _ _ _ _,.str_str _ _ _ _,.str_str _ _ _ _⟩
  .cases hx.mJ;cases hy.mK;cases rx;cases ry;cases e;exact⟨.none_bool _,.none_bool _,.none_bool _⟩
  .cases hx.mJ;cases hy.int_inv;cases rx;obtain⟨t',rfl⟩:=ry;cases e;exact⟨.none_int _ _,.none_int _ _,.none_int _ _⟩
  .cases hx.mJ;cases hy.str_inv;cases rx;obtain⟨t',rfl⟩:=ry;cases e;exact⟨.none_str _ _,.none_str _ _,.none_str _ _⟩
  .cases hx.mK;cases hy.mJ;cases rx;cases ry;cases e;exact⟨.bool_none _,.bool_none _,.bool_none _⟩
  .cases hx.mK;cases hy.str_inv;cases rx;obtain⟨t',rfl⟩:=ry;cases e;exact⟨.bool_str _ _ _,.bool_str _ _ _,.bool_str _ _ _⟩
  .cases hx.int_inv;cases hy.mJ;obtain⟨t,rfl⟩:=rx;cases ry;cases e;exact⟨.int_none _ _,.int_none _ _,.int_none _ _⟩
  .cases hx.int_inv;cases hy.str_inv;obtain⟨t,rfl⟩:=rx;obtain⟨t',rfl⟩:=ry;cases e;exact⟨.int_str _ _ _ _,.int_str _ _ _ _,.int_str _ _ _ _⟩
  .cases hx.str_inv;cases hy.mJ;obtain⟨t,rfl⟩:=rx;cases ry;cases e;exact⟨.str_none _ _,.str_none _ _,.str_none _ _⟩
  .cases hx.str_inv;cases hy.mK;obtain⟨t,rfl⟩:=rx;cases ry;cases e;exact⟨.str_bool _ _ _,.str_bool _ _ _,.str_bool _ _ _⟩
  .cases hx.str_inv;cases hy.int_inv;obtain⟨t,rfl⟩:=rx;obtain⟨t',rfl⟩:=ry;cases e;exact⟨.str_int _ _ _ _,.str_int _ _ _ _,.str_int _ _ _ _⟩
  .rename_i da db;obtain⟨a1,xs,rfl,h1,h2⟩:=hx.mO;obtain⟨a2,ys,rfl,g1,g2⟩:=hy.mO;cases rx;cases ry;obtain⟨us,r1,p1,_⟩:=I.tuple h1;obtain⟨ws,r2,p2,_⟩:=I.tuple g1;cases p:sD (yd M n) da db with
   | none=>rw[p]at e;cases e
   | some b1=>
    have e0:=e;rw[p]at e;have e':(b1&&da.length==db.length)=b:=c9 e;obtain⟨f,hf,ha⟩:=Cs (A:=A.in1) (s:=s) p h2 g2 r1 r2 λx y b vx vy u w q1 q2 q3 q4 q5=>(Ey I hm n A.in1 x y b vx vy u w hui q1 q2 q3 q4 q5).2.1;have hb:((List.range (min us.toArray.size ws.toArray.size)).all f&&us.toArray.size==ws.toArray.size)=b:=by rw[dg,dg,ha,<-e',<-r1.length,<-r2.length,h2.length,g2.length]
    have hf':∀j (l1:j<us.toArray.size) (l2:j<ws.toArray.size),SeqAt.EqAt A.in1 s us.toArray[j] ws.toArray[j] (f j):=λj l1 l2=>by simpa using hf j (by simpa using l1) (by simpa using l2)
    have c1:SeqAt.RcAt A s (.ref a1) (.ref a2) b:=by rw[<-hb];exact .tuples p1 p2 hu1 hf'
    have c3:SeqAt.RcNeAt A s (.ref a1) (.ref a2) (!b):=by have:=SeqAt.RcNeAt.tuples p1 p2 hu1 hf';rw[hb]at this;exact this
    refine⟨c1,?_,c3⟩;by_cases ea:a1=a2
    .subst ea;have:b=true:=zj I hm (n+1) (.tup da) (.tup db) (.ref a1) b hx hy (by unfold yd;exact e0);rw[this];exact .same _
    .exact .of_refs ea c1
  .cases hx.mG;cases hy.mG;cases rx;cases ry;rename_i a1 a2;have e0:=e;cases p:oS M a1 with
   | none=>rw[p]at e;cases e
   | some i=>
    cases p':oS M a2 with
    | none=>rw[p,p']at e;cases e
    | some j=>
     rw[p,p']at e;have e:(if i.length=j.length then sD (yd M n) i j else some false)=some b:=e;obtain⟨xs,q1,h2,_⟩:=qw hm p;obtain⟨ys,q2,g2,_⟩:=qw hm p';obtain⟨us,r1,p1,_⟩:=I.list q1;obtain⟨ws,r2,p2,_⟩:=I.list q2;have WN:SeqAt.RcAt A s (.ref a1) (.ref a2) b/\SeqAt.RcNeAt A s (.ref a1) (.ref a2) (!b):=by
      by_cases hl:i.length=j.length
      .rw[cX hl]at e;obtain⟨f,hf,ha⟩:=Cs (A:=A.in1) (s:=s) e h2 g2 r1 r2 λx y b vx vy u w q1 q2 q3 q4 q5=>(Ey I hm n A.in1 x y b vx vy u w hui q1 q2 q3 q4 q5).2.1;have hsz:us.toArray.size=ws.toArray.size:=by rw[dg,dg,<-r1.length,<-r2.length,<-h2.length,<-g2.length];exact hl
       have hf':∀j (l1:j<us.toArray.size) (l2:j<ws.toArray.size),SeqAt.EqAt A.in1 s us.toArray[j] ws.toArray[j] (f j):=λj l1 l2=>by simpa using hf j (by simpa using l1) (by simpa using l2)
       have hb:(List.range us.toArray.size).all f=b:=by rw[<-ha];rw[dg,dg]at hsz;rw[dg,<-hsz,Nat.min_self]
       rw[<-hb];exact⟨.lists p1.isList p2.isList hsz hu1 hf',.lists p1.isList p2.isList hsz hu1 hf'⟩
      .rw[cV hl]at e;cases e;have hsz:(us.toArray.size != ws.toArray.size)=true:=by
        rw[dg,dg,<-r1.length,<-r2.length,<-h2.length,<-g2.length]
        simpa using hl
       exact⟨.lists_lengths p1.isList p2.isList hsz hu1,.lists_lengths p1.isList p2.isList hsz hu1⟩
     refine⟨WN.1,?_,WN.2⟩;by_cases ea:a1=a2
     .subst ea;have:b=true:=zj I hm (n+1) (.ref a1) (.ref a1) (.ref a1) b .ref .ref (by unfold yd;exact e0);rw[this];exact .same _
     .exact .of_refs ea WN.1
  .cases e
def uQ:D->Bool
 | .mI=>true
 | .bl _=>true
 | .int _=>true
 | .str _=>true
 | _=>false
def NY:D->D->Bool
 | .mI,.mI=>true
 | .bl a,.bl b=>a==b
 | .bl a,.int b=>(if a then 1 else 0)==b
 | .int a,.bl b=>a==(if b then 1 else 0)
 | .int a,.int b=>a==b
 | .str a,.str b=>a==b
 | _,_=>false
def inD(x:D)(ds:List D):Bool:=ds.any λy=>NY y x
def MI(M:Mp):D->Option (List D)
 | .tup ds=>some ds
 | .ref a=>oS M a
 | .rl ds=>some ds
 | _=>none
def Dg(i j:Str):Bool:=!(Builtin.Str.occurrences j i 0 j.length 1).isEmpty
def R5(Yg:Bool)(x y:D)(M:Mp)(Q:DK):Prop:=match x,y with
 | .str i,.str j=>Q (.bl (if Yg then !Dg i j else Dg i j)) M
 | _,_=>(MI M y).elim False λds=>uQ x=true/\ds.all uQ=true/\Q (.bl (if Yg then !inD x ds else inD x ds)) M
def Pq(op:CmpOp)(x y:D)(M:Mp)(Q:DK):Prop:=match op with
 | .Eq=>(yd M 9 x y).elim False λb=>Q (.bl b) M
 | .NotEq=>(yd M 9 x y).elim False λb=>Q (.bl (!b)) M
 | .Lt=>match x,y with|.int i,.int j=>Q (.bl (decide (i<j))) M|_,_=>False
 | .LtE=>match x,y with|.int i,.int j=>Q (.bl (decide (i<=j))) M|_,_=>False
 | .Gt=>match x,y with|.int i,.int j=>Q (.bl (decide (j<i))) M|_,_=>False
 | .GtE=>match x,y with|.int i,.int j=>Q (.bl (decide (j<=i))) M|_,_=>False
 | .Is=>match y with|.mI=>Q (.bl (match x with|.mI=>true|_=>false)) M|_=>False
 | .IsNot=>match y with|.mI=>Q (.bl (match x with|.mI=>false|_=>true)) M|_=>False
 | .In=>R5 false x y M Q
 | .NotIn=>R5 true x y M Q
def k3(op:CmpOp)(ta tb:T3):T3:=λδ M Q=>ta δ M λx M1=>tb δ M1 λy M2=>Pq op x y M2 Q
def zE{d:D}{v:V}(h:rN K H d v)(f:uQ d=true):yt v=true:=by
 cases d with
 | mI=>rw[h.mJ];rfl
 | bl _=>rw[h.mK];rfl
 | int _=>rw[h.int_inv];rfl
 | str _=>rw[h.str_inv];rfl
 | _=>cases f
def JH{d e:D}{v w:V}(h:rN K H d v)(g:rN K H e w)(f:uQ d=true)(f':uQ e=true):NI v w=NY d e:=by
 cases d with
 | mI=>
  rw[h.mJ];cases e with
  | mI=>rw[g.mJ];rfl
  | bl _=>rw[g.mK];rfl
  | int _=>rw[g.int_inv];rfl
  | str _=>rw[g.str_inv];rfl
  | _=>cases f'
 | bl _=>
  rw[h.mK];cases e with
  | mI=>rw[g.mJ];rfl
  | bl _=>rw[g.mK];rfl
  | int _=>rw[g.int_inv];rfl
  | str _=>rw[g.str_inv];rfl
  | _=>cases f'
 | int _=>
  rw[h.int_inv];cases e with
  | mI=>rw[g.mJ];rfl
  | bl _=>rw[g.mK];rfl
  | int _=>rw[g.int_inv];rfl
  | str _=>rw[g.str_inv];rfl
  | _=>cases f'
 | str _=>
  rw[h.str_inv];cases e with
  | mI=>rw[g.mJ];rfl
  | bl _=>rw[g.mK];rfl
  | int _=>rw[g.int_inv];rfl
  | str _=>rw[g.str_inv];rfl
  | _=>cases f'
 | _=>cases f
theorem EC:∀{ds:List D} {xs:List V},qd K H ds xs->ds.all uQ=true->xs.all yt=true
 | [],_,h,_=>by rw[h.nil_inv];rfl
 | d::ds,_,h,f=>by obtain⟨x,r,rfl,h1,h2⟩:=h.inv;rw[eO,dO]at f ⊢;exact⟨zE h1 f.1,EC h2 f.2⟩
theorem LC{e:D}{w:V}(g:rN K H e w)(f':uQ e=true):∀{ds:List D} {xs:List V},qd K H ds xs->ds.all uQ=true->inV w xs=inD e ds
 | [],_,h,_=>by rw[h.nil_inv];rfl
 | d::ds,_,h,f=>by obtain⟨x,r,rfl,h1,h2⟩:=h.inv;rw[eO,dO]at f;show(NI x w||inV w r)=(NY d e||inD e ds);rw[JH h1 g f.1 f',LC g f' h2 f.2]
def ED(hm:HM K H M){y:D}{v:V}{ds:List D}(h:rN K H y v)(q:MI M y=some ds):∃p xs,v=.ref p/\(yX K H p xs\/uW K H p xs)/\qd K H ds xs:=by
 cases y with
 | tup es=>cases q;obtain⟨a,xs,rfl,h1,h2⟩:=h.mO;exact⟨a,xs,rfl,.inr h1,h2⟩
 | ref a=>cases h.mG;obtain⟨xs,h1,h2,_⟩:=qw hm q;exact⟨a,xs,rfl,.inl h1,h2⟩
 | rl es=>cases q;obtain⟨a,xs,rfl,h1,h2⟩:=h.mY;exact⟨a,xs,rfl,.inl h1.sq,h2⟩
 | _=>cases q
variable {c:Expr}{tc:T3}
section
def JZ(op:CmpOp)(hu:X.A.units+9<cLine):xn X (compareOp op) (R3 X.K (Pq op)):=by
 intro WI s σ H vx vy v u Q' I rx ry h;obtain⟨x,y,M,Q,hx,hy,hm,q,k⟩:=h;have bk:∀b,Q (.bl b) M->EP X WI σ Q' (.bool b) s:=λb q=>⟨.bl b,H,I,rfl,k _ _ _ _ .bl hm .refl q⟩;have inn:∀Yg:Bool,((MI M y).elim False λds=>uQ x=true/\ds.all uQ=true/\Q (.bl (if Yg then !inD x ds else inD x ds)) M)->Vq X.K Yg vx vy H Q':=λYg q=>by obtain⟨ds,e,f1,f2,q⟩:=qX q;obtain⟨p,xs,rfl,h1,h2⟩:=ED hm hy e;refine⟨p,xs,rfl,h1,zE hx f1,EC h2 f2,?_⟩;rw[LC hx f1 h2 f2];exact k _ _ _ _ .bl hm .refl q
 cases op with
 | Eq=>obtain⟨b,e,q⟩:=qX q;exact(Ey I hm 9 X.A x y b vx vy v u hu e hx hy rx ry).1 _ _ _ _ (bk b q)
 | NotEq=>obtain⟨b,e,q⟩:=qX q;exact(Ey I hm 9 X.A x y b vx vy v u hu e hx hy rx ry).2.2 _ _ _ _ (bk _ q)
 | Lt=>
  cases x<;>first|exact q.elim|skip
  cases y<;>first|exact q.elim|skip
  cases hx.int_inv;cases hy.int_inv;exact TQ WI s σ H _ _ v u Q' I rx ry ⟨_,_,rfl,rfl,k _ _ _ _ .bl hm .refl q⟩
 | LtE=>
  cases x<;>first|exact q.elim|skip
  cases y<;>first|exact q.elim|skip
  cases hx.int_inv;cases hy.int_inv;exact Uc WI s σ H _ _ v u Q' I rx ry ⟨_,_,rfl,rfl,k _ _ _ _ .bl hm .refl q⟩
 | Gt=>
  cases x<;>first|exact q.elim|skip
  cases y<;>first|exact q.elim|skip
  cases hx.int_inv;cases hy.int_inv;exact TV WI s σ H _ _ v u Q' I rx ry ⟨_,_,rfl,rfl,k _ _ _ _ .bl hm .refl q⟩
 | GtE=>
  cases x<;>first|exact q.elim|skip
  cases y<;>first|exact q.elim|skip
  cases hx.int_inv;cases hy.int_inv;exact Tv WI s σ H _ _ v u Q' I rx ry ⟨_,_,rfl,rfl,k _ _ _ _ .bl hm .refl q⟩
 | Is=>
  cases y<;>first|exact q.elim|skip
  cases hy.mJ;refine RC WI s σ H _ _ v u Q' I rx ry ⟨rfl,k _ _ _ _ ?_ hm .refl q⟩;cases x with
  | mI=>rw[hx.mJ];exact .bl
  | bl _=>rw[hx.mK];exact .bl
  | int _=>rw[hx.int_inv];exact .bl
  | str _=>rw[hx.str_inv];exact .bl
  | tup _=>obtain⟨a,xs,rfl,_⟩:=hx.mO;exact .bl
  | ref _=>rw[hx.mG];exact .bl
  | ty _=>rw[hx.nX];exact .bl
  | rl _=>obtain⟨a,xs,rfl,_⟩:=hx.mY;exact .bl
 | IsNot=>
  cases y<;>first|exact q.elim|skip
  cases hy.mJ;refine Oa WI s σ H _ _ v u Q' I rx ry ⟨rfl,k _ _ _ _ ?_ hm .refl q⟩;cases x with
  | mI=>rw[hx.mJ];exact .bl
  | bl _=>rw[hx.mK];exact .bl
  | int _=>rw[hx.int_inv];exact .bl
  | str _=>rw[hx.str_inv];exact .bl
  | tup _=>obtain⟨a,xs,rfl,_⟩:=hx.mO;exact .bl
  | ref _=>rw[hx.mG];exact .bl
  | ty _=>rw[hx.nX];exact .bl
  | rl _=>obtain⟨a,xs,rfl,_⟩:=hx.mY;exact .bl
 | In=>
  have q:R5 false x y M Q:=q;unfold R5 at q;split at q
  .cases hx.str_inv;cases hy.str_inv;exact Kr WI s σ H _ _ v u Q' I rx ry ⟨_,_,rfl,rfl,k _ _ _ _ .bl hm .refl q⟩
  .exact Kd WI s σ H _ _ v u Q' I rx ry (inn false q)
 | NotIn=>
  have q:R5 true x y M Q:=q;unfold R5 at q;split at q
  .cases hx.str_inv;cases hy.str_inv;exact Fk WI s σ H _ _ v u Q' I rx ry ⟨_,_,rfl,rfl,k _ _ _ _ .bl hm .refl q⟩
  .exact Fu WI s σ H _ _ v u Q' I rx ry (inn true q)
variable {a b:Expr}
def qh{op:CmpOp}(hu:X.A.units+9<cLine)(ha:E3 X a ta)(hb:E3 X b tb)(hm:behindInMarks op b=false:=by first|exact HU _|with_unfolding_all rfl):E3 X (.Compare a [op] [b] pos) (k3 op ta tb):=PE.mono (Jj (JZ op hu) ha hb hm) Hq
def b3(t:T3):Ap:=λδ M Q=>t δ M λd M1=>match d with|.bl c=>Q c M1|_=>False
def vK{e:Expr}{t:T3}(h:E3 X e t)(he:∀Xg,isTrue e X.env Xg=(do let v<-Xg;standAt e.pos;holding [v] (truthy v)):=by intro _;rfl):B3 X e (b3 t):=PT.mono (Sq h he) λσ H Q' zz=>x7 zz λδ M Q hs hm ht k=>
 ⟨δ,M,_,hs,hm,ht,λv H1 d M1 hd WK e1 q1=>by
  cases d with
  | bl c=>exact⟨c,hd.mK,k c H1 M1 WK e1 q1⟩
  | _=>exact q1.elim⟩
def pG{op:CmpOp}(hu:X.A.units+9<cLine)(ha:E3 X a ta)(hb:E3 X b tb)(hm:behindInMarks op b=false:=by first|exact HU _|with_unfolding_all rfl):B3 X (.Compare a [op] [b] pos) (b3 (k3 op ta tb)):=PT.mono (JG (JZ op hu) ha hb hm) λσ H Q' zz=>x7 zz λδ M Q hs hm ht k=>
 Hq σ H _ ⟨δ,M,_,hs,hm,ht,λv H1 d M1 hd WK e1 q1=>by
  cases d with
  | bl c=>exact⟨c,hd.mK,k c H1 M1 WK e1 q1⟩
  | _=>exact q1.elim⟩
end
variable {tA tB:Ap}{rest:List Expr}
section
variable {a b:Expr}
def Pz(t u:Ap):Ap:=λδ M Q=>t δ M λc M1=>if c=true then u δ M1 Q else Q false M1
def Ww(t u:Ap):Ap:=λδ M Q=>t δ M λc M1=>if c=true then Q true M1 else u δ M1 Q
def Tz(t:Ap):Ap:=λδ M Q=>t δ M λc M1=>Q (!c) M1
def W3(X:Cx)(e:Expr)(t:Ap):Prop:=PW X e (SX X.K t)
def PW.mono{X:Cx}{e:Expr}{t t':TT}(h:PW X e t)(m:∀σ H Q,t' σ H Q->t σ H Q):PW X e t':=λwh WI s σ H Q I q=>h wh WI s σ H Q I (m σ H Q q)
def W3.b3{e:Expr}{t:Ap}(h:W3 X e t):B3 X e t:=PW.pt h
def x8(h:B3 X a tA):W3 X (.BoolOp .And [a] pos) tA:=Oq h
def xG(h:B3 X a tA):W3 X (.BoolOp .Or [a] pos) tA:=Q3 h
def yI(ha:B3 X a tA)(hb:W3 X (.BoolOp .And (b::rest) pos) tB):W3 X (.BoolOp .And (a::b::rest) pos) (Pz tA tB):=PW.mono (RI ha hb) λσ H Q' zz=>x7 zz λδ M Q hs hm ht k=>
 ⟨δ,M,_,hs,hm,ht,λc H1 M1 WK e1 q1=>by
  cases c with
  | true=>exact(cX rfl).mpr ⟨δ,M1,Q,hs.mono e1,WK,(cX rfl).mp q1,λb H' M' x1 x2 x3=>k b H' M' x1 (e1.trans x2) x3⟩
  | false=>exact(cV dn).mpr (k false H1 M1 WK e1 ((cV dn).mp q1))⟩
def ym(ha:B3 X a tA)(hb:W3 X (.BoolOp .Or (b::rest) pos) tB):W3 X (.BoolOp .Or (a::b::rest) pos) (Ww tA tB):=PW.mono (UG ha hb) λσ H Q' zz=>x7 zz λδ M Q hs hm ht k=>
 ⟨δ,M,_,hs,hm,ht,λc H1 M1 WK e1 q1=>by
  cases c with
  | true=>exact(cX rfl).mpr (k true H1 M1 WK e1 ((cX rfl).mp q1))
  | false=>exact(cV dn).mpr ⟨δ,M1,Q,hs.mono e1,WK,(cV dn).mp q1,λb H' M' x1 x2 x3=>k b H' M' x1 (e1.trans x2) x3⟩⟩
def yM(ha:B3 X a tA):B3 X (.UnaryOp .Not a pos) (Tz tA):=PT.mono (Ra ha) λσ H Q' zz=>x7 zz λδ M Q hs hm ht k=>⟨δ,M,_,hs,hm,ht,λc H1 M1 WK e1 q1=>k _ H1 M1 WK e1 q1⟩
def T6(ta tb:T3):T3:=λδ M Q=>ta δ M λd M1=>match d with|.bl c=>if c=true then tb δ M1 Q else Q (.bl false) M1|_=>False
def VQ(ta tb:T3):T3:=λδ M Q=>ta δ M λd M1=>match d with|.bl c=>if c=true then Q (.bl true) M1 else tb δ M1 Q|_=>False
def T8(ta:T3):T3:=λδ M Q=>ta δ M λd M1=>match d with|.bl c=>Q (.bl (!c)) M1|_=>False
def sO{op}(h:E3 X a ta):E3 X (.BoolOp op [a] pos) ta:=Rm h
def tj(ha:E3 X a ta)(hb:E3 X (.BoolOp .And (b::rest) pos) tb):E3 X (.BoolOp .And (a::b::rest) pos) (T6 ta tb):=PE.mono (Rz ha hb) λσ H Q' zz=>x7 zz λδ M Q hs hm ht k=>
 ⟨δ,M,_,hs,hm,ht,λv H1 d M1 hd WK e1 q1=>by
  cases d with
  | bl c=>
   refine⟨c,hd.mK,?_⟩;cases c with
   | true=>exact(cX rfl).mpr ⟨δ,M1,Q,hs.mono e1,WK,(cX rfl).mp q1,vI e1 k⟩
   | false=>exact(cV dn).mpr (k _ H1 _ M1 .bl WK e1 ((cV dn).mp q1))
  | _=>exact q1.elim⟩
def JB(ha:E3 X a ta)(hb:E3 X (.BoolOp .Or (b::rest) pos) tb):E3 X (.BoolOp .Or (a::b::rest) pos) (VQ ta tb):=PE.mono (Tn ha hb) λσ H Q' zz=>x7 zz λδ M Q hs hm ht k=>
 ⟨δ,M,_,hs,hm,ht,λv H1 d M1 hd WK e1 q1=>by
  cases d with
  | bl c=>
   refine⟨c,hd.mK,?_⟩;cases c with
   | true=>exact(cX rfl).mpr (k _ H1 _ M1 .bl WK e1 ((cX rfl).mp q1))
   | false=>exact(cV dn).mpr ⟨δ,M1,Q,hs.mono e1,WK,(cV dn).mp q1,vI e1 k⟩
  | _=>exact q1.elim⟩
def RE(ha:E3 X a ta):E3 X (.UnaryOp .Not a pos) (T8 ta):=PE.mono (RJ ha) λσ H Q' zz=>x7 zz λδ M Q hs hm ht k=>
 ⟨δ,M,_,hs,hm,ht,λv H1 d M1 hd WK e1 q1=>by
  cases d with
  | bl c=>exact⟨c,hd.mK,k _ H1 _ M1 .bl WK e1 q1⟩
  | _=>exact q1.elim⟩
def Wx(t:Ap)(ta tb:T3):T3:=λδ M Q=>t δ M λc M1=>if c=true then ta δ M1 Q else tb δ M1 Q
def Qm(hc:B3 X c tA)(ha:E3 X a ta)(hb:E3 X b tb):E3 X (.IfExp c a b pos) (Wx tA ta tb):=PE.mono (ME hc ha hb) λσ H Q' zz=>x7 zz λδ M Q hs hm ht k=>
 ⟨δ,M,_,hs,hm,ht,λc H1 M1 WK e1 q1=>by
  cases c with
  | true=>exact(cX rfl).mpr ⟨δ,M1,Q,hs.mono e1,WK,(cX rfl).mp q1,vI e1 k⟩
  | false=>exact(cV dn).mpr ⟨δ,M1,Q,hs.mono e1,WK,(cV dn).mp q1,vI e1 k⟩⟩
def Vp(x y:D)(M:Mp)(Q:DK):Prop:=match x,y with
 | .tup ds,.int i=>(wn ds i).elim False λd=>Q d M
 | .ref a,.int i=>(oS M a).elim False λds=>(wn ds i).elim False λd=>Q d M
 | .rl ds,.int i=>(wn ds i).elim False λd=>Q d M
 | .str z,.int i=>z.length<=sizeLine/\(wn z.cps.toList i).elim False λc=>Q (.str ⟨#[c]⟩) M
 | _,_=>False
def i3(ta tb:T3):T3:=λδ M Q=>ta δ M λx M1=>tb δ M1 λy M2=>Vp x y M2 Q
def Ec{K:qr}{H:Hp}{ds:List D}{xs:List V}{i:Int}{d:D}(h:qd K H ds xs)(e:wn ds i=some d):∃v,wn xs i=some v/\rN K H d v:=by
 unfold wn at e ⊢;rw[<-h.length];cases q:FX ds.length i with
 | none=>rw[q]at e;cases e
 | some j=>rw[q]at e;exact h.get e
def Wz:SW X (R3 X.K Vp):=by
 intro value WS WI s σ H vx vy v u Q' I rx ry h hs;obtain⟨x,y,M,Q,hx,hy,hm,q,k⟩:=h;unfold Vp at q;split at q
 .obtain⟨d,e,q⟩:=qX q;obtain⟨p,xs,rfl,h1,h2⟩:=hx.mO;cases hy.int_inv;obtain⟨w,e1,e2⟩:=Ec h2 e;exact R1 value WS WI s σ H _ _ v u Q' I rx ry ⟨p,xs,_,w,rfl,rfl,h1,e1,k _ _ _ _ e2 hm .refl q⟩ hs
 .obtain⟨ds,e0,q⟩:=qX q;obtain⟨d,e,q⟩:=qX q;cases hx.mG;cases hy.int_inv;obtain⟨xs,h1,h2,_⟩:=qw hm e0;obtain⟨w,e1,e2⟩:=Ec h2 e;exact Ju value WS WI s σ H _ _ v u Q' I rx ry ⟨_,xs,_,w,rfl,rfl,h1,e1,k _ _ _ _ e2 hm .refl q⟩ hs
 .obtain⟨d,e,q⟩:=qX q;obtain⟨p,xs,rfl,h1,h2⟩:=hx.mY;cases hy.int_inv;obtain⟨w,e1,e2⟩:=Ec h2 e;exact Ju value WS WI s σ H _ _ v u Q' I rx ry ⟨p,xs,_,w,rfl,rfl,h1.sq,e1,k _ _ _ _ e2 hm .refl q⟩ hs
 .obtain⟨q1,q⟩:=q;obtain⟨c,e,q⟩:=qX q;cases hx.str_inv;cases hy.int_inv;exact Q5 value WS WI s σ H _ _ v u Q' I rx ry ⟨_,_,c,rfl,rfl,q1,e,k _ _ _ _ .str hm .refl q⟩ hs
 .exact q.elim
def pI(ha:E3 X a ta)(hb:E3 X b tb)(hs:Ba b:=by exact λ_ _=>rfl):E3 X (.Subscript a b pos) (i3 ta tb):=PE.mono (L7 Wz ha hb hs) Hq
def uM(ds:List D)(lo hi:Option Int):List D:=(ds.drop (HT.sY ds.length 0 lo)).take (HT.sY ds.length ds.length hi - HT.sY ds.length 0 lo)
def FH{K:qr}{H:Hp}{ds:List D}{xs:List V}{l h:Option Int}(q:qd K H ds xs):qd K H (uM ds l h) (B5 xs l h):=by unfold uM B5;rw[q.length];exact(q.drop _).take _
abbrev SU:=va->Mp->(Option Int->Mp->Prop)->Prop
def Wv(K:qr)(t:SU):TO:=λσ H Q'=>CO λδ M Q=>zH K H σ δ/\HM K H M/\t δ M Q/\∀o H' M',HM K H' M'->qL K H H'->Q o M'->Q' o H'
def O3(X:Cx)(e:Option Expr)(t:SU):Prop:=PO X e (Wv X.K t)
def Oj:SU:=λ_ M Q=>Q none M
def Ue(t:T3):SU:=λδ M Q=>t δ M λd M1=>match d with|.int i=>Q (some i) M1|_=>False
def PO.mono{X:Cx}{e:Option Expr}{t t':TO}(h:PO X e t)(m:∀σ H Q,t' σ H Q->t σ H Q):PO X e t':=λWI s σ H Q I q=>h WI s σ H Q I (m σ H Q q)
def sP:O3 X none Oj:=PO.mono P3 λσ H Q' zz=>x7 zz λδ M Q hs hm ht k=>k none H M hm .refl ht
def sL{e:Expr}{t:T3}(h:E3 X e t):O3 X (some e) (Ue t):=PO.mono (Qh h) λσ H Q' zz=>x7 zz λδ M Q hs hm ht k=>
 ⟨δ,M,_,hs,hm,ht,λv H1 d M1 hd WK e1 q1=>by
  cases d with
  | int i=>exact⟨i,hd.int_inv,k (some i) H1 M1 WK e1 q1⟩
  | _=>exact q1.elim⟩
def Wn(x:D)(lo hi:Option Int)(M:Mp)(Q:DK):Prop:=match x with
 | .tup ds=>Q (.tup (uM ds lo hi)) M
 | .ref a=>(oS M a).elim False λds=>∀p,M p=none->Q (.ref p) (pB M p (.lst (uM ds lo hi)))
 | .rl ds=>∀p,M p=none->Q (.ref p) (pB M p (.lst (uM ds lo hi)))
 | _=>False
def s3(te:T3)(tl th:SU):T3:=λδ M Q=>te δ M λx M1=>tl δ M1 λl M2=>th δ M2 λu M3=>Wn x l u M3 Q
def VZ(K:qr):V->Option Int->Option Int->Hp->VK->Prop:=λvx l u H Q'=>CO λx M Q=>rN K H x vx/\HM K H M/\Wn x l u M Q/\Up K H Q' Q
def On{ds:List D}{lo hi:Option Int}(h:HT.sY ds.length 0 lo=0/\HT.sY ds.length ds.length hi=ds.length):uM ds lo hi=ds:=by unfold uM;rw[h.1,h.2,j6,kP,e9]
def VL:Uu X (VZ X.K):=by
 intro WI s σ H vx v vl vu l u sl Q' I rx hsl pl pu h;obtain⟨x,M,Q,hx,hm,q,k⟩:=h;cases x with
 | tup ds=>
  have q2:Q (.tup (uM ds l u)) M:=q;obtain⟨a,xs,rfl,h1,h2⟩:=hx.mO;by_cases q1:HT.sY ds.length 0 l=0/\HT.sY ds.length ds.length u=ds.length
  .rw[On q1]at q2;exact Sb WI s σ H _ v vl vu l u sl Q' I rx hsl pl pu ⟨a,xs,rfl,h1,by rw[<-h2.length];exact q1,k _ _ _ _ hx hm .refl q2⟩
  refine SD WI s σ H _ v vl vu l u sl Q' I rx hsl pl pu ⟨a,xs,rfl,h1,by rw[<-h2.length];exact q1,λp hp=>?_⟩;have e:qL X.K H (upd H p (.tup (B5 xs l u))):=.new hp;exact k _ _ _ _ (.tup (.of qg) ((FH h2).mono e)) (hm.add hp) e q2
 | ref a=>obtain⟨ds,e0,q⟩:=qX q;cases hx.mG;obtain⟨xs,h1,h2,_⟩:=qw hm e0;refine Jp WI s σ H _ v vl vu l u sl Q' I rx hsl pl pu ⟨a,xs,rfl,h1,λp hp=>?_⟩;have e:qL X.K H (upd H p (.lst (B5 xs l u))):=.new hp;exact k _ _ _ _ .ref (hm.new (c:=.lst (uM ds l u)) hp ⟨_,qg,(FH h2).mono e⟩) e (q p (hm.fresh hp))
 | rl ds=>obtain⟨a,xs,rfl,h1,h2⟩:=hx.mY;refine Jp WI s σ H _ v vl vu l u sl Q' I rx hsl pl pu ⟨a,xs,rfl,h1.sq,λp hp=>?_⟩;have e:qL X.K H (upd H p (.lst (B5 xs l u))):=.new hp;exact k _ _ _ _ .ref (hm.new (c:=.lst (uM ds l u)) hp ⟨_,qg,(FH h2).mono e⟩) e (q p (hm.fresh hp))
 | _=>exact q.elim
def rR{e:Expr}{te:T3}{lo hi:Option Expr}{tl th:SU}{p2:Pos}(he:E3 X e te)(hl:O3 X lo tl)(hu:O3 X hi th):E3 X (.Subscript e (.Slice lo hi none p2) pos) (s3 te tl th):=PE.mono (L9 VL he hl hu) λσ H Q' zz=>x7 zz λδ M Q hs hm ht k=>⟨δ,M,_,hs,hm,ht,λv H1 x M1 hx WK e1 q1=>⟨δ,M1,_,hs.mono e1,WK,q1,λl H2 M2 W1 e2 q2=>⟨δ,M2,_,hs.mono (e1.trans e2),W1,q2,λu H3 M3 XG e3 q3=>⟨x,M3,Q,hx.mono (e2.trans e3),XG,q3,vI (e1.trans (e2.trans e3)) k⟩⟩⟩⟩
def wY:xl:=λ_ M Q=>Q [] M
def ve(ta:T3)(tr:xl):xl:=λδ M Q=>ta δ M λx M1=>tr δ M1 λxs M2=>Q (x::xs) M2
def sF:A3 X [] wY:=PA.mono Sg λσ H Q' zz=>x7 zz λδ M Q hs hm ht k=>k [] H [] M .nil hm .refl ht
def pX{e:Expr}{es:List Expr}{te:T3}{t:xl}(ha:E3 X e te)(hr:A3 X es t)(hs:A9 X e es:=by rfl):A3 X (e::es) (ve te t):=PA.mono (NR ha hr hs) λσ H Q' zz=>x7 zz λδ M Q hs hm ht k=>⟨δ,M,_,hs,hm,ht,λv H1 x M1 hx WK e1 q1=>⟨δ,M1,_,hs.mono e1,WK,q1,λvs H2 xs M2 ZM W1 e2 q2=>k _ H2 _ M2 (.cons (hx.mono e2) ZM) W1 (e1.trans e2) q2⟩⟩
def U8(t:xl):T3:=λδ M Q=>t δ M λds M1=>ds.length<=sizeLine/\Q (.tup ds) M1
def S8(t:xl):T3:=λδ M Q=>t δ M λds M1=>ds.length<=sizeLine/\∀p,M1 p=none->Q (.ref p) (pB M1 p (.lst ds))
def pM{x1}{es:List Expr}{t:xl}(h:A3 X es t):E3 X (.Tuple es x1 pos) (U8 t):=PE.mono (Sa h) λσ H Q' zz=>x7 zz λδ M Q hs hm ht k=>
 ⟨δ,M,_,hs,hm,ht,λvs H1 ds M1 X1 WK e1 q1=>⟨by rw[<-X1.length];exact q1.1,λp hp=>by
  have e:qL X.K H1 (upd H1 p (.tup vs)):=.new hp;exact k _ _ _ M1 (.tup (.of qg) (X1.mono e)) (WK.add hp) (e1.trans e) q1.2⟩⟩
def qJ{es:List Expr}{t:xl}(h:A3 X es t):E3 X (.List es pos) (S8 t):=PE.mono (QU h) λσ H Q' zz=>x7 zz λδ M Q hs hm ht k=>
 ⟨δ,M,_,hs,hm,ht,λvs H1 ds M1 X1 WK e1 q1=>⟨by rw[<-X1.length];exact q1.1,λp hp=>by
  have e:qL X.K H1 (upd H1 p (.lst vs)):=.new hp;exact k _ _ _ _ .ref (WK.new (c:=.lst ds) hp ⟨_,qg,X1.mono e⟩) (e1.trans e) (q1.2 p (WK.fresh hp))⟩⟩
def uw(t u:xk):xk:=λD δ M=>t {D with nx:=u D} δ M
def Wh:xk:=λD δ M=>D.nx δ M
def pH:Hd X [] Wh:=Co.mono OF λD' σ H zz=>KR zz λδ M D hs hm ht k1 k2 k3 k4=>k1 σ H δ M hs hm .refl rfl ht
def pb{st:Stmt}{rest:List Stmt}{t u:xk}(h1:S3 X st t)(h2:Hd X rest u):Hd X (st::rest) (uw t u):=Co.mono (Me h1 h2) λD' σ H zz=>KR zz λδ M D hs hm ht k1 k2 k3 k4=>
 ⟨δ,M,{D with nx:=u D},hs,hm,ht,λσ1 H1 δ1 M1 ZN WK e1 l1 q1=>⟨δ1,M1,D,ZN,WK,q1,λσ' H' δ' M' x1 x2 x3 x4 x5=>k1 σ' H' δ' M' x1 x2 (e1.trans x3) (x4.trans l1) x5,λv H' d M' x1 x2 x3 x4=>k2 v H' d M' x1 x2 (e1.trans x3) x4,λσ' H' δ' M' x1 x2 x3 x4 x5=>k3 σ' H' δ' M' x1 x2 (e1.trans x3) (x4.trans l1) x5,λσ' H' δ' M' x1 x2 x3 x4 x5=>k4 σ' H' δ' M' x1 x2 (e1.trans x3) (x4.trans l1) x5⟩,k2,k3,k4⟩
def pj{st:Stmt}{t:xk}(h1:S3 X st t):Hd X [st] t:=Co.mono (JM h1) λD' σ H h=>h
def Qu(te:T3):xk:=λD δ M=>te δ M λ_ M1=>D.nx δ M1
def pL{e:Expr}{te:T3}(he:E3 X e te)(Xw:swapsWith e none pos.line X.env=pure false:=by rfl):S3 X (.Expr e pos) (Qu te):=PS.mono (Ox he Xw) λD' σ H zz=>KR zz λδ M D hs hm ht k1 k2 k3 k4=>⟨δ,M,_,hs,hm,ht,λv H1 d M1 hd WK e1 q1=>k1 σ H1 δ M1 (hs.mono e1) WK e1 rfl q1⟩
def QZ(te:T3):xk:=λD δ M=>te δ M D.rt
def pD{e:Expr}{te:T3}(he:E3 X e te):S3 X (.Return (some e) pos) (QZ te):=PS.mono (Q2 he) λD' σ H zz=>KR zz λδ M D hs hm ht k1 k2 k3 k4=>⟨δ,M,_,hs,hm,ht,λv H1 d M1 hd WK e1 q1=>k2 v H1 d M1 hd WK e1 q1⟩
def RH(c:Ap)(t u:xk):xk:=λD δ M=>c δ M λb M1=>if b=true then t D δ M1 else u D δ M1
def pP{c:Expr}{as bs:List Stmt}{tc:Ap}{t u:xk}(hc:B3 X c tc)(ha:Hd X as t)(hb:Hd X bs u):S3 X (.If c as bs pos) (RH tc t u):=PS.mono (Ta hc ha hb) λD' σ H zz=>KR zz λδ M D hs hm ht k1 k2 k3 k4=>
 ⟨δ,M,_,hs,hm,ht,λb H1 M1 WK e1 q1=>by
  have up:∀t:xk,t D δ M1->UM X.K t D' σ H1:=λt q=>⟨δ,M1,D,hs.mono e1,WK,q,λσ' H' δ' M' x1 x2 x3 x4 x5=>k1 σ' H' δ' M' x1 x2 (e1.trans x3) x4 x5,λv H' d M' x1 x2 x3 x4=>k2 v H' d M' x1 x2 (e1.trans x3) x4,λσ' H' δ' M' x1 x2 x3 x4 x5=>k3 σ' H' δ' M' x1 x2 (e1.trans x3) x4 x5,λσ' H' δ' M' x1 x2 x3 x4 x5=>k4 σ' H' δ' M' x1 x2 (e1.trans x3) x4 x5⟩
  cases b with
  | true=>exact(cX rfl).mpr (up t ((cX rfl).mp q1))
  | false=>exact(cV dn).mpr (up u ((cV dn).mp q1))⟩
def R9:xk:=λ_ _ _=>False
def FO{st:Stmt}:S3 X st R9:=PS.mono MT λD' σ H ⟨δ,M,D,hs,hm,ht,_⟩=>ht
abbrev DI:=D->va->Mp->(va->Mp->Prop)->Prop
def UP(K:qr)(g:DI):TG:=λv σ H Q'=>CF λd δ M Q=>rN K H d v/\zH K H σ δ/\HM K H M/\g d δ M Q/\∀σ' H' δ' M',zH K H' σ' δ'->HM K H' M'->qL K H H'->σ'.length=σ.length->Q δ' M'->Q' σ' H'
def G3(X:Cx)(e:Expr)(g:DI):Prop:=PG X e (UP X.K g)
def PG.nN{X:Cx}{e:Expr}{t t':TG}(h:PG X e t)(m:∀v σ H Q,σ.length=X.N.length->t' v σ H Q->t v σ H Q):PG X e t':=λWI s σ H v u Q I r q=>h WI s σ H v u Q I r (m v σ H Q I.len q)
def ue(i:Nat):DI:=λd δ M Q=>Q (δ.set i (some d)) M
def Js{i:Nat}{x:Str}(hN:X.N.Nodup)(hi:X.N[i]?=some x)(hx:KW X.env.scope x)(hf:KS X x:=by first|exact .inl rfl|exact .inr rfl|assumption):G3 X (.Name x pos) (ue i):=
 PG.nN (OO hN hi hx hf) λv σ H Q' hl ⟨d,δ,M,Q,hd,hs,hm,ht,k⟩=>k _ H _ M (hs.set hd (by rw[hl];exact(cS.mp hi).1)) hm .refl (by simp) ht
abbrev FV:=List D->va->Mp->(va->Mp->Prop)->Prop
def VI(K:qr)(g:FV):Oo:=λvs σ H Q'=>CF λds δ M Q=>qd K H ds vs/\zH K H σ δ/\HM K H M/\g ds δ M Q/\∀σ' H' δ' M',zH K H' σ' δ'->HM K H' M'->qL K H H'->σ'.length=σ.length->Q δ' M'->Q' σ' H'
def UT(X:Cx)(es:List Expr)(g:FV):Prop:=NG X es (VI X.K g)
def NG.mono{X:Cx}{e:List Expr}{t t':Oo}(h:NG X e t)(m:∀v σ H Q,t' v σ H Q->t v σ H Q):NG X e t':=λWI s σ H v u Q I r q=>h WI s σ H v u Q I r (m v σ H Q q)
def PG.mono{X:Cx}{e:Expr}{t t':TG}(h:PG X e t)(m:∀v σ H Q,t' v σ H Q->t v σ H Q):PG X e t':=λWI s σ H v u Q I r q=>h WI s σ H v u Q I r (m v σ H Q q)
def MK:FV:=λds δ M Q=>match ds with|[]=>Q δ M|_=>False
def Ff(t:DI)(u:FV):FV:=λds δ M Q=>match ds with|d::r=>t d δ M λδ' M'=>u r δ' M' Q|[]=>False
def tZ:UT X [] MK:=NG.mono O5 λvs σ H Q' ⟨ds,δ,M,Q,hd,hs,hm,ht,k⟩=>by
 cases ds with
 | nil=>exact⟨hd.nil_inv,k σ H δ M hs hm .refl rfl ht⟩
 | cons _ _=>exact ht.elim
def qB{e:Expr}{es:List Expr}{t:DI}{u:FV}(h1:G3 X e t)(h2:UT X es u)(hs:(assignEach (e::es) X.env).map (·.2)=assign e X.env::(assignEach es X.env).map (·.2):=by rfl):UT X (e::es) (Ff t u):=
 NG.mono (Nu h1 h2 hs) λvs σ H Q' ⟨ds,δ,M,Q,hd,hs,hm,ht,k⟩=>by
 cases ds with
 | nil=>exact ht.elim
 | cons d r=>obtain⟨x,xr,rfl,hx,hr⟩:=hd.inv;exact⟨x,xr,rfl,d,δ,M,_,hx,hs,hm,ht,λσ1 H1 δ1 M1 ZN WK e1 l1 q1=>⟨r,δ1,M1,Q,hr.mono e1,ZN,WK,q1,λσ' H' δ' M' x1 x2 x3 x4 x5=>k σ' H' δ' M' x1 x2 (e1.trans x3) (x4.trans l1) x5⟩⟩
def QA(n:Nat)(t:FV):DI:=λd δ M Q=>match d with|.tup ds=>ds.length=n/\t ds δ M Q|_=>False
def uL{es:List Expr}{k:Nat}{t:FV}{n:Nat}(hc:X.calm=true)(h:UT X es t)(hn:(assignEach es X.env).length=n:=by rfl)(W7:(assignEach es X.env).findIdx? (·.1)=none:=by rfl):G3 X (.Tuple es k pos) (QA n t):=
 PG.mono (RT hc h hn W7) λv σ H Q' ⟨d,δ,M,Q,hd,hs,hm,ht,k⟩=>by
 cases d with
 | tup ds=>obtain⟨a,xs,rfl,h1,h2⟩:=hd.mO;exact⟨a,xs,rfl,h1,by rw[<-h2.length];exact ht.1,ds,δ,M,Q,h2,hs,hm,ht.2,k⟩
 | _=>exact ht.elim
def Gk(te:T3)(g:DI):xk:=λD δ M=>te δ M λx M1=>g x δ M1 D.nx
def QS{tg e:Expr}{te:T3}{g:DI}(he:E3 X e te)(hg:G3 X tg g)(hs:swapsWithSole [tg] e pos.line X.env=pure false:=by rfl)(hw:swappedStores [tg] e X.env=pure none:=by rfl)
  (h1:(assignEach [tg] X.env).map (·.2)=[assign tg X.env]:=by rfl):S3 X (.Assign [tg] e pos) (Gk te g):=PS.mono (Q6 he hg hs hw h1) λD' σ H zz=>KR zz λδ M D hs hm ht k1 k2 k3 k4=>
 ⟨δ,M,_,hs,hm,ht,λv H1 d M1 hd WK e1 q1=>⟨d,δ,M1,_,hd,hs.mono e1,WK,q1,λσ' H' δ' M' x1 x2 x3 x4 x5=>k1 σ' H' δ' M' x1 x2 (e1.trans x3) x4 x5⟩⟩
def Sn{i:Nat}{x:Str}{e:Expr}{te:T3}{WQ:Pos}(hN:X.N.Nodup)(hi:X.N[i]?=some x)(hx:KW X.env.scope x)(he:E3 X e te)(Xw:swapsWith e (some (.Name x WQ)) pos.line X.env=pure false:=by rfl)
  (hf:KS X x:=by first|exact .inl rfl|exact .inr rfl|assumption):S3 X (.Assign [.Name x WQ] e pos) (Gk te (ue i)):=PS.nN (Sw hN hi hx he Xw hf) λD' σ H hl zz=>KR zz λδ M D hs hm ht k1 k2 k3 k4=>
 ⟨δ,M,_,hs,hm,ht,λv H1 d M1 hd WK e1 q1=>k1 _ H1 _ M1 ((hs.mono e1).set hd (by rw[hl];exact(cS.mp hi).1)) WK e1 (by simp) q1⟩
end
abbrev rb:=List D->Mp->DK->Prop
def NJ(K:qr)(sp:rb):Sp:=λvs H Q' _=>CO λds M Q=>qd K H ds vs/\HM K H M/\sp ds M Q/\Up K H Q' Q
def wA(N:List Str)(ds:List D):va:=ds.map some++List.replicate (N.length - ds.length) none
def DL{K:qr}{H:Hp}{N:List Str}{ds:List D}{vs:List V}(h:qd K H ds vs):zH K H (L2.yp N vs) (wA N ds):=λi d q=>by
 unfold wA at q;unfold L2.yp;by_cases hi:i<ds.length
 .rw[eJ (by simpa using hi),dq]at q;cases e:ds[i]? with
  | none=>rw[e]at q;cases q
  | some d'=>rw[e]at q;cases q;obtain⟨v,e1,e2⟩:=h.get e;refine⟨v,?_,e2⟩;rw[eJ (by rw[cQ,<-h.length];exact hi),dq,e1];rfl
 .rw[eF (by simpa using hi),jK]at q;split at q<;>cases q
variable {P:Pg}{w:Wo}{mg:Str→Option Vl}{base:Heap}
abbrev SV(P:Pg)(w:Wo)(K:qr)(mg:Str->Option Vl)(base:Heap)(k:Nat)(f:Addr)(fd:FuncData)(ps:List Str)(sp:rb):Prop:=xh P w K mg base NH k f fd ps (NJ K sp)
variable {k:Nat}{f C:Addr}{fd:FuncData}{ps:List Str}{sp:rb}{x m fn:Str}{p WL:Pos}{e o:Expr}{es:List Expr}{t:xl}
def DT(sp:rb)(t:xl):T3:=λδ M Q=>t δ M λds M1=>sp ds M1 Q
def PL(F:SV X.prog X.w X.K X.mg X.base k f fd ps sp)(hr:rS k X.A)(hg:Gl X x)(hm:X.mg x=some (.ref f))(hk:W.keepIn X.K (.ref f)=true)(hb:uK X.K fd ps [])(ha:A3 X (e::es) t) (W2:zG x:=by decide) (he:A9 X e es:=by rfl) (WY:CC X pos es:=by rfl):
  E3 X (.Call (.Name x p) (e::es) [] pos) (DT sp t):=PE.mono (NW F hr hg hm hk hb .nil (GK (X:=X)) ha W2 he WY) λσ H Q' zz=>x7 zz λδ M Q hs hm ht k=>
 ⟨δ,M,_,hs,hm,ht,λvs H1 ds M1 hd WK e1 q1=>⟨ds,M1,Q,by rw[eU];exact hd,WK,q1,vI e1 k⟩⟩
def C3(X:Cx)(f:Vl)(r:rb):Prop:=zD X f λvs H Q'=>∃ds M Q,qd X.K H ds vs/\HM X.K H M/\r ds M Q/\Up X.K H Q' Q
def pQ{id:String}{r:rb}(hc:C3 X (.builtin id) r)(hg:Gl X x)(hm:X.mg x=none)(hv:bootBuiltins x=some (.builtin id))(ha:A3 X (e::es) t)(hn:x≠"__name__":=by decide)(W2:zG x:=by decide)
  (he:A9 X e es:=by rfl) (WY:CC X pos es:=by rfl):E3 X (.Call (.Name x p) (e::es) [] pos) (DT r t):=
 PE.mono (MZ hc hg hm hv ha hn W2 he WY) λσ H Q' zz=>x7 zz λδ M Q hs hm ht k=>⟨δ,M,_,hs,hm,ht,λvs H1 ds M1 hd WK e1 q1=>⟨ds,M1,Q,hd,WK,q1,vI e1 k⟩⟩
def pW{T:String}{r:rb}(hc:C3 X (.type T) r)(hg:Gl X x)(hm:X.mg x=none)(hv:bootBuiltins x=some (.type T))(ha:A3 X (e::es) t)(hn:x≠"__name__":=by decide)(W2:zG x:=by decide)
  (he:A9 X e es:=by rfl) (WY:CC X pos es:=by rfl):E3 X (.Call (.Name x p) (e::es) [] pos) (DT r t):=
 PE.mono (Kk hc hg hm hv ha hn W2 he WY) λσ H Q' zz=>x7 zz λδ M Q hs hm ht k=>⟨δ,M,_,hs,hm,ht,λvs H1 ds M1 hd WK e1 q1=>⟨ds,M1,Q,hd,WK,q1,vI e1 k⟩⟩
def T5(ds:List D)(M:Mp)(Q:DK):Prop:=match ds with
 | [.str z]=>z.length<=sizeLine/\Q (.int z.length) M
 | [.tup es]=>Q (.int es.length) M
 | [.ref a]=>(oS M a).elim False λes=>Q (.int es.length) M
 | [.rl es]=>Q (.int es.length) M
 | _=>False
def se{K:qr}{H:Hp}{d:D}{vs:List V}(h:qd K H [d] vs):∃v,vs=[v]/\rN K H d v:=by obtain⟨x,r,rfl,a,b⟩:=h.inv;rw[b.nil_inv];exact⟨x,rfl,a⟩
def En{K:qr}{H:Hp}{d e:D}{vs:List V}(h:qd K H [d,e] vs):∃v u,vs=[v,u]/\rN K H d v/\rN K H e u:=by obtain⟨x,r,rfl,a,b⟩:=h.inv;obtain⟨y,rfl,c⟩:=se b;exact⟨x,y,rfl,a,c⟩
def qu:C3 X (.builtin "len") T5:=by
 intro WI s σ H vs us Q' I rv h;obtain⟨ds,M,Q,hd,hm,q,k⟩:=h;unfold T5 at q;split at q
 .obtain⟨v,rfl,hv⟩:=se hd;cases hv.str_inv;exact FG WI s σ H _ us Q' I rv ⟨_,rfl,q.1,k _ _ _ _ .int hm .refl q.2⟩
 .obtain⟨v,rfl,hv⟩:=se hd;obtain⟨a,xs,rfl,h1,h2⟩:=hv.mO;exact wz WI s σ H _ us Q' I rv ⟨a,xs,rfl,.inr h1,k _ _ _ _ (by rw[<-h2.length];exact .int) hm .refl q⟩
 .obtain⟨v,rfl,hv⟩:=se hd;obtain⟨es,e0,q⟩:=qX q;cases hv.mG;obtain⟨xs,h1,h2,_⟩:=qw hm e0;exact wz WI s σ H _ us Q' I rv ⟨_,xs,rfl,.inl h1,k _ _ _ _ (by rw[<-h2.length];exact .int) hm .refl q⟩
 .obtain⟨v,rfl,hv⟩:=se hd;obtain⟨a,xs,rfl,h1,h2⟩:=hv.mY;exact wz WI s σ H _ us Q' I rv ⟨a,xs,rfl,.inl h1.sq,k _ _ _ _ (by rw[<-h2.length];exact .int) hm .refl q⟩
 .exact q.elim
def TU(ds:List D)(M:Mp)(Q:DK):Prop:=match ds with
 | [.int i,.int j]=>Q (.int (if j<i then j else i)) M
 | _=>False
def Lv(hc:X.calm=true):C3 X (.builtin "min") TU:=by
 intro WI s σ H vs us Q' I rv h;obtain⟨ds,M,Q,hd,hm,q,k⟩:=h;unfold TU at q;split at q
 .obtain⟨v,u,rfl,hv,hw⟩:=En hd;cases hv.int_inv;cases hw.int_inv;exact Ku hc WI s σ H _ us Q' I rv ⟨_,_,rfl,k _ _ _ _ .int hm .refl q⟩
 .exact q.elim
def Nc(ds:List D)(M:Mp)(Q:DK):Prop:=match ds with
 | [.tup es]=>Q (.tup es) M
 | [.ref a]=>(oS M a).elim False λes=>Q (.tup es) M
 | [.rl es]=>Q (.tup es) M
 | _=>False
def sj:C3 X (.type "tuple") Nc:=by
 intro WI s σ H vs us Q' I rv h;obtain⟨ds,M,Q,hd,hm,q,k⟩:=h;unfold Nc at q;split at q
 .obtain⟨v,rfl,hv⟩:=se hd;obtain⟨a,xs,rfl,h1,h2⟩:=id hv.mO;exact vR WI s σ H _ us Q' I rv ⟨a,xs,rfl,.inr ⟨h1,k _ _ _ _ hv hm .refl q⟩⟩
 .obtain⟨v,rfl,hv⟩:=se hd;obtain⟨es,e0,q⟩:=qX q;cases hv.mG;obtain⟨xs,h1,h2,_⟩:=qw hm e0;refine vR WI s σ H _ us Q' I rv ⟨_,xs,rfl,.inl ⟨h1,λl hl=>?_⟩⟩;have e:qL X.K H (upd H l (.tup xs)):=.new hl;exact k _ _ _ _ (.tup (.of qg) (h2.mono e)) (hm.add hl) e q
 .obtain⟨v,rfl,hv⟩:=se hd;obtain⟨a,xs,rfl,h1,h2⟩:=hv.mY;refine vR WI s σ H _ us Q' I rv ⟨_,xs,rfl,.inl ⟨h1.sq,λl hl=>?_⟩⟩;have e:qL X.K H (upd H l (.tup xs)):=.new hl;exact k _ _ _ _ (.tup (.of qg) (h2.mono e)) (hm.add hl) e q
 .exact q.elim
def Qr(ds:List D)(M:Mp)(Q:DK):Prop:=match ds with
 | [d]=>(MI M d).elim False λes=>∀p,M p=none->Q (.ref p) (pB M p (.lst es))
 | _=>False
def su:C3 X (.type "list") Qr:=by
 intro WI s σ H vs us Q' I rv h;obtain⟨ds,M,Q,hd,hm,q,k⟩:=h;unfold Qr at q;split at q
 .obtain⟨v,rfl,hv⟩:=se hd;obtain⟨es,e0,q⟩:=qX q;obtain⟨p,xs,rfl,h1,h2⟩:=ED hm hv e0;refine E2 WI s σ H _ us Q' I rv ⟨p,xs,rfl,h1,λl hl=>?_⟩;have e:qL X.K H (upd H l (.lst xs)):=.new hl;exact k _ _ _ _ .ref (hm.new (c:=.lst es) hl ⟨_,qg,h2.mono e⟩) e (q l (hm.fresh hl))
 .exact q.elim
theorem wq{K:qr}{H:Hp}{f:Str}:∀{fs:List (Str×D)} {vs:List (Str×V)},B1 K H fs vs->(∀d,fs.lookup f=some d->∃v,vs.lookup f=some v/\rN K H d v)/\(fs.lookup f=none->vs.lookup f=none)
 | [],[],_=>⟨λd e=>by simp at e,λ_=>rfl⟩
 | [],_::_,h=>by have:=h.1;simp at this
 | _::_,[],h=>by have:=h.1;simp at this
 | (g,d)::fs,(g',v)::vs,h=>by
  have h1:g'=g/\vs.map (·.1)=fs.map (·.1):=by
   have:=h.1
   simpa using this
  obtain⟨x,r,e,a,b⟩:=h.2.inv;have e':v::vs.map (·.2)=x::r:=e;cases e';obtain⟨i1,i2⟩:=wq (f:=f) (fs:=fs) (vs:=vs) ⟨h1.2,b⟩;rw[h1.1];refine⟨λd' e=>?_,λe=>?_⟩
  .rw[eB]at e ⊢;cases q:f==g with
   | true=>rw[q]at e;cases e;exact⟨v,rfl,a⟩
   | false=>rw[q]at e;exact i1 d' e
  .rw[eB]at e ⊢;cases q:f==g with
   | true=>rw[q]at e;cases e
   | false=>rw[q]at e;exact i2 e
theorem ID{f:Str}{d:D}:∀{fs:List (Str×D)},fs.lookup f=some d->f∈fs.map (·.1)
 | [],h=>by simp at h
 | (g,e)::r,h=>by
  rw[eB]at h;cases q:f==g with
  | true=>
   have z:f=g:=by simpa using q
   rw[z,dP];exact dC
  | false=>rw[q]at h;simp[ID h]
def zJ(o:Option uG)(F:Addr->List (Str×D)->Prop):Prop:=match o with
 | some (.ins C fs)=>F C fs
 | _=>False
def pf{o:Option uG}{F:Addr->List (Str×D)->Prop}{C:Addr}{fs:List (Str×D)}(e:o=some (.ins C fs))(h:F C fs):zJ o F:=by rw[e];exact h
def xF{o:Option uG}{F:Addr->List (Str×D)->Prop}(h:zJ o F):∃C fs,o=some (.ins C fs)/\F C fs:=by
 unfold zJ at h;split at h
 .exact⟨_,_,rfl,h⟩
 .exact h.elim
def Vs(f:Str)(ta:T3):T3:=λδ M Q=>ta δ M λx M1=>match x with
 | .ref a=>zJ (M1 a) λ_ fs=>(fs.lookup f).elim False λd=>Q d M1
 | _=>False
def pA{f:Str}(he:E3 X o ta)(hb:attributeBase o f X.env (eval o X.env)=eval o X.env:=by rfl):E3 X (.Attribute o f pos) (Vs f ta):=PE.mono (R8 he hb) λσ H Q' zz=>x7 zz λδ M Q hs hm ht k=>
 ⟨δ,M,_,hs,hm,ht,λv H1 d M1 hd WK e1 q1=>by
  cases d with
  | ref a=>cases hd.mG;obtain⟨C,fs,e,q1⟩:=xF q1;obtain⟨d,e2,q⟩:=qX q1;obtain⟨dx,vs,h1,cl,na,fo⟩:=WK a _ e;obtain⟨v,e3,hv⟩:=(wq fo).1 d e2;exact⟨a,C,dx,vs,v,rfl,h1,cl,na f (ID e2),e3,k v H1 d M1 hv WK e1 q⟩
  | _=>exact q1.elim⟩
def vT(f:Str)(v:D):List (Str×D)->List (Str×D)
 | []=>[(f,v)]
 | (g,u)::r=>if g=f then(g,v)::r else(g,u)::vT f v r
theorem Fx{K:qr}{H:Hp}{f:Str}{d:D}{v:V}(hv:rN K H d v):∀{fs:List (Str×D)} {vs:List (Str×V)},B1 K H fs vs->B1 K H (vT f d fs) (vo f v vs)
 | [],[],_=>⟨rfl,.cons hv .nil⟩
 | [],_::_,h=>by have:=h.1;simp at this
 | _::_,[],h=>by have:=h.1;simp at this
 | (g,e)::fs,(g',u)::vs,h=>by
  have h1:g'=g/\vs.map (·.1)=fs.map (·.1):=by
   have:=h.1
   simpa using this
  obtain⟨x,r,e1,a,b⟩:=h.2.inv;have e':u::vs.map (·.2)=x::r:=e1;cases e';obtain⟨hg,ht⟩:=h1;subst hg;rw[show vT f d ((g',e)::fs)=(if g'=f then(g',d)::fs else(g',e)::vT f d fs)from rfl,show vo f v ((g',u)::vs)=(if g'=f then(g',v)::vs else(g',u)::vo f v vs)from rfl];by_cases q:g'=f
  .rw[cX q,cX q];exact⟨by simpa using ht,.cons hv b⟩
  .rw[cV q,cV q];obtain⟨i1,i2⟩:=Fx hv (fs:=fs) (vs:=vs) ⟨ht,b⟩;exact⟨by simpa using i1,.cons a i2⟩
theorem BC{f:Str}{d:D}:∀{fs:List (Str×D)} {g:Str},g∈(vT f d fs).map (·.1)->g=f\/g∈fs.map (·.1)
 | [],g,h=>.inl (by simpa [vT]using h)
 | (k,e)::r,g,h=>by
  rw[show vT f d ((k,e)::r)=(if k=f then(k,d)::r else(k,e)::vT f d r)from rfl]at h;by_cases q:k=f
  .rw[cX q]at h;exact .inr (by simpa using h)
  .rw[cV q]at h;rw[dP,cY]at h;rcases h with h|h
   .exact .inr (by simp[h])
   .rcases BC h with z|z
    .exact .inl z
    .exact .inr (by simp;right;simpa using z)
def TJ(K:qr)(f:Str)(ta tv:T3):xk:=λD δ M=>tv δ M λy M1=>ta δ M1 λx M2=>match x with
 | .ref a=>zJ (M2 a) λC fs=>ud K C f/\fs.length<1000/\D.nx δ (pB M2 a (.ins C (vT f y fs)))
 | _=>False
def pZ{f:Str}{value:Expr}{tv:T3}{WQ:Pos}(ha:E3 X o ta)(hv:E3 X value tv)(Xw:swapsWith value (some (.Attribute o f WQ)) pos.line X.env=pure false:=by rfl):S3 X (.Assign [.Attribute o f WQ] value pos) (TJ X.K f ta tv):=
 PS.mono (Si ha hv Xw) λD' σ H zz=>KR zz λδ M D hs hm ht k1 k2 k3 k4=>
 ⟨δ,M,_,hs,hm,ht,λy H1 dy M1 hy WK e1 q1=>⟨δ,M1,_,hs.mono e1,WK,q1,λv H2 d M2 hd W1 e2 q2=>by
  cases d with
  | ref a=>
   cases hd.mG;obtain⟨C,fs,e,q2⟩:=xF q2;obtain⟨na,hl,q⟩:=q2;obtain⟨dx,vs,h1,cl,nn,fo⟩:=W1 a _ e;have WO:vs.length=fs.length:=by have:=eG List.length fo.1;simpa using this
   refine⟨a,C,dx,vs,rfl,h1,cl,na,by omega,?_⟩;obtain⟨XG,e3⟩:=W1.put (p:=a) (o:=.ins C dx (vo f y vs)) (c:=.ins C (vT f dy fs)) e λx=>⟨dx,_,qg,cl,λg hg=>by
    rcases BC hg with z|z
    .rw[z];exact na
    .exact nn g z,Fx ((hy.mono e2).mono x) (fo.mono x)⟩
   exact k1 σ _ δ _ (hs.mono (e1.trans (e2.trans e3))) XG (e1.trans (e2.trans e3)) rfl q
  | _=>exact q2.elim⟩⟩
def QN(C:Addr)(sp:rb)(t:xl):T3:=λδ M Q=>t δ M λds M1=>∀x,M1 x=none->sp (.ref x::ds) (pB M1 x (.ins C [])) λd M2=>d=.mI/\Q (.ref x) M2
def Nf{K:qr}{H:Hp}{M:Mp}{xa dx:Addr}(hm:HM K H M)(cl:Cls K C)(h1:H xa=none)(h2:H dx=none)(ne:dx≠xa):HM K (upd (upd H dx (.own xa)) xa (.ins C dx [])) (pB M xa (.ins C []))/\qL K H (upd (upd H dx (.own xa)) xa (.ins C dx [])):=by
 have Xp:upd H dx (.own xa) xa=none:=by rw[qc (dI ne)];exact h1
 exact⟨(hm.add (p:=dx) (o:=.own xa) h2).new Xp ⟨dx,[],qg,cl,λg hg=>by simp at hg,rfl,.nil⟩,qL.trans (.new h2) (.new Xp)⟩
def O9(cl:Cls X.K C)(Mk':Mk X.K C f)(F:SV X.prog X.w X.K X.mg X.base k f fd ps sp)(hr:rS (k+1) X.A)(hg:Gl X x)(hm:X.mg x=some (.ref C))(hb:uK X.K fd ps [])(ha:A3 X (e::es) t) (W2:zG x:=by decide) (he:A9 X e es:=by rfl) (WY:CC X pos es:=by rfl):
  E3 X (.Call (.Name x p) (e::es) [] pos) (QN C sp t):=PE.mono (Og Mk' F hr hg hm hb .nil (GK (X:=X)) ha W2 he WY) λσ H Q' zz=>x7 zz λδ M Q hs hm ht k=>
 ⟨δ,M,_,hs,hm,ht,λvs H1 ds M1 hd WK e1 q1=>λxa dx n1 n2 ne=>by
  obtain⟨W1,e2⟩:=Nf WK cl n1 n2 ne;refine⟨.ref xa::ds,_,_,?_,W1,q1 xa (WK.fresh n1),λv H3 d M3 hd3 XG e3 q3=>?_⟩
  .rw[eU];exact .cons .ref (hd.mono e2)
  .obtain⟨z,q3⟩:=q3;subst z;exact⟨hd3.mJ,k _ H3 _ M3 .ref XG (e1.trans (e2.trans e3)) q3⟩⟩
def Iu(m:Str)(R:Addr->Sp->Prop)(ta:TE)(t:TA):TE:=λσ H Q=>ta σ H λx H1=>∃a C dx fs sp,x=.ref a/\H1 a=some (.ins C dx fs)/\fs.lookup m=none/\R C sp/\t σ H1 λvs H2=>sp (x::vs) H2 Q E0
def xR(P:Pg)(w:Wo)(K:qr)(mg:Str->Option Vl)(base:Heap)(k:Nat)(m:Str)(C:Addr)(sp:Sp):Prop:=Cls K C/\∃f fd ps,vp K C m f/\xh P w K mg base NH k f fd ps sp/\uK K fd ps []
def L4{R:Addr->Sp->Prop}{ta:TE}{t:TA}{pl:Sem Bool}(he:PE X o ta)(hR:∀C sp,R C sp->xR X.prog X.w X.K X.mg X.base k m C sp)(hr:rS k X.A)(ha:PA X (e::es) t) (W7:A9 X e es:=by rfl) (WY:CC X pos es:=by rfl)
  (ht:eval (.Call (.Attribute o m WL) (e::es) [] pos) X.env=(do
   let ov<-eval o X.env
   standAt WL.atName
   let(f,first)<-holding [ov] (getMethod ov m pl)
   callWith pos f first (backTo pos (starEach (e::es) X.env)) (backToKw pos (keywordEach [] X.env))):=by rfl):
  PE X (.Call (.Attribute o m WL) (e::es) [] pos) (Iu m R ta t):=by
 intro WI s σ H Q I h;refine jS (pl:=pl) (so (he WI s σ H _ I h) λu s1 zz=>?_) ht;obtain⟨x,H1,I1,rx,a,C,dx,fs,sp,ex,ea,l,hRC,q⟩:=zz;obtain⟨c,f,fd,ps,hm,F,hb⟩:=hR C sp hRC;subst ex;obtain rfl:u=Value.ref a:=rx;refine B' I1 ea c hm l ?_;refine iL (first:=[.ref a]) (h₀:=X.base) I.ok.mod.oA hm.kp (so (ha pos WI s1 σ H1 _ I1 q) λus s2 zz=>x5 zz λvs H2 I2 r q2=>⟨I2.ny,?_⟩) W7 WY;exact E1 (us:=.ref a::us) (vs:=.ref a::vs) F hr hb .nil (GK (X:=X)) I2 (.cons rfl r) (by rw[eU];exact q2)
def KJ{R:Addr->Sp->Prop}{ta:TE}{pl:Sem Bool}(he:PE X o ta)(hR:∀C sp,R C sp->xR X.prog X.w X.K X.mg X.base k m C sp)(hr:rS k X.A) (ht:eval (.Call (.Attribute o m WL) [] [] pos) X.env=(do
   let ov<-eval o X.env
   standAt WL.atName
   let(f,first)<-holding [ov] (getMethod ov m pl)
   callWith pos f first (backTo pos (starEach [] X.env)) (backToKw pos (keywordEach [] X.env))):=by rfl):
  PE X (.Call (.Attribute o m WL) [] [] pos) (Iu m R ta Ud):=by
 intro WI s σ H Q I h;refine jS (pl:=pl) (so (he WI s σ H _ I h) λu s1 zz=>?_) ht;obtain⟨x,H1,I1,rx,a,C,dx,fs,sp,ex,ea,l,hRC,q⟩:=zz;obtain⟨c,f,fd,ps,hm,F,hb⟩:=hR C sp hRC;subst ex;obtain rfl:u=Value.ref a:=rx;refine B' I1 ea c hm l ?_;exact W.callWith_K0 (first:=[.ref a]) I1.ny hm.kp (E1 (us:=[.ref a]) (vs:=[.ref a]) F hr hb .nil (GK (X:=X)) I1 (.cons rfl .nil) (by rw[eU];exact q))
def Ax(m:Str)(R:Addr->rb->Prop)(ta:T3)(t:xl):T3:=λδ M Q=>ta δ M λx M1=>match x with
 | .ref a=>zJ (M1 a) λC fs=>fs.lookup m=none/\∃sp,R C sp/\t δ M1 λds M2=>sp (x::ds) M2 Q
 | _=>False
def VT(K:qr)(R:Addr->rb->Prop):Addr->Sp->Prop:=λC sp'=>∃sp,R C sp/\sp'=NJ K sp
def Jx{R:Addr->rb->Prop}:∀σ H Q',lo X.K (Ax m R ta t) σ H Q'->Iu m (VT X.K R) (lo X.K ta) (Wm X.K t) σ H Q':=λσ H Q' zz=>x7 zz λδ M Q hs hm ht k=>
 ⟨δ,M,_,hs,hm,ht,λv H1 d M1 hd WK e1 q1=>by
  cases d with
  | ref a=>cases hd.mG;obtain⟨C,fs,e,q1⟩:=xF q1;obtain⟨hn,sp,hR,q⟩:=q1;obtain⟨dx,vs,h1,cl,na,fo⟩:=WK a _ e;exact⟨a,C,dx,vs,_,rfl,h1,(wq fo).2 hn,⟨sp,hR,rfl⟩,δ,M1,_,hs.mono e1,WK,q,λus H2 ds M2 X1 W1 e2 q2=>⟨.ref a::ds,M2,Q,.cons .ref X1,W1,q2,vI (e1.trans e2) k⟩⟩
  | _=>exact q1.elim⟩
def EV{R:Addr->rb->Prop}{pl:Sem Bool}(he:E3 X o ta)(hR:∀C sp,R C sp->xR X.prog X.w X.K X.mg X.base k m C (NJ X.K sp))(hr:rS k X.A)(ha:A3 X (e::es) t) (W7:A9 X e es:=by rfl) (WY:CC X pos es:=by rfl)
  (ht:eval (.Call (.Attribute o m WL) (e::es) [] pos) X.env=(do
   let ov<-eval o X.env
   standAt WL.atName
   let(f,first)<-holding [ov] (getMethod ov m pl)
   callWith pos f first (backTo pos (starEach (e::es) X.env)) (backToKw pos (keywordEach [] X.env))):=by rfl):
  E3 X (.Call (.Attribute o m WL) (e::es) [] pos) (Ax m R ta t):=PE.mono (L4 (R:=VT X.K R) he (λC sp' ⟨sp,h,z⟩=>by rw[z];exact hR C sp h) hr ha W7 WY ht) Jx
def Ce{R:Addr->rb->Prop}{pl:Sem Bool}(he:E3 X o ta)(hR:∀C sp,R C sp->xR X.prog X.w X.K X.mg X.base k m C (NJ X.K sp))(hr:rS k X.A) (ht:eval (.Call (.Attribute o m WL) [] [] pos) X.env=(do
   let ov<-eval o X.env
   standAt WL.atName
   let(f,first)<-holding [ov] (getMethod ov m pl)
   callWith pos f first (backTo pos (starEach [] X.env)) (backToKw pos (keywordEach [] X.env))):=by rfl):
  E3 X (.Call (.Attribute o m WL) [] [] pos) (Ax m R ta wY):=PE.mono (KJ (R:=VT X.K R) he (λC sp' ⟨sp,h,z⟩=>by rw[z];exact hR C sp h) hr ht) λσ H Q' h=>by
 obtain⟨δ,M,Q,hs,hm,ht,k⟩:=Jx (t:=wY) σ H Q' h;refine⟨δ,M,Q,hs,hm,ht,λv H' d M' x1 x2 x3 x4=>?_⟩;obtain⟨a,C,dx,fs,sp,e1,e2,e3,e4,δ',WM,Q'',y1,y2,y3,y4⟩:=k v H' d M' x1 x2 x3 x4;exact⟨a,C,dx,fs,sp,e1,e2,e3,e4,y4 [] H' [] WM .nil y2 .refl y3⟩
structure F6(K:qr)(H1:Hp)(J:It)(ds:List D)(ok:Mp->Prop):Prop where
 go:∀i H M,i<ds.length->HM K H M->ok M->qL K H1 H->J.go i H
 oN:∀i d H M x H',ds[i]?=some d->HM K H M->ok M->qL K H1 H->J.oN i H x H'->rN K H' d x/\HM K H' M/\qL K H H'
 stop:∀H M,HM K H M->ok M->qL K H1 H->J.stop ds.length H
abbrev NF:=va->Mp->(List D->(Mp->Prop)->Mp->Prop)->Prop
def Wj(K:qr)(wi:NF):TI:=λσ H R'=>CO λδ M R=>zH K H σ δ/\HM K H M/\wi δ M R/\∀J H1 ds ok M1,F6 K H1 J ds ok->HM K H1 M1->qL K H H1->ok M1->R ds ok M1->R' J H1
def I3(X:Cx)(tg iter:Expr)(wi:NF):Prop:=PI X tg iter (Wj X.K wi)
def PI.mono{X:Cx}{tg e:Expr}{t t':TI}(h:PI X tg e t)(m:∀σ H Q,t' σ H Q->t σ H Q):PI X tg e t':=λWI s σ H Q I q=>h WI s σ H Q I (m σ H Q q)
variable {H1:Hp}
def NC{a:Addr}{ds:List D}:F6 K H1 (UK K a) ds (λM=>oS M a=some ds) where
 go:=λi H M hi hm ok _=>by obtain⟨xs,h1,h2,_⟩:=qw hm ok;obtain⟨x,e,_⟩:=h2.get (cU hi);exact⟨xs,x,h1,e⟩
 oN:=λi d H M x H' hd hm ok _ y=>by obtain⟨xs,h1,h2,_⟩:=qw hm ok;obtain⟨e,y⟩:=y;subst e;obtain⟨x',e,hx⟩:=h2.get hd;have:=y xs h1;rw[e]at this;cases this;exact⟨hx,hm,.refl⟩
 stop:=λH M hm ok _=>by obtain⟨xs,h1,h2,_⟩:=qw hm ok;exact⟨xs,h1,by rw[h2.length];exact cZ _⟩
def Ow{a:Addr}{ds:List D}{xs:List V}(h1:uW K H1 a xs)(h2:qd K H1 ds xs):F6 K H1 (U0 K a) ds (λ_=>True) where
 go:=λi H M hi hm ok e1=>by obtain⟨x,e,_⟩:=h2.get (cU hi);exact⟨xs,x,e1.t _ _ h1,e⟩
 oN:=λi d H M x H' hd hm ok e1 y=>by obtain⟨e,y⟩:=y;subst e;obtain⟨x',e,hx⟩:=h2.get hd;have:=y xs (e1.t _ _ h1);rw[e]at this;cases this;exact⟨hx.mono e1,hm,.refl⟩
 stop:=λH M hm ok e1=>⟨xs,e1.t _ _ h1,by rw[h2.length];exact cZ _⟩
def Sl{a:Addr}{ds:List D}{xs:List V}(h1:ON K H1 a xs)(h2:qd K H1 ds xs):F6 K H1 (UK K a) ds (λ_=>True) where
 go:=λi H M hi hm ok e1=>by obtain⟨x,e,_⟩:=h2.get (cU hi);exact⟨xs,x,(h1.mono e1).sq,e⟩
 oN:=λi d H M x H' hd hm ok e1 y=>by obtain⟨e,y⟩:=y;subst e;obtain⟨x',e,hx⟩:=h2.get hd;have:=y xs (h1.mono e1).sq;rw[e]at this;cases this;exact⟨hx.mono e1,hm,.refl⟩
 stop:=λH M hm ok e1=>⟨xs,(h1.mono e1).sq,by rw[h2.length];exact cZ _⟩
def DQ{n:Nat}{lo:Int}:F6 K H1 (TB lo n) ((List.range n).map λi=>D.int (lo+(i:Nat))) (λ_=>True) where
 go:=λi H M hi hm ok e1=>by
  have z:i<n:=by simpa using hi
  exact z
 oN:=λi d H M x H' hd hm ok e1 y=>by
  obtain⟨e,y⟩:=y;subst e;subst y;have hi:i<n:=by
   have:=(cS.mp hd).1
   simpa using this
  have hd':d=D.int (lo+(i:Nat)):=by rw[dq,iU hi]at hd;exact(c9 hd).symm
  subst hd';exact⟨.int,hm,.refl⟩
 stop:=λH M hm ok e1=>by show n<=_;simp
variable {scope:Scope}{ix:List (Option Nat)}{N':List Str}{iter XB:Expr}{Xi:List Expr}{wi:NF}{g:DI}{tt:Ap}{te:T3}{tg:Expr}
def TX(t:T3):NF:=λδ M R=>t δ M λx M1=>match x with
 | .tup ds=>R ds (λ_=>True) M1
 | .ref a=>(oS M1 a).elim False λds=>R ds (λM=>oS M a=some ds) M1
 | .rl ds=>R ds (λ_=>True) M1
 | .str z=>R (z.cps.toList.map λc=>D.str ⟨#[c]⟩) (λ_=>True) M1
 | _=>False
def NL{K:qr}{H1:Hp}{z:Str}:F6 K H1 (Vm z) (z.cps.toList.map λc=>D.str ⟨#[c]⟩) (λ_=>True) where
 go:=λi H M hi hm ok _=>by
  show i<z.cps.size
  simpa using hi
 oN:=λi d H M x H' hd hm ok _ y=>by obtain⟨e,c,e1,e2⟩:=y;subst e e2;rw[dq,Array.getElem?_toList,e1]at hd;cases hd;exact⟨.str,hm,.refl⟩
 stop:=λH M hm ok _=>by show _=z.cps.size;simp
def qC{l:Expr}{t:T3}(h:E3 X l t)(hc:X.calm=true:=by rfl):I3 X tg l (TX t):=PI.mono (PM hc h) λσ H R' zz=>x7 zz λδ M R hs hm ht k=>
 ⟨δ,M,_,hs,hm,ht,λv H1 d M1 hd WK e1 q1=>by
  cases d with
  | tup ds=>obtain⟨a,xs,rfl,h1,h2⟩:=hd.mO;exact .inl ⟨a,rfl,.inr ⟨⟨xs,h1⟩,k _ H1 ds _ M1 (Ow h1 h2) WK e1 trivial q1⟩⟩
  | ref a=>cases hd.mG;obtain⟨ds,e0,q⟩:=qX q1;obtain⟨xs,h1,h2,_⟩:=qw WK e0;exact .inl ⟨a,rfl,.inl ⟨⟨xs,h1⟩,k _ H1 ds _ M1 NC WK e1 e0 q⟩⟩
  | str z=>exact .inr ⟨z,hd.str_inv,k _ H1 _ _ M1 NL WK e1 trivial q1⟩
  | rl ds=>obtain⟨a,xs,rfl,h1,h2⟩:=hd.mY;exact .inl ⟨a,rfl,.inl ⟨⟨xs,h1.sq⟩,k _ H1 ds _ M1 (Sl h1 h2) WK e1 trivial q1⟩⟩
  | _=>exact q1.elim⟩
def QD(t:xl):NF:=λδ M R=>t δ M λds M1=>match ds with
 | [.int j]=>(-(2 ^ 62)<=j/\j<2 ^ 62)/\R ((List.range j.toNat).map λi=>D.int (0+(i:Nat))) (λ_=>True) M1
 | [.int i,.int j]=>(-(2 ^ 62)<=i/\i<2 ^ 62/\-(2 ^ 62)<=j/\j<2 ^ 62)/\R ((List.range (j - i).toNat).map λn=>D.int (i+(n:Nat))) (λ_=>True) M1
 | _=>False
def uY{a:Expr}{ta:xl}(hg:Gl X "range")(hm:X.mg "range"=none)(ha:A3 X [a] ta)(hs:starEach [a] X.env=[(false,eval a X.env)]:=by rfl):I3 X tg (.Call (.Name "range" p) [a] [] pos) (QD λδ M Q=>ta δ M λds M1=>ds.length=1/\Q ds M1):=
 PI.mono (Kx hg hm ha hs) λσ H R' zz=>x7 zz λδ M R hs hm ht k=>⟨δ,M,_,hs,hm,ht,λvs H1 ds M1 hd WK e1 q1=>by
  obtain⟨hl,q1⟩:=q1;split at q1
  .obtain⟨v,rfl,hv⟩:=se hd;cases hv.int_inv;exact⟨_,rfl,q1.1.1,q1.1.2,k _ H1 _ _ M1 DQ WK e1 trivial q1.2⟩
  .simp at hl
  .exact q1.elim⟩
def J7{a b:Expr}{ta:xl}(hg:Gl X "range")(hm:X.mg "range"=none)(ha:A3 X [a,b] ta)(hs:starEach [a,b] X.env=[(false,eval a X.env),(false,eval b X.env)]:=by rfl)(XW:starEach [b] X.env=[(false,eval b X.env)]:=by rfl):
  I3 X tg (.Call (.Name "range" p) [a,b] [] pos) (QD λδ M Q=>ta δ M λds M1=>ds.length=2/\Q ds M1):=
 PI.mono (JT hg hm ha hs XW) λσ H R' zz=>x7 zz λδ M R hs hm ht k=>⟨δ,M,_,hs,hm,ht,λvs H1 ds M1 hd WK e1 q1=>by
  obtain⟨hl,q1⟩:=q1;split at q1
  .simp at hl
  .obtain⟨v,u,rfl,hv,hw⟩:=En hd;cases hv.int_inv;cases hw.int_inv;exact⟨_,_,rfl,q1.1,k _ H1 _ _ M1 DQ WK e1 trivial q1.2⟩
  .exact q1.elim⟩
def EH(g:DI)(tb:xk)(ok:Mp->Prop)(E:F1):List D->va->Mp->Prop
 | [],δ,M=>E.nx δ M
 | d::r,δ,M=>g d δ M λδ2 M2=>tb {E with nx:=λδ' M'=>ok M'/\EH g tb ok E r δ' M',ct:=λδ' M'=>ok M'/\EH g tb ok E r δ' M',bk:=E.nx} δ2 M2
def Oe(wi:NF)(g:DI)(tb:xk):xk:=λE δ M=>wi δ M λds ok M1=>EH g tb ok E ds δ M1
def uk{iter:Expr}{body:List Stmt}{wi:NF}{g:DI}{tb:xk}(hp:PassesOwn (model X.prog X.w) X.A X.env X.xe)(hc:X.calm=true)(hi:I3 X tg iter wi)(hg:G3 X tg g)(hb:Hd X body tb) (hs:∀x,foldedSetIterable iter X.env x=pure x:=by intro _;rfl):S3 X (.For tg iter body [] pos) (Oe wi g tb):=PS.mono (So hp hc hi hg hb hs) λD' σ H zz=>KR zz λδ M E hs hm ht k1 k2 k3 k4=>
 ⟨δ,M,_,hs,hm,ht,λJ H1 ds ok M1 S WK e1 ZO q1=>by
  refine⟨λi m σ' H'=>m=ds.length - i/\i<=ds.length/\∃δ' M',zH X.K H' σ' δ'/\HM X.K H' M'/\ok M'/\qL X.K H1 H'/\σ'.length=σ.length/\EH g tb ok E (ds.drop i) δ' M',⟨ds.length,by simp,dS _,δ,M1,hs.mono e1,WK,ZO,.refl,rfl,by simpa using q1⟩,?_⟩
  rintro i m σ' H' ⟨rfl,hi,δ',M',Zg,Ye,ZP,e',l',q'⟩
  by_cases WW:i<ds.length
  .rw[gF WW]at q';refine .inr ⟨S.go i H' M' WW Ye ZP e',λσ2 H2=>∃δ2 M2,zH X.K H2 σ2 δ2/\HM X.K H2 M2/\ok M2/\qL X.K H1 H2/\σ2.length=σ.length/\EH g tb ok E (ds.drop (i+1)) δ2 M2,λσ2 H2 z=>⟨ds.length - (i+1),by omega,rfl,WW,z⟩,λx H2 y=>?_⟩;obtain⟨hx,W1,e2⟩:=S.oN i ds[i] H' M' x H2 (cU WW) Ye ZP e' y;refine⟨ds[i],δ',M',_,hx,Zg.mono e2,W1,q',λσ3 H3 δ3 M3 x1 x2 x3 x4 x5=>?_⟩;refine⟨δ3,M3,_,x1,x2,x5,λσ4 H4 δ4 M4 y1 y2 y3 y4 y5=>?_,λv H4 d M4 y1 y2 y3 y4=>?_,λσ4 H4 δ4 M4 y1 y2 y3 y4 y5=>?_,λσ4 H4 δ4 M4 y1 y2 y3 y4 y5=>?_⟩
   .exact⟨δ4,M4,y1,y2,y5.1,e'.trans (e2.trans (x3.trans y3)),by rw[y4,x4,l'],y5.2⟩
   .exact k2 v H4 d M4 y1 y2 (e1.trans (e'.trans (e2.trans (x3.trans y3)))) y4
   .exact k1 σ4 H4 δ4 M4 y1 y2 (e1.trans (e'.trans (e2.trans (x3.trans y3)))) (by rw[y4,x4,l']) y5
   .exact⟨δ4,M4,y1,y2,y5.1,e'.trans (e2.trans (x3.trans y3)),by rw[y4,x4,l'],y5.2⟩
  .have e:i=ds.length:=by omega
   subst e;rw[jD]at q';exact .inl ⟨S.stop H' M' Ye ZP e',k1 σ' H' δ' M' Zg Ye (e1.trans e') l' q'⟩⟩
def NQ(ix:List (Option Nat))(δ:va):va:=ix.map λo=>o.bind λi=>(δ[i]?).join
def P0{K:qr}{H:Hp}{σ:St}{δ:va}{ix:List (Option Nat)}(h:zH K H σ δ):zH K H (Ou ix σ) (NQ ix δ):=λi d q=>by
 unfold NQ at q;unfold Ou;rw[dq]at q ⊢;cases e:ix[i]? with
 | none=>rw[e]at q;cases q
 | some o=>
  rw[e]at q;cases o with
  | none=>cases q
  | some j=>
   have q':(δ[j]?).join=some d:=c9 q;have e4:δ[j]?=some (some d):=by
    cases r:δ[j]? with
    | none=>rw[r]at q';cases q'
    | some w=>rw[r]at q';exact eG some q'
   obtain⟨v,e5,hv⟩:=h j d e4;refine⟨v,?_,hv⟩;show some ((σ[j]?).join)=some (some v);rw[e5];rfl
def uP(g:DI)(tt:Ap)(te:T3)(ok:Mp->Prop)(Q:DK):List D->List D->va->Mp->Prop
 | [],acc,_,M=>acc.length<=sizeLine/\∀p,M p=none->Q (.ref p) (pB M p (.lst acc))
 | d::r,acc,δ,M=>acc.length<sizeLine/\g d δ M λδ2 M2=>tt δ2 M2 λb M3=>if b=true then te δ2 M3 λy M4=>ok M4/\uP g tt te ok Q r (acc++[y]) δ2 M4 else ok M3/\uP g tt te ok Q r acc δ2 M3
def Nx(ix:List (Option Nat))(wi:NF)(g:DI)(tt:Ap)(te:T3):T3:=λδ M Q=>wi δ M λds ok M1=>uP g tt te ok Q ds [] (NQ ix δ) M1
def F3(X:Cx)(Xi:List Expr)(t:Ap):Prop:=PF X Xi (SX X.K t)
def PF.mono{X:Cx}{e:List Expr}{t t':TT}(h:PF X e t)(m:∀σ H Q,t' σ H Q->t σ H Q):PF X e t':=λWI s σ H Q I q=>h WI s σ H Q I (m σ H Q q)
def Bl:Ap:=λ_ M Q=>Q true M
def rH:F3 X [] Bl:=PF.mono QY λσ H Q' zz=>x7 zz λδ M Q hs hm ht k=>k true H M hm .refl ht
def vM{c:Expr}{t:Ap}(h:B3 X c t):F3 X [c] t:=RV h
def JF:∀σ H Q',lo X.K (Nx ix wi g tt te) σ H Q'->Nk ix (Wj X.K wi) (UP X.K g) (SX X.K tt) (lo X.K te) σ H Q':=λσ H Q' zz=>x7 zz λδ M Q hs hm ht k=>
 ⟨δ,M,_,hs,hm,ht,λJ H1 ds ok M1 S WK e1 ZO q1=>by
  refine⟨λi m ys σ' H'=>m=ds.length - i/\i<=ds.length/\∃δ' M' acc,zH X.K H' σ' δ'/\HM X.K H' M'/\qd X.K H' acc ys/\ok M'/\qL X.K H1 H'/\uP g tt te ok Q (ds.drop i) acc δ' M',⟨ds.length,by simp,dS _,NQ ix δ,M1,[],P0 (hs.mono e1),WK,.nil,ZO,.refl,by simpa using q1⟩,?_⟩
  rintro i m ys σ' H' ⟨rfl,hi,δ',M',acc,Zg,Ye,Yh,ZP,e',q'⟩
  by_cases WW:i<ds.length
  .rw[gF WW]at q';obtain⟨hz,q'⟩:=q';refine .inr ⟨S.go i H' M' WW Ye ZP e',by rw[<-Yh.length];exact hz,λx H2 y=>?_⟩;obtain⟨hx,W1,e2⟩:=S.oN i ds[i] H' M' x H2 (cU WW) Ye ZP e' y;refine⟨ds[i],δ',M',_,hx,Zg.mono e2,W1,q',λσ3 H3 δ3 M3 x1 x2 x3 x4 x5=>?_⟩;refine⟨δ3,M3,_,x1,x2,x5,λb H4 M4 y2 y3 y5=>?_⟩;cases b with
   | true=>rw[cX rfl]at y5 ⊢;refine⟨δ3,M4,_,x1.mono y3,y2,y5,λv H5 d M5 z1 z2 z3 z4=>⟨ds.length - (i+1),by omega,rfl,WW,δ3,M5,acc++[d],x1.mono (y3.trans z3),z2,(Yh.mono (e2.trans (x3.trans (y3.trans z3)))).snoc z1,z4.1,e'.trans (e2.trans (x3.trans (y3.trans z3))),z4.2⟩⟩
   | false=>rw[cV dn]at y5 ⊢;exact⟨ds.length - (i+1),by omega,rfl,WW,δ3,M4,acc,x1.mono y3,y2,Yh.mono (e2.trans (x3.trans y3)),y5.1,e'.trans (e2.trans (x3.trans y3)),y5.2⟩
  .have e:i=ds.length:=by omega
   subst e;rw[jD]at q';refine .inl ⟨S.stop H' M' Ye ZP e',by rw[<-Yh.length];exact q'.1,λp hp=>?_⟩;have e5:qL X.K H' (upd H' p (.lst ys)):=.new hp;exact k _ _ _ _ .ref (Ye.new (c:=.lst acc) hp ⟨_,qg,Yh.mono e5⟩) (e1.trans (e'.trans e5)) (q'.2 p (Ye.fresh hp))⟩
def qD(hc:X.calm=true)(S:r6 X scope ix N')(hi:I3 X tg iter wi)(hg:∀{C s0 H0 ex},G3 (X.comp scope N' C s0 H0 ex) tg g)(ht:∀{C s0 H0 ex},F3 (X.comp scope N' C s0 H0 ex) Xi tt)(he:∀{C s0 H0 ex},E3 (X.comp scope N' C s0 H0 ex) XB te) (hs:∀x,foldedSetIterable iter X.env x=pure x:=by intro _;rfl):E3 X (.ListComp XB [⟨tg,iter,Xi,0⟩] scope pos) (Nx ix wi g tt te):=PE.mono (PR (g:=UP X.K g) (tt:=SX X.K tt) (te:=lo X.K te) hc S hi (λ_ _ _ _=>hg) (λ_ _ _ _=>ht) (λ_ _ _ _=>he) hs) JF
def vg{i:Nat}{x:Str}{px Yp:Pos}(hN:X.N.Nodup)(ZG:X.N[i]?=some x)(hx:KW X.env.scope x)(hc:X.calm=true)(S:r6 X scope ix N')(hi:I3 X tg iter wi)(hg:∀{C s0 H0 ex},G3 (X.comp scope N' C s0 H0 ex) tg g)(ht:∀{C s0 H0 ex},F3 (X.comp scope N' C s0 H0 ex) Xi tt) (he:∀{C s0 H0 ex},E3 (X.comp scope N' C s0 H0 ex) XB te) (Xw:swapsWith (.ListComp XB [⟨tg,iter,Xi,0⟩] scope pos) (some (.Name x px)) Yp.line X.env=pure true:=by rfl)
  (hf:KS X x:=by first|exact .inl rfl|exact .inr rfl|assumption) (hs:∀x,foldedSetIterable iter X.env x=pure x:=by intro _;rfl):
  S3 X (.Assign [.Name x px] (.ListComp XB [⟨tg,iter,Xi,0⟩] scope pos) Yp) (Gk (Nx ix wi g tt te) (ue i)):=PS.nN (Hs (g:=UP X.K g) (tt:=SX X.K tt) (te:=lo X.K te) hN ZG hx hc S hi (λ_ _ _ _=>hg) (λ_ _ _ _=>ht) (λ_ _ _ _=>he) Xw hf hs) λD' σ H hl zz=>KR zz λδ M D hs hm ht k1 k2 k3 k4=>
 JF σ H _ ⟨δ,M,_,hs,hm,ht,λv H1 d M1 hd WK e1 q1=>k1 _ H1 _ M1 ((hs.mono e1).set hd (by rw[hl];exact(cS.mp ZG).1)) WK e1 (by simp) q1⟩
def V9{A:Ar}{k:Nat}(hr:rS k A):A.units+9<cLine:=by have:=hr.units;omega
def Hr(sc:Scope)(N:List Str)(scope:Scope)(ix:List (Option Nat))(N':List Str):Bool:=
 (scope.kind==.function)&&(scope.names.all λy=>!(y.2==.cell))&&(scope.names.all λy=>!(y.2==.local)||(scope.names.lookup y.1==some .local))&&
 (scope.names.all λy=>!(y.2==.free)||(sc.names.lookup y.1==some .cell)||(sc.names.lookup y.1==some .free))&&(ix.length==N'.length)&&
 ((ix.zip N').all λp=>match p.1 with|none=>true|some i=>(N[i]?==some p.2)&&(scope.names.lookup p.2==some .free))
def Um{X:Cx}{scope:Scope}{ix:List (Option Nat)}{N':List Str}(h:Hr X.env.scope X.N scope ix N'=true):r6 X scope ix N':=by
 unfold Hr at h;simp only[dO]at h;obtain⟨⟨⟨⟨⟨h1,h2⟩,h3⟩,h4⟩,h5⟩,h6⟩:=h;refine⟨by simpa using h1,λy hy e=>?_,λy hy e=>?_,λy hy e=>?_,by simpa using h5,λj i x e1 e2=>?_⟩
 .have:=eA.mp h2 y hy;rw[e]at this;simp at this
 .have:=eA.mp h3 y hy;rw[e]at this
  simpa using this
 .have:=eA.mp h4 y hy;rw[e]at this
  simpa using this
 .have hm:(some i,x)∈ix.zip N':=by
   have:(ix.zip N')[j]?=some (some i,x):=by rw[ij];exact⟨e1,e2⟩
   exact fi this
  have:=eA.mp h6 _ hm
  simpa using this
section
variable {a b:Expr}
def IT(op XA:CmpOp)(ta tb tc:T3):T3:=λδ M Q=>ta δ M λx M1=>tb δ M1 λy M2=>Pq op x y M2 λz M3=>match z with
 | .bl k=>if k=true then tc δ M3 λw M4=>Pq XA y w M4 Q else Q (.bl false) M3
 | _=>False
def uo{op XA:CmpOp}(hu:X.A.units+9<cLine)(ha:E3 X a ta)(hb:E3 X b tb)(hc:E3 X c tc)(hmk:lastMarks [op,XA] [b,c]=false:=by rfl):
  E3 X (.Compare a [op,XA] [b,c] pos) (IT op XA ta tb tc):=PE.mono (Nj (JZ op hu) (JZ XA hu) ha hb hc hmk) λσ H Q' zz=>x7 zz λδ M Q hs hm ht k=>
 ⟨δ,M,_,hs,hm,ht,λv H1 x M1 hx WK e1 q1=>⟨δ,M1,_,hs.mono e1,WK,q1,λu H2 y M2 hy W1 e2 q2=>⟨x,y,M2,_,hx.mono e2,hy,W1,q2,λw H3 z M3 hz XG e3 q3=>by
  cases z with
  | bl c=>
   refine⟨c,hz.mK,?_⟩;cases c with
   | true=>refine(cX rfl).mpr ⟨δ,M3,_,hs.mono (e1.trans (e2.trans e3)),XG,(cX rfl).mp q3,λw' H4 d M4 hd hm4 e4 q4=>⟨y,d,M4,Q,hy.mono (e3.trans e4),hd,hm4,q4,vI (e1.trans (e2.trans (e3.trans e4))) k⟩⟩
   | false=>exact(cV dn).mpr (k _ H3 _ M3 .bl XG (e1.trans (e2.trans e3)) ((cV dn).mp q3))
  | _=>exact q3.elim⟩⟩⟩
def GW{op XA:CmpOp}(hu:X.A.units+9<cLine)(ha:E3 X a ta)(hb:E3 X b tb)(hc:E3 X c tc)(hmk:lastMarks [op,XA] [b,c]=false:=by rfl):
  B3 X (.Compare a [op,XA] [b,c] pos) (b3 (IT op XA ta tb tc)):=PT.mono (MD (JZ op hu) (JZ XA hu) ha hb hc hmk) λσ H Q' zz=>x7 zz λδ M Q hs hm ht k=>
 ⟨δ,M,_,hs,hm,ht,λv H1 x M1 hx WK e1 q1=>⟨δ,M1,_,hs.mono e1,WK,q1,λu H2 y M2 hy W1 e2 q2=>⟨x,y,M2,_,hx.mono e2,hy,W1,q2,λw H3 z M3 hz XG e3 q3=>by
  cases z with
  | bl c=>
   refine⟨c,hz.mK,?_⟩;cases c with
   | true=>
    refine(cX rfl).mpr ⟨δ,M3,_,hs.mono (e1.trans (e2.trans e3)),XG,(cX rfl).mp q3,λw' H4 d M4 hd hm4 e4 q4=>⟨y,d,M4,_,hy.mono (e3.trans e4),hd,hm4,q4,λw5 H5 d5 M5 hd5 hm5 e5 q5=>?_⟩⟩;cases d5 with
    | bl c5=>exact⟨c5,hd5.mK,k c5 H5 M5 hm5 (e1.trans (e2.trans (e3.trans (e4.trans e5)))) q5⟩
    | _=>exact q5.elim
   | false=>exact(cV dn).mpr ⟨false,rfl,k false H3 M3 XG (e1.trans (e2.trans e3)) ((cV dn).mp q3)⟩
  | _=>exact q3.elim⟩⟩⟩
structure WD(K:qr)(C:Addr):Prop where
 ha:W.findIn K (.ref C) "__class__"=some (some (.builtin "object.__class__"))
 hn:W.specialIn K (.builtin "object.__class__") "__get__"=some (some (.builtin "getset_descriptor.__get__"))
 htk:W.takesIn K (.builtin "object.__class__")=some true
 hm:W.mroIn K C (.type "object")=some true
def FT:List D->Option (List Bool)
 | []=>some []
 | .bl b::r=>(FT r).map (b::·)
 | _::_=>none
theorem Et{K:qr}{H:Hp}:∀{ds:List D} {bs:List Bool} {xs:List V} {us:List Vl},FT ds=some bs->qd K H ds xs->qz xs us->us=bs.map Value.bool
 | [],bs,xs,us,e,h,r=>by cases e;have:=h.nil_inv;subst this;cases r;rfl
 | d::ds,bs,xs,us,e,h,r=>by
  cases d with
  | bl b=>
   obtain⟨y,ys,rfl,h1,h2⟩:=h.inv;cases h1.mK;unfold FT at e;cases q:FT ds with
   | none=>rw[q]at e;cases e
   | some cs=>
    rw[q]at e;cases e;cases r with
    | cons r1 r2=>cases r1;rw[Et q h2 r2];rfl
  | _=>cases e
def TN(ds:List D)(M:Mp)(Q:DK):Prop:=match ds with
 | [.ref a]=>(oS M a).elim False λes=>(FT es).elim False λbs=>Q (.bl (bs.all id)) M
 | _=>False
def E5(hc:X.calm=true):C3 X (.builtin "all") TN:=by
 intro WI s σ H vs us Q' I rv h;obtain⟨ds,M,Q,hd,hm,q,k⟩:=h;unfold TN at q;split at q
 .rename_i a;obtain⟨v,rfl,hv⟩:=se hd;obtain⟨es,e0,q⟩:=qX q;obtain⟨bs,e1,q⟩:=qX q;cases hv.mG;obtain⟨u,rfl,ru⟩:=yq rv;cases ru;obtain⟨xs,h1,h2,_⟩:=qw hm e0;obtain⟨its,r,pl,hz⟩:=I.list h1;have ZQ:=Et e1 h2 r;subst ZQ;have W8:a≠s.heap.objs.size:=by obtain⟨o,_,e,_⟩:=pl;exact dB (dh e)
  refine call_all_walk (gT pl.isList ?_);refine⟨s.heap.objs.size,_,_,_,_,_,λi=>(bs[i]?).getD true,rfl,kg (A:=X.A.in1) (I.ok.hd hc) _ a W8 (bs.map Value.bool).toArray,⟨⟨_,dA _ rfl,rfl,rfl⟩,?_⟩,λi v s' Q E hP hQ=>?_,λh' tk hk=>?_⟩
  .obtain⟨o,n,e,c,d,q⟩:=pl;exact⟨o,cW _ e,c,n,q⟩
  .simp only[iJ,dq]at hP;cases e2:bs[i]? with
   | none=>rw[e2]at hP;cases hP
   | some b=>rw[e2]at hP;cases hP;have hQ:Q ((bs[i]?).getD true) s':=hQ;rw[e2]at hQ;exact fg hQ
  .have ea:(List.range (bs.map Value.bool).toArray.size).all (λi=>(bs[i]?).getD true)=bs.all id:=by
    rw[dg,cQ];rw[gi,eA,eA];constructor
    .intro z b hb;obtain⟨i,hi,e⟩:=gL hb;have:=z i (gb.mpr hi);rw[cU hi,e]at this;exact this
    .intro z i hi;have Yi:=gb.mp hi;rw[cU Yi];exact z _ (hW Yi)
   rw[ea];refine⟨.bl (bs.all id),H,?_,rfl,k _ _ _ _ .bl hm .refl q⟩;exact I.kept (h':=h') (t':=tk) λb o e=>hk b o (by simpa using dB (dh e)) (cW _ e)
 .exact q.elim
def AA(x:D):List D->Option Nat
 | []=>none
 | d::r=>if NY d x=true then some 0 else(AA x r).map (·+1)
theorem II{K:qr}{H:Hp}{e:D}{w:V}(g:rN K H e w)(fe:uQ e=true):∀{ds:List D} {xs:List V} {us:List Vl} {j:Nat},qd K H ds xs->qz xs us->ds.all uQ=true->AA e ds=some j->
  ∃h:j<us.length,Ef w us[j]=true/\∀m (hm:m<us.length),m<j->Ef w us[m]=false
 | [],_,_,_,_,_,_,q=>by cases q
 | d::ds,_,us,j,h,r,fl,q=>by
  obtain⟨y,ys,rfl,h1,h2⟩:=h.inv;rw[eO,dO]at fl;cases r with
  | @cons _ u _ us' r1 r2=>
   have eu:Ef w u=NY d e:=by rw[HK r1 (zE h1 fl.1),JH h1 g fl.1 fe]
   unfold AA at q;by_cases hq:NY d e=true
   .rw[cX hq]at q;cases q;exact⟨by simp,by simpa [eu]using hq,λm _ hm=>absurd hm (Nat.not_lt_zero m)⟩
   .rw[cV hq]at q;cases q2:AA e ds with
    | none=>rw[q2]at q;cases q
    | some j'=>
     rw[q2]at q;cases q;obtain⟨hl,e1,e2⟩:=II g fe h2 r2 fl.2 q2;refine⟨by simpa using hl,by simpa using e1,λm hm WW=>?_⟩;cases m with
     | zero=>simpa [eu]using hq
     | succ m=>simpa using e2 m (by simpa using hm) (by have z:m+1<j'+1:=WW;omega)
def Q7(x:D)(ds:List D)(M:Mp)(Q:DK):Prop:=match x,ds with
 | .ref a,[y]=>(oS M a).elim False λes=>uQ y=true/\es.all uQ=true/\(AA y es).elim False λj=>Q (.int (j:Nat)) M
 | _,_=>False
def M3(X:Cx)(id:String)(r:D->List D->Mp->DK->Prop):Prop:=Wk X id λvx vs H Q'=>∃x ds M Q,rN X.K H x vx/\qd X.K H ds vs/\HM X.K H M/\r x ds M Q/\Up X.K H Q' Q
def Nq:M3 X "list.index" Q7:=by
 intro WI s σ H vx vs v us Q' I rx rv h;obtain⟨x,ds,M,Q,hx,hd,hm,q,k⟩:=h;unfold Q7 at q;split at q
 .rename_i a y;obtain⟨es,e0,f1,f2,q⟩:=qX q;obtain⟨j,e1,q⟩:=qX q;cases hx.mG;cases rx;obtain⟨w,rfl,hw⟩:=se hd;obtain⟨u,rfl,ru⟩:=yq rv;obtain⟨xs,h1,h2,rd⟩:=qw hm e0;obtain⟨hz,its,n,r,g⟩:=rd.ok I.mP;obtain⟨hl,p1,p2⟩:=II hw f1 h2 r f2 e1;have hlz:its.length<=sizeLine:=by rw[<-r.length];exact hz
  have h63:=yN;refine jp F.slot_list_index ⟨_,g,rfl⟩ F.entry_list_index (F.args_list_index_2 _ _) (SeqAt.list_indexAt a its.toArray n none #[] u (Ef w) j (by simpa using hl) (by omega) (by simpa using p1) λm hm WW=>by simpa using p2 m (by simpa using hm) WW) ⟨g,?_,?_⟩
  .intro z hz';exact wm ru (zE hw f1) r (EC h2 f2) z (by simpa using hz')
  .exact⟨.int (j:Nat),H,I.tok _,⟨_,rfl⟩,k _ _ _ _ .int hm .refl q⟩
 .exact q.elim
def QL(M:Mp):D->Prop
 | .ref a=>(oS M a).isSome=true
 | _=>False
def Vk(r:D->List D->Mp->DK->Prop)(to:T3)(t:xl):T3:=λδ M Q=>to δ M λx M1=>QL M1 x/\t δ M1 λds M2=>r x ds M2 Q
def SB{K:qr}{H:Hp}{M:Mp}{x:D}{v:V}(hm:HM K H M)(h:rN K H x v)(l:QL M x):Vt K "list" v H:=by
 cases x with
 | ref a=>cases h.mG;obtain⟨ds,e⟩:=jx.mp (show(oS M a).isSome=true from l);obtain⟨xs,h1,_⟩:=qw hm e;exact .inl ⟨rfl,xs,h1⟩
 | _=>exact l.elim
def Qi{id:String}{name:Str}{r:D->List D->Mp->DK->Prop}(slot:Slot "list" name id)(hty:typeOf (.builtin id)=pure (.type "method_descriptor"))(hm:M3 X id r)(ho:E3 X o ta)(ha:A3 X (e::es) t) (WV:attributeBase o name X.env (eval o X.env)=eval o X.env:=by rfl)
  (X2:((backTo pos (starEach (e::es) X.env)).all (λx=>!x.1)&&(backToKw pos (keywordEach [] X.env)).all (λx=>x.1.isSome)
   &&decide ((e::es).length+([]:List Keyword).length+(if ([]:List Keyword).isEmpty then 0 else 1)<30))=true:=by rfl)
  (W6:(WL.endLine==pos.line)=true:=by rfl) (hs:A9 X e es:=by rfl) (W0:CC X pos es:=by rfl):
  E3 X (.Call (.Attribute o name WL) (e::es) [] pos) (Vk r ta t):=PE.mono (TC PySem.F.plainAttrs_list slot hty hm ho ha WV X2 W6 hs W0) λσ H Q' zz=>x7 zz λδ M Q hs hm ht k=>
 ⟨δ,M,_,hs,hm,ht,λv H1 x M1 hx WK e1 q1=>⟨SB WK hx q1.1,δ,M1,_,hs.mono e1,WK,q1.2,λvs H2 ds M2 X1 W1 e2 q2=>⟨x,ds,M2,Q,hx.mono e2,X1,W1,q2,vI (e1.trans e2) k⟩⟩⟩
def xI(ho:E3 X o ta)(ha:A3 X (e::es) t) (WV:attributeBase o "index" X.env (eval o X.env)=eval o X.env:=by rfl)
  (X2:((backTo pos (starEach (e::es) X.env)).all (λx=>!x.1)&&(backToKw pos (keywordEach [] X.env)).all (λx=>x.1.isSome)
   &&decide ((e::es).length+([]:List Keyword).length+(if ([]:List Keyword).isEmpty then 0 else 1)<30))=true:=by rfl)
  (W6:(WL.endLine==pos.line)=true:=by rfl) (hs:A9 X e es:=by rfl) (W0:CC X pos es:=by rfl):
  E3 X (.Call (.Attribute o "index" WL) (e::es) [] pos) (Vk Q7 ta t):=Qi PySem.F.slot_list_index PySem.F.type_list_index Nq ho ha WV X2 W6 hs W0
structure LB(K:qr)(C:Addr)(m:Str)(f:Addr):Prop where
 hg:W.specialIn K (.ref C) "__getattribute__"=some (some (.builtin "type.__getattribute__"))
 rd:W.readsIn K C (.type "type")=true
 fc:W.findCls K (.ref C) (.type "type") m=some (.val (.ref f))
def NT{sp:Sp}{t:TA}{pl:Sem Bool}(cm:LB X.K C m f)(F:xh X.prog X.w X.K X.mg X.base NH k f fd ps sp)(hr:rS k X.A)(hg:Gl X x)(hm:X.mg x=some (.ref C))(hk:W.keepIn X.K (.ref f)=true)(hb:uK X.K fd ps [])(ha:PA X (e::es) t) (W2:zG x:=by decide) (W7:A9 X e es:=by rfl) (WY:CC X pos es:=by rfl)
  (ht:eval (.Call (.Attribute (.Name x p) m WL) (e::es) [] pos) X.env=(do
   let ov<-eval (.Name x p) X.env
   standAt WL.atName
   let(f,first)<-holding [ov] (getMethod ov m pl)
   callWith pos f first (backTo pos (starEach (e::es) X.env)) (backToKw pos (keywordEach [] X.env))):=by rfl):
  PE X (.Call (.Attribute (.Name x p) m WL) (e::es) [] pos) (λσ H Q=>t σ H λvs H1=>sp vs H1 Q E0):=by
 intro WI s σ H Q I h;refine jS (pl:=pl) (wV I hg hm ?_ W2) ht;refine W.method_cls I.ny cm.hg (W.cls_value I.ny cm.rd cm.fc rfl ?_);refine iL (first:=[]) (h₀:=X.base) I.ok.mod.oA hk (so (ha pos WI _ σ H _ (I.tok _) h) λus s2 zz=>x5 zz λvs H2 I2 r q2=>⟨I2.ny,?_⟩) W7 WY;exact E1 F hr hb .nil (GK (X:=X)) I2 r (by rw[eU];exact q2)
def O0{pl:Sem Bool}(cm:LB X.K C m f)(F:SV X.prog X.w X.K X.mg X.base k f fd ps sp)(hr:rS k X.A)(hg:Gl X x)(hm:X.mg x=some (.ref C))(hk:W.keepIn X.K (.ref f)=true)(hb:uK X.K fd ps [])(ha:A3 X (e::es) t) (W2:zG x:=by decide) (W7:A9 X e es:=by rfl) (WY:CC X pos es:=by rfl)
  (ht:eval (.Call (.Attribute (.Name x p) m WL) (e::es) [] pos) X.env=(do
   let ov<-eval (.Name x p) X.env
   standAt WL.atName
   let(f,first)<-holding [ov] (getMethod ov m pl)
   callWith pos f first (backTo pos (starEach (e::es) X.env)) (backToKw pos (keywordEach [] X.env))):=by rfl):
  E3 X (.Call (.Attribute (.Name x p) m WL) (e::es) [] pos) (DT sp t):=PE.mono (NT cm F hr hg hm hk hb ha W2 W7 WY ht) λσ H Q' zz=>x7 zz λδ M Q hs hm ht k=>
 ⟨δ,M,_,hs,hm,ht,λvs H1 ds M1 hd WK e1 q1=>⟨ds,M1,Q,hd,WK,q1,vI e1 k⟩⟩
def qp:bootBuiltins "len"=some (.builtin "len"):=by decide+kernel
def Ll:bootBuiltins "min"=some (.builtin "min"):=by decide+kernel
def Fw:bootBuiltins "all"=some (.builtin "all"):=by decide+kernel
def sf:bootBuiltins "tuple"=some (.type "tuple"):=by decide+kernel
def sv:bootBuiltins "list"=some (.type "list"):=by decide+kernel
def D8:bootBuiltins "dict"=some (.type "dict"):=by decide+kernel
def E6:bootBuiltins "enumerate"=some (.type "enumerate"):=by decide+kernel
def RN:bootBuiltins "zip"=some (.type "zip"):=by decide+kernel
end
theorem _root_.L2.Inv.drawn{ch:List Addr}{T:Addr}{xs:List V}{its:List Vl}{h':Heap}{tk:Nat}(I:Inv X WI σ H s)(XI:∀b∈ch,AQ X WI H b)(k:∀b o,b∉ch->s.heap.get? b=some o->h'.get? b=some o)(hT:s.heap.objs.size<=T)(hx:xs.length<=sizeLine) (rv:qz xs its) (ht:Eb h' T its.toArray):Inv X WI σ (upd H T (.tup xs)) {s with heap:=h',toks:=tk}:=by
 have YZ:H T=none:=I.mP.fresh hT;have nT:∀b o,s.heap.get? b=some o->b≠T:=λb o e=>dB (dJ (dh e) hT);refine I.step (g':=s.gens) (d':=s.drawn) (ch:=ch) (λb hb=>⟨(XI b hb).2.2.2.1,(XI b hb).2.1,(XI b hb).2.2.2.2.1,(XI b hb).2.2.2.2.2⟩) (λb o _ _ hc e _=>k b o hc e) (λb o _ _ hc e _=>⟨o.slots,k b o hc e⟩) (λb o _ e n=>by rw[qc (nT b o e)];exact n)
  (λb o hc e=>⟨o,k b o hc e⟩) (λb ys e=>by rw[qc (qN e YZ)];exact e) (λb o u e=>by rw[qc (qN e YZ)];exact e) (λb ps e=>⟨#[],by rw[qc (qN e YZ),e];simp⟩) (λm hm=>?_) (λb u e=>?_) I.bare
 .obtain⟨o,es,ep,ho,r⟩:=hm;exact⟨o,es,ep,k _ o (λz=>(XI _ z).2.1 rfl) ho,r⟩
 .by_cases hb:b=T
  .subst hb;rw[qg]at e;cases e;exact⟨hx,its,rv,ht⟩
  .rw[qc hb]at e;refine(I.mP b u e).nj (λc v hc q=>k c v (λz=>?_) q) (λc q=>by rw[qc (qN q YZ)];exact q) (λc ys q=>by rw[qc (qN q YZ)];exact q);have n:=(XI c z).1;rcases hc with y|y
   .rw[y,e]at n;cases n
   .rw[y]at n;cases n
def VU(K:qr)(a:Addr):It:=
 ⟨λi H=>∃xs x,yX K H a xs/\xs[i]?=some x,λi H x H'=>∃p y,x=.ref p/\H p=none/\H'=upd H p (.tup [.int (i:Nat),y])/\∀xs,yX K H a xs->xs[i]?=some y,λi H=>∃xs,yX K H a xs/\xs.length<=i⟩
def Kq{P:Pg}{w:Wo}{K:qr}{Xj:List Expr}{n:Nat}{tp:Pos}(a e it:Addr)(hei:e≠it):Gz P w K (.Tuple Xj n tp) (VU K a) [e,it] e (λi h=>(∃old,IsEnum h e it (i:Nat) old)/\h.IsListIter it a i) where
 mem:=by simp
 obj:=λi h st b hb=>by
  obtain⟨⟨old,he⟩,o,e1,c,d⟩:=st;rcases cY.mp hb with rfl|hb
  .exact⟨_,he,λv z=>by cases z⟩
  .rw[df.mp hb];exact⟨o,e1,λv z=>by rw[d]at z;cases z⟩
 keep:=λi h h' st k=>by obtain⟨⟨old,he⟩,hi⟩:=st;exact⟨⟨old,k e (by simp) _ he⟩,hi.at λo q=>k it (by simp) o q⟩
 item:=by
  intro X hP hw hK hc i WI s σ H E I hf st hg;subst hP hw hK;obtain⟨xs,x,hq,hx⟩:=hg;obtain⟨its,rv,p,hz⟩:=I.list hq;obtain⟨u,hu,ru⟩:=rv.get hx;obtain⟨⟨old,he⟩,hi⟩:=st;refine wpAny_pyNext_enum_item he hi p.isList (x:=u) (by simpa using hu) hei λh1 ho Xx hT hsz hk=>?_;refine⟨_,rfl,wpAny_letOwnedTupleGo_enum ho λh2 he2 XW=>?_⟩;have helt:e<s.heap.objs.size:=dh he;have hilt:it<s.heap.objs.size:=by obtain⟨o,q,_⟩:=hi;exact dh q
  have kk:∀b o,b∉[e,it]->s.heap.get? b=some o->h2.get? b=some o:=λb o hb q=>(XW.2 b λz=>hb (by simp[z])).trans (hk b o (λz=>hb (by simp[z])) (λz=>hb (by simp[z])) q);have hT2:h2.get? s.heap.objs.size=some {cls:=.type "tuple",data:=.seq #[.int (i:Nat) s.toks,u]}:=(XW.2 _ (gH helt)).trans hT;have YZ:H s.heap.objs.size=none:=I.mP.fresh (cZ _);have I2:=I.drawn (ch:=[e,it]) (T:=s.heap.objs.size) (xs:=[.int (i:Nat),x]) (its:=[.int (i:Nat) s.toks,u]) (h':=h2) (tk:=s.toks+1) hf kk (cZ _) (by show 2<=sizeLine;decide) (.cons ⟨_,rfl⟩ (.cons ru .nil)) ⟨_,hT2,rfl,⟨_,rfl⟩,rfl⟩;refine⟨.ref s.heap.objs.size,_,I2,rfl,⟨_,x,rfl,YZ,rfl,λys hy=>by rw[I.nO hy hq];exact hx⟩,⟨⟨_,by simpa using he2⟩,Xx.extBut XW.extBut (dI hei)⟩,λb hb=>?_⟩;have XC:b<s.heap.objs.size:=by
   rcases cY.mp hb with z|z
   .rw[z];exact helt
   .rw[df.mp z];exact hilt
  rw[qc (dB XC)];exact(hf b hb).1
 done:=by intro X hP hw hK hc i WI s σ H E I hf st hg;subst hP hw hK;obtain⟨xs,hq,hx⟩:=hg;obtain⟨its,rv,p,hz⟩:=I.list hq;obtain⟨⟨old,he⟩,hi⟩:=st;have hl:=rv.length;obtain⟨f0,f1,f2,f3,f4,f5⟩:=hf it (by simp);exact wpAny_pyNext_enum_end (I.ok.hd hc) he hi p.isList (by simp;omega) λh' eb=>⟨rfl,I.turned (t':=s.toks) (λb o hb q=>eb b o hb q) f0 f1 f3 f4 f5⟩
 self:=λ_ _ _ _ _ st h=>by obtain⟨⟨old,he⟩,_⟩:=st;exact lu he h
variable {tp:Pos}{Xj:List Expr}{n:Nat}
def OL{a:Expr}{ta:TA}(hg:Gl X "enumerate")(hm:X.mg "enumerate"=none)(ha:PA X [a] ta)(hs:starEach [a] X.env=[(false,eval a X.env)]:=by rfl):
  PI X (.Tuple Xj n tp) (.Call (.Name "enumerate" p) [a] [] pos) (λσ H R=>ta σ H λvs H1=>∃l,vs=[.ref l]/\(∃xs,yX X.K H1 l xs)/\R (VU X.K l) H1):=by
 intro WI s σ H R I h;refine Call_ (wW I hg hm E6 (fG (so (ha pos WI s σ H _ I h) λus s1 zz=>x5 zz λvs H1 I1 r1 q1=>?_) hs rfl));obtain⟨l,e,⟨xs,hq⟩,q⟩:=q1;subst e;obtain⟨u,rfl,ru⟩:=yq r1;cases ru;obtain⟨its,rv,pl,hz⟩:=I1.list hq;refine call_enumerate_list pl.isList λh' he hi hsz hk=>?_;refine lu he ?_;have I2:Inv X WI σ H1 {s1 with heap:=h'}:=I1.kept (t':=s1.toks) hk;refine⟨s1.heap.objs.size+1,[s1.heap.objs.size+1,s1.heap.objs.size],_,_,H1,rfl,I2,Kq l _ _ (Nat.succ_ne_self _),⟨⟨_,he⟩,hi⟩,λb hb=>?_,q⟩;have XC:s1.heap.objs.size<=b:=by
  rcases cY.mp hb with z|z
  .rw[z];exact gS _
  .rw[df.mp z];exact cZ _
 exact I1.nU XC (I1.mP.fresh XC)
def ux:Nat->List D->List D
 | _,[]=>[]
 | i,d::r=>.tup [.int (i:Nat),d]::ux (i+1) r
theorem zy:∀{ds:List D} {i j:Nat},(ux j ds)[i]?=(ds[i]?).map λd=>D.tup [.int ((j+i:Nat):Int),d]
 | [],i,j=>by simp[ux]
 | d::r,0,j=>by simp[ux]
 | d::r,i+1,j=>by show(ux (j+1) r)[i]?=_;rw[zy];simp only[List.getElem?_cons_succ];rw[show j+1+i=j+(i+1)by omega]
theorem vm:∀{ds:List D} {j:Nat},(ux j ds).length=ds.length
 | [],j=>rfl
 | d::r,j=>by simp[ux,vm]
def MF{K:qr}{H1:Hp}{a:Addr}{ds:List D}:F6 K H1 (VU K a) (ux 0 ds) (λM=>oS M a=some ds) where
 go:=λi H M hi hm ok _=>by rw[vm]at hi;obtain⟨xs,h1,h2,_⟩:=qw hm ok;obtain⟨x,e,_⟩:=h2.get (cU hi);exact⟨xs,x,h1,e⟩
 oN:=λi d H M x H' hd hm ok _ y=>by
  obtain⟨xs,h1,h2,_⟩:=qw hm ok;obtain⟨p,z,rfl,hp,rfl,y⟩:=y;rw[zy]at hd;cases e:ds[i]? with
  | none=>rw[e]at hd;cases hd
  | some d'=>rw[e]at hd;cases hd;obtain⟨x',e',hx⟩:=h2.get e;have w1:=y xs h1;rw[e']at w1;have w2:x'=z:=c9 w1;subst w2;have ex:qL K H (upd H p (.tup [.int (i:Nat),x'])):=.new hp;refine⟨.tup (.of qg) (.cons (by rw[mv];exact .int) (.cons (hx.mono ex) .nil)),hm.add hp,ex⟩
 stop:=λH M hm ok _=>by obtain⟨xs,h1,h2,_⟩:=qw hm ok;exact⟨xs,h1,by rw[vm,h2.length];exact cZ _⟩
def Se(t:xl):NF:=λδ M R=>t δ M λds M1=>match ds with
 | [.ref a]=>(oS M1 a).elim False λes=>R (ux 0 es) (λM=>oS M a=some es) M1
 | _=>False
def wU{a:Expr}{ta:xl}(hg:Gl X "enumerate")(hm:X.mg "enumerate"=none)(ha:A3 X [a] ta)(hs:starEach [a] X.env=[(false,eval a X.env)]:=by rfl):I3 X (.Tuple Xj n tp) (.Call (.Name "enumerate" p) [a] [] pos) (Se ta):=
 PI.mono (OL hg hm ha hs) λσ H R' zz=>x7 zz λδ M R hs hm ht k=>⟨δ,M,_,hs,hm,ht,λvs H1 ds M1 hd WK e1 q1=>by
  split at q1
  .obtain⟨v,rfl,hv⟩:=se hd;cases hv.mG;obtain⟨es,e0,q⟩:=qX q1;obtain⟨xs,h1,h2,_⟩:=qw WK e0;exact⟨_,rfl,⟨xs,h1⟩,k _ H1 _ _ M1 MF WK e1 e0 q⟩
  .exact q1.elim⟩
variable {prog:Pg}{A:Ar}{E:Vl→Sd→Prop}
def Im{it t:Addr}{i:Nat}{its:Array Vl}{x:Vl}{Q:Vl->Sd->Prop}(hi:s.heap.IsTupleIter it t i)(ht:s.heap.IsTuple t its)(hx:its[i]?=some x) (hQ:∀g,g.IsTupleIter it t (i+1)->Heap.SameBut it s.heap g->Q x {s with heap:=g}):wpAny (model prog w) A (Builtin.SmallTypes.nextOf (.ref it)) Q E s:=by
 obtain⟨ob,e1,e2,e3⟩:=id hi;obtain⟨ot,e4,_,nt,e5⟩:=ht;unfold Builtin.SmallTypes.nextOf;refine cR (fJ (name:=Str.ofString "__next__") hi.typeIs gC (fP gC hi.typeIs jd ?_ (iZ _)));show wpAny (model prog w) _ (field (.ref it) 0>>=_) _ _ s;refine cR (eZ e1 e3 (x:=.ref t) rfl ?_);show wpAny (model prog w) _ (if (Value.ref t==Value.none)=true then _ else _) _ _ s;rw[cV (show ¬(Value.ref t==Value.none)=true from dn)];show wpAny (model prog w) _ (field (.ref it) 1>>=_) _ _ s;refine cR (eZ e1 e3 (x:=.int i 0) rfl ?_);show wpAny (model prog w) _ (seqItems? (.ref t)>>=_) _ _ s;refine cR (gw e4 e5 ?_);simp only[jj,hx];refine cR (g9 e1 e3 (by simp) (de ⟨x,rfl,de (hQ _ ⟨_,fD _ e1 (Obj.isFreed_of_fields (kQ e3 _)),(Obj.cls_mapFields ..).trans e2,?_⟩ (kA ..))⟩));rw[kQ e3];simp[rawInt]
def BK{it t:Addr}{i:Nat}{its:Array Vl}{Q:Vl->Sd->Prop}(hh:A.handled=none)(hi:s.heap.IsTupleIter it t i)(ht:s.heap.IsTuple t its)(hx:its[i]?=none) (hE:∀g e,Heap.ExtBut it s.heap g->(∃o,g.get? e=some o/\o.cls=.type "StopIteration")->E (.ref e) {s with heap:=g}):wpAny (model prog w) A (Builtin.SmallTypes.nextOf (.ref it)) Q E s:=by
 obtain⟨ob,e1,e2,e3⟩:=id hi;obtain⟨ot,e4,_,nt,e5⟩:=ht;unfold Builtin.SmallTypes.nextOf;refine cR (fJ (name:=Str.ofString "__next__") hi.typeIs gC (fP gC hi.typeIs jd ?_ (iZ _)));show wpAny (model prog w) _ (field (.ref it) 0>>=_) _ _ s;refine cR (eZ e1 e3 (x:=.ref t) rfl ?_);show wpAny (model prog w) _ (if (Value.ref t==Value.none)=true then _ else _) _ _ s;rw[cV (show ¬(Value.ref t==Value.none)=true from dn)];show wpAny (model prog w) _ (field (.ref it) 1>>=_) _ _ s;refine cR (eZ e1 e3 (x:=.int i 0) rfl ?_);show wpAny (model prog w) _ (seqItems? (.ref t)>>=_) _ _ s;refine cR (gw e4 e5 ?_);simp only[jj,hx];refine cR (ke (cR (g9 e1 e3 (by simp) ?_)));show wpAny (model prog w) _ (newExc (.type "StopIteration") []>>=_) _ _ _;refine cR ?_;simp only[newExc,newTuple];refine cR (fQ ?_ (by size_fits));refine cR (m:=firstArgMember _ _) (wpAny_of_eq (a:=Value.none) (by first|rfl|(simp only[firstArgMember];rfl)) ?_);refine fQ ?_ (by size_fits);simp only[raiseNew];refine cR (wpAny_handled ?_)
 first|rw[show A.in1.handled=none from hh]|rw[hh]
 refine cR (de (wpAny_throw (hE _ _ (((kA ..).extBut.push _).push _) ⟨_,dA _ rfl,rfl⟩)))
def xU{prog:Pg}{w:Wo}{A:Ar}(hh:A.handled=none)(it t:Addr)(W8:t≠it)(its:Array Vl):
  Draws prog w A it [it,t] its.size (λi v=>its[i]?=some v) (λi h=>h.IsTupleIter it t i/\h.IsTuple t its) where
 live:=λi h st=>let⟨o,ho,_⟩:=st.1;⟨o,ho⟩
 frame:=λi h g st hk=>by obtain⟨⟨o,e1,e2⟩,⟨o',e3,e4⟩⟩:=st;exact⟨⟨o,hk it (by simp) o e1,e2⟩,⟨o',hk t (by simp) o' e3,e4⟩⟩
 item:=λi s Q E hi st hQ=>Im st.1 st.2 (x:=its[i]) (by simp[hi]) λg hg hs=>hQ _ g s.toks (by simp[hi]) ⟨hg,st.2.extBut hs.extBut W8⟩ hs
 done:=λs Q E st hE=>BK hh st.1 st.2 (by simp) hE
structure Ac(z TI TO i1 i2:Addr)(f1 f2:List Addr):Prop where
 a1:TI≠z
 a2:TO≠z
 a3:i1≠z
 a4:i2≠z
 a5:TI≠TO
 a6:TI≠i1
 a7:TI≠i2
 a8:TO≠i1
 a9:TO≠i2
 o9:i1≠i2
 b1:z∉f1
 b2:TO∉f1
 b3:i2∉f1
 c1:z∉f2
 c2:TO∉f2
 c3:i1∉f2
variable {z TI TO i1 i2:Addr}{f1 f2:List Addr}{n1 n2 k1 k2:Nat}{P1 P2:Nat→Vl→Prop}{S1 S2:Nat→Heap→Prop}
section
variable {a b:Vl}
def rY{fp:List Addr}{it:Addr}{n:Nat}{Pt:Nat->Vl->Prop}{St:Nat->Heap->Prop}(Dr:Draws prog w A it fp n Pt St){i:Nat}{h g:Heap}{c:Addr}(st:St i h)(hs:Heap.SameBut c h g)(hc:c∉fp):St i g:=
 Dr.frame _ _ _ st λd hd o e=>(hs.2 d λq=>hc (q ▸ hd)).trans e
def J5{Q:Vl->Sd->Prop}(D1:Draws prog w A i1 f1 n1 P1 S1)(D2:Draws prog w A i2 f2 n2 P2 S2)(W4:Ac z TI TO i1 i2 f1 f2)(hz:IsZip s.heap z TI TO .none)(hI:IsPair s.heap TI (.ref i1) (.ref i2))(hO:IsPair s.heap TO a b) (Xd:S1 k1 s.heap) (WZ:S2 k2 s.heap) (l1:k1<n1) (l2:k2<n2) (hQ:∀x y g tk,P1 k1 x->P2 k2 y->IsZip g z TI TO (rawInt s.heap.objs.size)->IsPair g TO x y->S1 (k1+1) g->S2 (k2+1) g->IsPair g s.heap.objs.size x y->g.objs.size=s.heap.objs.size+1->
   (∀c o,c≠z->c≠TO->c≠i1->c≠i2->s.heap.get? c=some o->g.get? c=some o)->Q (.ref s.heap.objs.size) {s with heap:=g,toks:=tk}):
  wpAny (model prog w) A (Builtin.«zip.__next__» ⟨[.ref z],[]⟩) (λWN s'=>∃v,WN=.done (.ret v)/\Q v s') E s:=by
 show wpAny (model prog w) A (field (.ref z) 2>>=_) _ _ _;refine cR (eZ hz rfl (x:=.bool false) rfl ?_);show wpAny (model prog w) A (field (.ref z) 3>>=_) _ _ _;refine cR (eZ hz rfl (x:=.ref TI) rfl (cR (gw hI rfl ?_)));show wpAny (model prog w) A (Builtin.SmallTypes.ownedTupleIsFree (.ref z)>>=_) _ _ _;refine cR ?_;unfold Builtin.SmallTypes.ownedTupleIsFree;refine cR (eZ hz rfl (x:=.none) rfl (de ?_));simp only[iX];refine cR (ke (cR (eZ hz rfl (x:=.ref TO) rfl (cR (gz hz (by simp) λg1 z1 Yu=>?_)))));replace z1:IsZip g1 z TI TO .ellipsis:=z1;refine cR ?_;simp only[lO,lX,jO,jY];refine cR (cR (jh ?_));show wpAny (model prog w) A (Builtin.SmallTypes.nextOf (.ref i1)>>=_) _ _ _;have Yv:S1 k1 g1:=rY D1 Xd Yu W4.b1;refine cR (D1.item k1 _ _ _ l1 Yv λx g2 tk2 px st1b XN=>de ?_);replace XN:Heap.SameBut i1 g1 g2:=XN;have o2:IsPair g2 TO a b:=XN.extBut _ _ W4.a8 (Yu.extBut _ _ W4.a2 hO);refine cR (gw o2 rfl (cR (iO o2 λg3 o3 XX=>?_)));replace o3:IsPair g3 TO x b:=o3;replace XX:Heap.SameBut TO g2 g3:=XX;refine cR (lA (de (cR (cR (jh ?_)))));show wpAny (model prog w) A (Builtin.SmallTypes.nextOf (.ref i2)>>=_) _ _ _;have Y0:S2 k2 g3:=rY D2 (rY D2 (rY D2 WZ Yu W4.c1) XN W4.c3) XX W4.c2;refine cR (D2.item k2 _ _ _ l2 Y0 λy g4 tk4 py st2b YI=>de ?_);replace YI:Heap.SameBut i2 g3 g4:=YI;have o4:IsPair g4 TO x b:=YI.extBut _ _ W4.a9 o3;refine cR (gw o4 rfl (cR (iO o4 λg5 o5 YJ=>?_)));replace o5:IsPair g5 TO x y:=o5;replace YJ:Heap.SameBut TO g4 g5:=YJ;refine cR (lA (de (de (cR (gw o5 rfl (cR (wpAny_newTuple ?_)))))));have esz:g5.objs.size=s.heap.objs.size:=by rw[YJ.1,YI.1,XX.1,XN.1,Yu.1]
 have z5:IsZip g5 z TI TO .ellipsis:=YJ.extBut _ _ W4.a2.symm (YI.extBut _ _ W4.a4.symm (XX.extBut _ _ W4.a2.symm (XN.extBut _ _ W4.a3.symm z1)));have kp:∀c o,c≠z->c≠TO->c≠i1->c≠i2->s.heap.get? c=some o->g5.get? c=some o:=λc o q1 q2 q3 q4 q=>YJ.extBut _ _ q2 (YI.extBut _ _ q4 (XX.extBut _ _ q2 (XN.extBut _ _ q3 (Yu.extBut _ _ q1 q))));have st1c:S1 (k1+1) g5:=rY D1 (rY D1 (rY D1 st1b XX W4.b2) YI W4.b3) YJ W4.b2;have st2c:S2 (k2+1) g5:=rY D2 st2b YJ W4.c2;have zlt:z<g5.objs.size:=dh z5;show wpAny (model prog w) A (Builtin.SmallTypes.ownedTupleHandOut (.ref z) (.ref g5.objs.size)>>=_) _ _ _;refine cR ?_;unfold Builtin.SmallTypes.ownedTupleHandOut;have z6:IsZip (g5.push {cls:=.type "tuple",data:=.seq #[x,y]}) z TI TO .ellipsis:=cW _ z5;refine cR (gz z6 (by simp) λg7 z7 sb7=>?_);replace z7:IsZip g7 z TI TO (rawInt g5.objs.size):=z7;refine gz z7 (by simp) λg8 z8 sb8=>?_;replace z8:IsZip g8 z TI TO (rawInt g5.objs.size):=z8;have up:∀c o,c≠z->g5.get? c=some o->g8.get? c=some o:=λc o q1 q=>sb8.extBut _ _ q1 (sb7.extBut _ _ q1 (cW _ q));have tu:IsPair g8 g5.objs.size x y:=sb8.extBut _ _ (gH zlt) (sb7.extBut _ _ (gH zlt) (dA _ rfl));have es8:g8.objs.size=g5.objs.size+1:=by rw[sb8.1,sb7.1,fj]
 rw[esz]at z8 tu es8;refine de ⟨_,rfl,?_⟩;show Q (.ref g5.objs.size) _;rw[esz];exact hQ x y g8 _ px py z8 (up _ _ W4.a2 o5) (D1.frame _ _ _ st1c λc hc o q=>up c o (λr=>W4.b1 (r ▸ hc)) q) (D2.frame _ _ _ st2c λc hc o q=>up c o (λr=>W4.c1 (r ▸ hc)) q) tu es8 λc o q1 q2 q3 q4 q=>up c o q1 (kp c o q1 q2 q3 q4 q)
def Lu{Q:Fin->Sd->Prop}(D1:Draws prog w A i1 f1 n1 P1 S1)(D2:Draws prog w A i2 f2 n2 P2 S2)(W4:Ac z TI TO i1 i2 f1 f2)(hz:IsZip s.heap z TI TO .none)(hI:IsPair s.heap TI (.ref i1) (.ref i2))(hO:IsPair s.heap TO a b) (Xd:S1 k1 s.heap) (WZ:S2 k1 s.heap) (ZR:k1=n1\/(k1<n1/\k1=n2)) (hE:∀g e,(∀c o,c≠z->c≠TO->c≠i1->c≠i2->s.heap.get? c=some o->g.get? c=some o)->(∃o,g.get? e=some o/\o.cls=.type "StopIteration")->∀tk,E (.ref e) {s with heap:=g,toks:=tk}):
  wpAny (model prog w) A (Builtin.«zip.__next__» ⟨[.ref z],[]⟩) Q E s:=by
 show wpAny (model prog w) A (field (.ref z) 2>>=_) _ _ _;refine cR (eZ hz rfl (x:=.bool false) rfl ?_);show wpAny (model prog w) A (field (.ref z) 3>>=_) _ _ _;refine cR (eZ hz rfl (x:=.ref TI) rfl (cR (gw hI rfl ?_)));show wpAny (model prog w) A (Builtin.SmallTypes.ownedTupleIsFree (.ref z)>>=_) _ _ _;refine cR ?_;unfold Builtin.SmallTypes.ownedTupleIsFree;refine cR (eZ hz rfl (x:=.none) rfl (de ?_));simp only[iX];refine cR (ke (cR (eZ hz rfl (x:=.ref TO) rfl (cR (gz hz (by simp) λg1 z1 Yu=>?_)))));replace z1:IsZip g1 z TI TO .ellipsis:=z1;refine cR ?_;simp only[lO,lX,jO,jY];refine cR (cR (jh ?_));show wpAny (model prog w) A (Builtin.SmallTypes.nextOf (.ref i1)>>=_) _ _ _;have Yv:S1 k1 g1:=rY D1 Xd Yu W4.b1;rcases ZR with he|⟨WW,he⟩
 .rw[he]at Yv;refine cR (D1.done _ _ _ Yv λg2 e XN hx=>?_);obtain⟨oe,g,ZS⟩:=hx;have z2:IsZip g2 z TI TO .ellipsis:=XN _ _ W4.a3.symm z1;have hez:e≠z:=λq=>by subst q;rw[z2]at g;cases g;simp at ZS
  exact gz z2 (by simp) λg3 _ XX=>hE g3 e (λc o q1 _ q3 _ q=>XX.extBut _ _ q1 (XN _ _ q3 (Yu.extBut _ _ q1 q))) ⟨oe,XX.extBut _ _ hez g,ZS⟩ _
 .refine cR (D1.item k1 _ _ _ WW Yv λx g2 tk2 px st1b XN=>de ?_);replace XN:Heap.SameBut i1 g1 g2:=XN;have o2:IsPair g2 TO a b:=XN.extBut _ _ W4.a8 (Yu.extBut _ _ W4.a2 hO);refine cR (gw o2 rfl (cR (iO o2 λg3 o3 XX=>?_)));replace XX:Heap.SameBut TO g2 g3:=XX;refine cR (lA (de (cR (cR (jh ?_)))));show wpAny (model prog w) A (Builtin.SmallTypes.nextOf (.ref i2)>>=_) _ _ _;have Y0:S2 k1 g3:=rY D2 (rY D2 (rY D2 WZ Yu W4.c1) XN W4.c3) XX W4.c2;rw[he]at Y0;refine cR (D2.done _ _ _ Y0 λg4 e YI hx=>?_);obtain⟨oe,g,ZS⟩:=hx;have z4:IsZip g4 z TI TO .ellipsis:=YI _ _ W4.a4.symm (XX.extBut _ _ W4.a2.symm (XN.extBut _ _ W4.a3.symm z1));have hez:e≠z:=λq=>by subst q;rw[z4]at g;cases g;simp at ZS
  exact gz z4 (by simp) λg5 _ YJ=>hE g5 e (λc o q1 q2 q3 q4 q=>YJ.extBut _ _ q1 (YI _ _ q4 (XX.extBut _ _ q2 (XN.extBut _ _ q3 (Yu.extBut _ _ q1 q))))) ⟨oe,YJ.extBut _ _ hez g,ZS⟩ _
end
abbrev UL(h:Heap)(t:Addr):Heap:=h.push {cls:=.type "tuple_iterator",data:=.fields #[.ref t,.int 0 0]}
abbrev UN(h:Heap)(t u:Addr):Heap:=(UL h t).push {cls:=.type "tuple_iterator",data:=.fields #[.ref u,.int 0 0]}
abbrev UW(h:Heap)(t u:Addr):Heap:=(UN h t u).push {cls:=.type "tuple",data:=.seq #[.ref h.objs.size,.ref (UL h t).objs.size]}
abbrev UR(h:Heap)(t u:Addr):Heap:=(UW h t u).push {cls:=.type "tuple",data:=.seq #[.none,.none]}
abbrev SZ(h:Heap)(t u:Addr):Heap:=(UR h t u).push {cls:=.type "zip",data:=.fields #[.none,.bool false,.bool false,.ref (UN h t u).objs.size,.ref (UW h t u).objs.size]}
def CM(t u:Addr)(xs ys:Array Vl):
  Meets (Builtin.«zip.__new__» ⟨[.type "zip",.ref t,.ref u],[]⟩) (λ_ R s=>s.heap.IsTuple t xs/\s.heap.IsTuple u ys/\R (.ok (.ret (.ref (UR s.heap t u).objs.size))) {s with heap:=SZ s.heap t u}):=
 .of_wp λprog w A R s h=>by
  obtain⟨hp,g,d,tk,os⟩:=s;obtain⟨e1,e2,h⟩:=h;have Yq:=sub_zip;have q1:Heap.IsTuple (Shared.heap ⟨hp,g,d,tk,os⟩) t xs:=e1;have q2:Heap.IsTuple (Shared.heap ⟨hp.push {cls:=.type "tuple_iterator",data:=.fields #[.ref t,.int 0 0]},g,d,tk,os⟩) u ys:=Heap.IsTuple.push e2 _
  wp_walk using ir q1,ir q2
  exact⟨_,rfl,h⟩
def D6{t u:Addr}{xs ys:Array Vl}{Q:Vl->Sd->Prop}(ht:s.heap.IsTuple t xs)(hu:s.heap.IsTuple u ys) (h:∀g,IsZip g (s.heap.objs.size+4) (s.heap.objs.size+2) (s.heap.objs.size+3) .none->IsPair g (s.heap.objs.size+2) (.ref s.heap.objs.size) (.ref (s.heap.objs.size+1))->IsPair g (s.heap.objs.size+3) .none .none->
   g.IsTupleIter s.heap.objs.size t 0->g.IsTupleIter (s.heap.objs.size+1) u 0->(∀c o,s.heap.get? c=some o->g.get? c=some o)->Q (.ref (s.heap.objs.size+4)) {s with heap:=g}):
  wpAny (model prog w) A (call (.type "zip") [.ref t,.ref u]) Q E s:=by
 refine callType_new F.called_zip (by decide) (F.typeCall_zip_2 _ _) (F.newCall_zip_2 _ _) (λobj=>F.args_object_init_3 obj _ _) F.entry_zip_new (CM t u xs ys) ⟨ht,hu,?_⟩;have m1:(UL s.heap t).objs.size=s.heap.objs.size+1:=fj ..;have m2:(UN s.heap t u).objs.size=s.heap.objs.size+2:=by rw[fj,m1]
 have m3:(UW s.heap t u).objs.size=s.heap.objs.size+3:=by rw[fj,m2]
 have m4:(UR s.heap t u).objs.size=s.heap.objs.size+4:=by rw[fj,m3]
 have up:∀{h:Heap} {c:Addr} {o p:Obj},h.get? c=some o->(h.push p).get? c=some o:=λq=>cW _ q;have r5:(SZ s.heap t u).get? (UR s.heap t u).objs.size=some _:=dA _ rfl;have r4:(SZ s.heap t u).get? (UW s.heap t u).objs.size=some _:=up (dA _ rfl);have r3:(SZ s.heap t u).get? (UN s.heap t u).objs.size=some _:=up (up (dA _ rfl));have r2:(SZ s.heap t u).get? (UL s.heap t).objs.size=some _:=up (up (up (dA _ rfl)));have r1:(SZ s.heap t u).get? s.heap.objs.size=some _:=up (up (up (up (dA _ rfl))));show _/\_;rw[m2,m3,m4]at r5;rw[m1,m2]at r3;rw[m3]at r4;rw[m1]at r2;rw[m4];exact⟨⟨_,r5,rfl⟩,h _ r5 r3 r4 ⟨_,r1,rfl,rfl⟩ ⟨_,r2,rfl,rfl⟩ λc o q=>up (up (up (up (up q))))⟩
def Gc{z TI TO i1 i2:Addr}{f1 f2:List Addr}{n1 n2 k:Nat}{P1 P2:Nat->Vl->Prop}{S1 S2:Nat->Heap->Prop}{a b:Vl}{Q:Option Vl->Sd->Prop}(D1:Draws prog w A.in1 i1 f1 n1 P1 S1)(D2:Draws prog w A.in1 i2 f2 n2 P2 S2)(W4:Ac z TI TO i1 i2 f1 f2) (hz:IsZip s.heap z TI TO .none) (hI:IsPair s.heap TI (.ref i1) (.ref i2)) (hO:IsPair s.heap TO a b) (Xd:S1 k s.heap) (WZ:S2 k s.heap) (l1:k<n1) (l2:k<n2) (hQ:∀x y g tk,P1 k x->P2 k y->IsZip g z TI TO (rawInt s.heap.objs.size)->IsPair g TO x y->S1 (k+1) g->S2 (k+1) g->IsPair g s.heap.objs.size x y->g.objs.size=s.heap.objs.size+1->
   (∀c o,c≠z->c≠TO->c≠i1->c≠i2->s.heap.get? c=some o->g.get? c=some o)->Q (some (.ref s.heap.objs.size)) {s with heap:=g,toks:=tk}):wpAny (model prog w) A (pyNext (.ref z)) Q E s:=by
 have hT:s.TypeIs (.ref z) "zip":=⟨_,hz,rfl⟩;unfold pyNext;refine cR (wpAny_attempt (fJ (name:=Str.ofString "__next__") hT iP (fP iP hT lP ?_ (lw _))));exact J5 D1 D2 W4 hz hI hO Xd WZ l1 l2 λx y g tk q1 q2 q3 q4 q5 q6 q7 q8 q9=>de (hQ x y g tk q1 q2 q3 q4 q5 q6 q7 q8 q9)
def AE{z TI TO i1 i2:Addr}{f1 f2:List Addr}{n1 n2 k:Nat}{P1 P2:Nat->Vl->Prop}{S1 S2:Nat->Heap->Prop}{a b:Vl}{Q:Option Vl->Sd->Prop}(D1:Draws prog w A.in1 i1 f1 n1 P1 S1)(D2:Draws prog w A.in1 i2 f2 n2 P2 S2)(W4:Ac z TI TO i1 i2 f1 f2) (hz:IsZip s.heap z TI TO .none) (hI:IsPair s.heap TI (.ref i1) (.ref i2)) (hO:IsPair s.heap TO a b) (Xd:S1 k s.heap) (WZ:S2 k s.heap) (ZR:k=n1\/(k<n1/\k=n2)) (hQ:∀g tk,(∀c o,c≠z->c≠TO->c≠i1->c≠i2->s.heap.get? c=some o->g.get? c=some o)->Q none {s with heap:=g,toks:=tk}):wpAny (model prog w) A (pyNext (.ref z)) Q E s:=by
 have hT:s.TypeIs (.ref z) "zip":=⟨_,hz,rfl⟩;unfold pyNext;refine cR (wpAny_attempt (fJ (name:=Str.ofString "__next__") hT iP (fP iP hT lP (Lu D1 D2 W4 hz hI hO Xd WZ ZR λg e kp hx tk=>?_) (lw _))));obtain⟨o,e1,e2⟩:=hx;exact cR (wpAny_isInstance (T:="StopIteration") (b:=true) ⟨o,e1,e2⟩ isSubtype_stop (de (hQ g tk kp)))
def FI{a b:Addr}{xs:List V}(I:Inv X WI σ H s)(f:AQ X WI H b)(q:uW X.K H a xs):a≠b:=by
 rintro rfl
 rcases q with q|⟨o,its,n,hk,_⟩
 .have z:=f.1;rcases q with q|⟨u,q⟩<;>(rw[q]at z;cases z)
 .have e:=I.mod.oA a o hk;rcases f.2.2.2.1 with z|z
  .exact I.ok.nP a o e z
  .exact absurd (dJ (dh e) (dN I.ok.nY z)) (eX _)
def VG(K:qr)(a b:Addr):It:=
 ⟨λi H=>∃xs ys x y,uW K H a xs/\uW K H b ys/\xs[i]?=some x/\ys[i]?=some y,λi H v H'=>∃p x y,v=.ref p/\H p=none/\H'=upd H p (.tup [x,y])/\(∀xs,uW K H a xs->xs[i]?=some x)/\(∀ys,uW K H b ys->ys[i]?=some y),λi H=>∃xs ys,uW K H a xs/\uW K H b ys/\i=min xs.length ys.length⟩
def K0{P:Pg}{w:Wo}{K:qr}{Xj:List Expr}{n:Nat}{tp:Pos}(a b z TI TO i1 i2:Addr)(a1:TI≠z)(a2:TO≠z)(a3:i1≠z)(a4:i2≠z)(a5:TI≠TO)(a6:TI≠i1)(a7:TI≠i2)(a8:TO≠i1)(a9:TO≠i2)(o9:i1≠i2):
  Gz P w K (.Tuple Xj n tp) (VG K a b) [z,TI,TO,i1,i2] z (λi h=>IsZip h z TI TO .none/\IsPair h TI (.ref i1) (.ref i2)/\(∃u v,IsPair h TO u v)/\h.IsTupleIter i1 a i/\h.IsTupleIter i2 b i) where
 mem:=by simp
 obj:=λi h st c hc=>by
  obtain⟨h1,h2,⟨u,v,h3⟩,⟨o4,h4,_,d4⟩,⟨o5,h5,_,d5⟩⟩:=st;simp only[cY,dz,eQ]at hc;rcases hc with rfl|rfl|rfl|rfl|rfl
  .exact⟨_,h1,λv z=>by cases z⟩
  .exact⟨_,h2,λv z=>by cases z⟩
  .exact⟨_,h3,λv z=>by cases z⟩
  .exact⟨_,h4,λv z=>by rw[d4]at z;cases z⟩
  .exact⟨_,h5,λv z=>by rw[d5]at z;cases z⟩
 keep:=λi h h' st k=>by obtain⟨h1,h2,⟨u,v,h3⟩,⟨o4,h4,c4⟩,⟨o5,h5,c5⟩⟩:=st;exact⟨k z (by simp) _ h1,k TI (by simp) _ h2,⟨u,v,k TO (by simp) _ h3⟩,⟨o4,k i1 (by simp) _ h4,c4⟩,⟨o5,k i2 (by simp) _ h5,c5⟩⟩
 item:=by
  intro X hP hw hK hc i WI s σ H E I hf st hg;subst hP hw hK;obtain⟨xs,ys,x,y,hx,hy,ex,ey⟩:=hg;obtain⟨its,rx,px,_⟩:=I.tuple hx;obtain⟨YH,ry,py,_⟩:=I.tuple hy;obtain⟨u,eu,ru⟩:=rx.get ex;obtain⟨v,ev,rv⟩:=ry.get ey;obtain⟨h1,h2,⟨p,q,h3⟩,h4,h5⟩:=st;have hh:X.A.in1.handled=none:=I.ok.hd hc;have fa:∀c∈[z,TI,TO,i1,i2],a≠c:=λc hc=>FI I (hf c hc) hx;have fb:∀c∈[z,TI,TO,i1,i2],b≠c:=λc hc=>FI I (hf c hc) hy;have W4:Ac z TI TO i1 i2 [i1,a] [i2,b]:=⟨a1,a2,a3,a4,a5,a6,a7,a8,a9,o9,by
   simp only[cY,dz,eQ,fH];exact⟨dI a3,dI (fa z (by simp))⟩,by
   simp only[cY,dz,eQ,fH];exact⟨a8,dI (fa TO (by simp))⟩,by
   simp only[cY,dz,eQ,fH];exact⟨dI o9,dI (fa i2 (by simp))⟩,by
   simp only[cY,dz,eQ,fH];exact⟨dI a4,dI (fb z (by simp))⟩,by
   simp only[cY,dz,eQ,fH];exact⟨a9,dI (fb TO (by simp))⟩,by
   simp only[cY,dz,eQ,fH];exact⟨o9,dI (fb i1 (by simp))⟩⟩
  have l1:i<its.toArray.size:=by
   have:=(cS.mp eu).1
   simpa using this
  have l2:i<YH.toArray.size:=by
   have:=(cS.mp ev).1
   simpa using this
  refine Gc (xU hh i1 a (fa i1 (by simp)) its.toArray) (xU hh i2 b (fb i2 (by simp)) YH.toArray) W4 h1 h2 h3 ⟨h4,px⟩ ⟨h5,py⟩ l1 l2 λx' y' g tk e1 e2 z1 o1 s1 s2 t1 sz kp=>?_;have e1':x'=u:=by
   have:its[i]?=some x':=by simpa using e1
   rw[eu]at this;exact(c9 this).symm
  have YV:y'=v:=by
   have:YH[i]?=some y':=by simpa using e2
   rw[ev]at this;exact(c9 this).symm
  subst e1' YV;refine⟨_,rfl,wpAny_letOwnedTupleGo_zip z1 λg2 z2 sb=>?_⟩;have zlt:z<s.heap.objs.size:=dh h1;have kk:∀c o,c∉[z,TI,TO,i1,i2]->s.heap.get? c=some o->g2.get? c=some o:=λc o hc e=>by simp only[cY,dz,eQ,fH]at hc;exact(sb.2 c hc.1).trans (kp c o hc.1 hc.2.2.1 hc.2.2.2.1 hc.2.2.2.2 e)
  have t2:g2.get? s.heap.objs.size=some {cls:=.type "tuple",data:=.seq #[x',y']}:=(sb.2 _ (gH zlt)).trans t1;have YZ:H s.heap.objs.size=none:=I.mP.fresh (cZ _);have I2:=I.drawn (ch:=[z,TI,TO,i1,i2]) (T:=s.heap.objs.size) (xs:=[x,y]) (its:=[x',y']) (h':=g2) (tk:=tk) hf kk (cZ _) (by show 2<=sizeLine;decide) (.cons ru (.cons rv .nil)) ⟨_,t2,rfl,⟨_,rfl⟩,rfl⟩;refine⟨.ref s.heap.objs.size,_,I2,rfl,⟨_,x,y,rfl,YZ,rfl,λxs' hx'=>by rw[I.m8 hx' hx];exact ex,λys' hy'=>by rw[I.m8 hy' hy];exact ey⟩,?_,λc hc=>?_⟩
  .obtain⟨o4,g4,c4⟩:=s1.1;obtain⟨o5,g5,c5⟩:=s2.1;exact⟨z2,(sb.2 _ a1).trans (kp _ _ a1 a5 a6 a7 h2),⟨_,_,(sb.2 _ a2).trans o1⟩,⟨o4,(sb.2 _ a3).trans g4,c4⟩,⟨o5,(sb.2 _ a4).trans g5,c5⟩⟩
  .have n0:=(hf c hc).1;obtain⟨o,eo⟩:∃o,s.heap.get? c=some o:=by
    obtain⟨o4,g4,_⟩:=h4;obtain⟨o5,g5,_⟩:=h5;simp only[cY,dz,eQ]at hc;rcases hc with rfl|rfl|rfl|rfl|rfl
    .exact⟨_,h1⟩
    .exact⟨_,h2⟩
    .exact⟨_,h3⟩
    .exact⟨_,g4⟩
    .exact⟨_,g5⟩
   rw[qc (dB (dh eo))];exact n0
 done:=by
  intro X hP hw hK hc i WI s σ H E I hf st hg;subst hP hw hK;obtain⟨xs,ys,hx,hy,hi⟩:=hg;obtain⟨its,rx,px,_⟩:=I.tuple hx;obtain⟨YH,ry,py,_⟩:=I.tuple hy;obtain⟨h1,h2,⟨p,q,h3⟩,h4,h5⟩:=st;have hh:X.A.in1.handled=none:=I.ok.hd hc;have fa:∀c∈[z,TI,TO,i1,i2],a≠c:=λc hc=>FI I (hf c hc) hx;have fb:∀c∈[z,TI,TO,i1,i2],b≠c:=λc hc=>FI I (hf c hc) hy;have W4:Ac z TI TO i1 i2 [i1,a] [i2,b]:=⟨a1,a2,a3,a4,a5,a6,a7,a8,a9,o9,by
   simp only[cY,dz,eQ,fH];exact⟨dI a3,dI (fa z (by simp))⟩,by
   simp only[cY,dz,eQ,fH];exact⟨a8,dI (fa TO (by simp))⟩,by
   simp only[cY,dz,eQ,fH];exact⟨dI o9,dI (fa i2 (by simp))⟩,by
   simp only[cY,dz,eQ,fH];exact⟨dI a4,dI (fb z (by simp))⟩,by
   simp only[cY,dz,eQ,fH];exact⟨a9,dI (fb TO (by simp))⟩,by
   simp only[cY,dz,eQ,fH];exact⟨o9,dI (fb i1 (by simp))⟩⟩
  have e1:=rx.length;have e2:=ry.length;refine AE (xU hh i1 a (fa i1 (by simp)) its.toArray) (xU hh i2 b (fb i2 (by simp)) YH.toArray) W4 h1 h2 h3 ⟨h4,px⟩ ⟨h5,py⟩ (by simp only[dg];omega) λg tk kp=>⟨rfl,?_⟩;have kk:∀c o,c∉[z,TI,TO,i1,i2]->s.heap.get? c=some o->g.get? c=some o:=λc o hc e=>by simp only[cY,dz,eQ,fH]at hc;exact kp c o hc.1 hc.2.2.1 hc.2.2.2.1 hc.2.2.2.2 e
  refine I.step (g':=s.gens) (d':=s.drawn) (t':=tk) (ch:=[z,TI,TO,i1,i2]) (λc hc=>⟨(hf c hc).2.2.2.1,(hf c hc).2.1,(hf c hc).2.2.2.2.1,(hf c hc).2.2.2.2.2⟩) ?_ ?_ (λc o _ e n=>n) ?_ (λ_ _ e=>e) (λ_ _ _ e=>e) (λc ps e=>⟨#[],by rw[e];simp⟩) ?_ ?_ I.bare
  .exact λc o _ _ hc e _=>kk c o hc e
  .exact λc o _ _ hc e _=>⟨o.slots,kk c o hc e⟩
  .exact λc o hc e=>⟨o,kk c o hc e⟩
  .intro m hm;obtain⟨o,es,ep,ho,r⟩:=hm;exact⟨o,es,ep,kk _ o (λy=>(hf _ y).2.1 rfl) ho,r⟩
  .intro c u e;refine(I.mP c u e).nj (λd v hd q=>kk d v (λy=>?_) q) (λ_ q=>q) λ_ _ q=>q;have n:=(hf d y).1;rcases hd with x|x
   .rw[x,e]at n;cases n
   .rw[x]at n;cases n
 self:=λ_ _ _ _ _ st h=>lQ st.1 h
def Sj{a b:Expr}{ta:TA}(hg:Gl X "zip")(hm:X.mg "zip"=none)(ha:PA X [a,b] ta)(hs:starEach [a,b] X.env=[(false,eval a X.env),(false,eval b X.env)]:=by rfl)(XW:starEach [b] X.env=[(false,eval b X.env)]:=by rfl):
  PI X (.Tuple Xj n tp) (.Call (.Name "zip" p) [a,b] [] pos) (λσ H R=>ta σ H λvs H1=>∃l m,vs=[.ref l,.ref m]/\(∃xs,uW X.K H1 l xs)/\(∃xs,uW X.K H1 m xs)/\R (VG X.K l m) H1):=by
 intro WI s σ H R I h;refine Call_ (wW I hg hm RN (fG (so (ha pos WI s σ H _ I h) λus s1 zz=>x5 zz λvs H1 I1 r1 q1=>?_) (by rw[hs,XW]) (by rw[XW];rfl)));obtain⟨l,m,e,⟨xs,hx⟩,⟨ys,hy⟩,q⟩:=q1;subst e;obtain⟨u,v,rfl,ru,rv⟩:=Qk r1;cases ru;cases rv;obtain⟨its,_,px,_⟩:=I1.tuple hx;obtain⟨YH,_,py,_⟩:=I1.tuple hy;refine D6 px py λg h1 h2 h3 h4 h5 hk=>lQ h1 ?_;have I2:Inv X WI σ H1 {s1 with heap:=g}:=I1.kept (t':=s1.toks) hk;refine⟨s1.heap.objs.size+4,[s1.heap.objs.size+4,s1.heap.objs.size+2,s1.heap.objs.size+3,s1.heap.objs.size,s1.heap.objs.size+1],_,_,H1,rfl,I2,K0 l m _ _ _ _ _ ?_ ?_ ?_ ?_ ?_ ?_ ?_ ?_ ?_ ?_,⟨h1,h2,⟨_,_,h3⟩,h4,h5⟩,λb hb=>?_,q⟩
 .exact λz=>by have z:s1.heap.objs.size+2=s1.heap.objs.size+4:=z;omega
 .exact λz=>by have z:s1.heap.objs.size+3=s1.heap.objs.size+4:=z;omega
 .exact λz=>by have z:s1.heap.objs.size=s1.heap.objs.size+4:=z;omega
 .exact λz=>by have z:s1.heap.objs.size+1=s1.heap.objs.size+4:=z;omega
 .exact λz=>by have z:s1.heap.objs.size+2=s1.heap.objs.size+3:=z;omega
 .exact λz=>by have z:s1.heap.objs.size+2=s1.heap.objs.size:=z;omega
 .exact λz=>by have z:s1.heap.objs.size+2=s1.heap.objs.size+1:=z;omega
 .exact λz=>by have z:s1.heap.objs.size+3=s1.heap.objs.size:=z;omega
 .exact λz=>by have z:s1.heap.objs.size+3=s1.heap.objs.size+1:=z;omega
 .exact λz=>by have z:s1.heap.objs.size=s1.heap.objs.size+1:=z;omega
 .have XC:s1.heap.objs.size<=b:=by
   simp only[cY,dz,eQ]at hb;rcases hb with rfl|rfl|rfl|rfl|rfl
   .exact hZ _ _
   .exact hZ _ _
   .exact hZ _ _
   .exact cZ _
   .exact hZ _ _
  exact I1.nU XC (I1.mP.fresh XC)
def AL:List D->List D->List D
 | x::a,y::b=>.tup [x,y]::AL a b
 | _,_=>[]
theorem IU:∀{ds es:List D} {i:Nat},(AL ds es)[i]?=(ds[i]?).bind λd=>(es[i]?).map λe=>D.tup [d,e]
 | [],es,i=>by simp[AL]
 | d::ds,[],i=>by simp[AL]
 | d::ds,e::es,0=>by simp[AL]
 | d::ds,e::es,i+1=>by show(AL ds es)[i]?=_;rw[IU];simp
theorem Eg:∀{ds es:List D},(AL ds es).length=min ds.length es.length
 | [],es=>by simp[AL]
 | d::ds,[]=>by simp[AL]
 | d::ds,e::es=>by show(AL ds es).length+1=_;rw[Eg];simp only[dZ];omega
def OH{K:qr}{H1:Hp}{a b:Addr}{ds es:List D}{xs ys:List V}(h1:uW K H1 a xs)(h2:qd K H1 ds xs)(g1:uW K H1 b ys)(g2:qd K H1 es ys):F6 K H1 (VG K a b) (AL ds es) (λ_=>True) where
 go:=λi H M hi hm ok e1=>by rw[Eg]at hi;obtain⟨x,ex,_⟩:=h2.get (cU (show i<ds.length by omega));obtain⟨y,ey,_⟩:=g2.get (cU (show i<es.length by omega));exact⟨xs,ys,x,y,e1.t _ _ h1,e1.t _ _ g1,ex,ey⟩
 oN:=λi d H M v H' hd hm ok e1 y=>by
  obtain⟨p,x,z,rfl,hp,rfl,y1,y2⟩:=y;rw[IU]at hd;cases e:ds[i]? with
  | none=>rw[e]at hd;cases hd
  | some d'=>
   cases e':es[i]? with
   | none=>rw[e,e']at hd;cases hd
   | some d''=>rw[e,e']at hd;cases hd;obtain⟨x',q1,hx⟩:=h2.get e;obtain⟨z',q2,hz⟩:=g2.get e';have w1:=y1 xs (e1.t _ _ h1);have w2:=y2 ys (e1.t _ _ g1);rw[q1]at w1;rw[q2]at w2;have v1:x'=x:=c9 w1;have v2:z'=z:=c9 w2;subst v1 v2;have ex:qL K H (upd H p (.tup [x',z'])):=.new hp;exact⟨.tup (.of qg) (.cons (hx.mono (e1.trans ex)) (.cons (hz.mono (e1.trans ex)) .nil)),hm.add hp,ex⟩
 stop:=λH M hm ok e1=>⟨xs,ys,e1.t _ _ h1,e1.t _ _ g1,by rw[Eg,h2.length,g2.length]⟩
def Ug(t:xl):NF:=λδ M R=>t δ M λds M1=>match ds with
 | [.tup a,.tup b]=>R (AL a b) (λ_=>True) M1
 | _=>False
def Sx{a b:Expr}{ta:xl}(hg:Gl X "zip")(hm:X.mg "zip"=none)(ha:A3 X [a,b] ta)(hs:starEach [a,b] X.env=[(false,eval a X.env),(false,eval b X.env)]:=by rfl)(XW:starEach [b] X.env=[(false,eval b X.env)]:=by rfl):
  I3 X (.Tuple Xj n tp) (.Call (.Name "zip" p) [a,b] [] pos) (Ug ta):=
 PI.mono (Sj hg hm ha hs XW) λσ H R' zz=>x7 zz λδ M R hs hm ht k=>⟨δ,M,_,hs,hm,ht,λvs H1 ds M1 hd WK e1 q1=>by
  split at q1
  .obtain⟨v,u,rfl,hv,hw⟩:=En hd;obtain⟨l,xs,rfl,h1,h2⟩:=hv.mO;obtain⟨m,ys,rfl,g1,g2⟩:=hw.mO;exact⟨l,m,rfl,⟨xs,h1⟩,⟨ys,g1⟩,k _ H1 _ _ M1 (OH h1 h2 g1 g2) WK e1 trivial q1⟩
  .exact q1.elim⟩
def qm(M M':Mp):Prop:=∀a c,M a=some c->M' a=some c
def qm.refl{M:Mp}:qm M M:=λ_ _ h=>h
def qm.trans{M M1 M2:Mp}(a:qm M M1)(b:qm M1 M2):qm M M2:=λx c h=>b x c (a x c h)
def qm.new{M:Mp}{p:Addr}{c:uG}(h:M p=none):qm M (pB M p c):=λx d q=>by rw[tW (SY q h)];exact q
def qm.lst{M M':Mp}{a:Addr}{ds:List D}(s:qm M M')(h:oS M a=some ds):oS M' a=some ds:=by
 unfold oS at h ⊢;cases e:M a with
 | none=>rw[e]at h;cases h
 | some c=>rw[s a c e];rw[e]at h;exact h
def HM.sub{K:qr}{H:Hp}{M M':Mp}(h:HM K H M')(s:qm M M'):HM K H M:=λa c q=>h a c (s a c q)
def Ui{x qual:Str}{st:Stmt}{f:Addr}{fd:FuncData}{N ps:List Str}{k:Nat}{sp:rb}(F:Pe K x qual st f fd)(S:sV N ps (qa st))(len:∀ds M Q,sp ds M Q->ds.length=ps.length) (W5:∀(WR:Vl) (A:Ar) (outer:List Env) (s:Sd) (H:Hp) (E:XK),rS k (A.deeper (envOfC qual (qa st) s.heap.objs.size f WR))->
   ∃t,Hd (vb NH P w K mg base N qual (qa st) f WR A outer s H E).oB (rM st) t/\∀ds M Q,sp ds M Q->t {nx:=λ_ M'=>∃WM,qm WM M'/\Q .mI WM,rt:=λd M'=>∃WM,qm WM M'/\Q d WM} (wA N ds) M):SV P w K mg base (k+1) f fd ps sp:=by
 refine F.ok S (λvs H Q E h=>?_) (λWR A outer s H vs Q' E hr h=>?_)
 .obtain⟨ds,M,Q,hd,_,hs,_⟩:=h;rw[<-hd.length];exact len ds M Q hs
 .obtain⟨ds,M,Q,hd,hm,hs,k⟩:=h;obtain⟨t,ht,hb⟩:=W5 WR A outer s H E hr;exact⟨_,ht,wA N ds,M,_,DL hd,hm,hb ds M Q hs,λσ' H' δ' M' _ x2 x3 _ ⟨WM,y1,y2⟩=>k .mI H' .mI WM .mI (x2.sub y1) x3 y2,λv H' d M' x1 x2 x3 ⟨WM,y1,y2⟩=>k v H' d WM x1 (x2.sub y1) x3 y2,λ_ _ _ _ _ _ _ _ z=>z,λ_ _ _ _ _ _ _ _ z=>z⟩
theorem BY{g:DI}{te:T3}{ok:Mp->Prop}{Q:DK}{f:D->D}{M:Mp}(J:va->Prop)(mP:ok M):∀(ds acc:List D) (δ:va),J δ->acc.length+ds.length<=sizeLine->
  (∀d∈ds,∀δ,J δ->∀k:va->DK,(∀δ',J δ'->k δ' (f d) M)->g d δ M λδ2 M2=>te δ2 M2 (k δ2))->(∀p,M p=none->Q (.ref p) (pB M p (.lst (acc++ds.map f))))->uP g Bl te ok Q ds acc δ M
 | [],acc,δ,_,hl,_,hq=>⟨by simpa using hl,by simpa using hq⟩
 | d::r,acc,δ,hj,hl,ht,hq=>by
  rw[dZ]at hl;refine⟨by omega,?_⟩;refine ht d dC δ hj (λδ2 y M4=>ok M4/\uP g Bl te ok Q r (acc++[y]) δ2 M4) λδ' hj'=>⟨mP,BY (f:=f) J mP r (acc++[f d]) δ' hj' ?_ (λe he=>ht e (dv _ he)) ?_⟩
  .rw[cT,dG];omega
  .simpa using hq
def rq{i:Nat}{te:T3}{ok:Mp->Prop}{Q:DK}{f:D->D}{M:Mp}(mP:ok M):∀(ds acc:List D) (δ:va),acc.length+ds.length<=sizeLine->(∀d∈ds,∀k:DK,k (f d) M->te (δ.set i (some d)) M k)->
  (∀p,M p=none->Q (.ref p) (pB M p (.lst (acc++ds.map f))))->uP (ue i) Bl te ok Q ds acc δ M:=λds acc δ hl ht hq=>
 BY (f:=f) (λδ'=>∀d,δ'.set i (some d)=δ.set i (some d)) mP ds acc δ (λ_=>rfl) hl (λd hd δ' hj k hk=>by
  show te (δ'.set i (some d)) M (k (δ'.set i (some d)));rw[hj d];exact ht d hd _ (hk _ λe=>by rw[jE])) hq
theorem xZ{α:Type}(f:α->Bool):∀l:List α,FT (l.map λx=>D.bl (f x))=some (l.map f)
 | []=>rfl
 | x::r=>by show(FT (r.map λx=>D.bl (f x))).map (f x::·)=_;rw[xZ f r];rfl
def pC{M:Mp}{p:Addr}{ds:List D}:oS (pB M p (.lst ds)) p=some ds:=by unfold oS;rw[pN]
def i'{α:Type}{o:Option α}{P:α->Prop}{x:α}(e:o=some x)(h:P x):o.elim False P:=by rw[e];exact h
def oZ{l:List D}(h:decide (l.length<=100)=true):l.length<=sizeLine:=by have z:=dF;have:=fN h;omega
theorem Bh{g:DI}{tb:xk}{ok:Mp->Prop}{E:F1}(J:va->Mp->Prop)(mP:∀δ M,J δ M->ok M):∀(ds:List D) (δ:va) (M:Mp),J δ M->
  (∀d∈ds,∀δ M,J δ M->∀nx:va->Mp->Prop,(∀δ' M',J δ' M'->nx δ' M')->g d δ M λδ2 M2=>tb {E with nx:=nx,ct:=nx,bk:=E.nx} δ2 M2)->(∀δ M,J δ M->E.nx δ M)->EH g tb ok E ds δ M
 | [],δ,M,j,_,hn=>hn δ M j
 | d::r,δ,M,j,ht,hn=>ht d dC δ M j (λδ' M'=>ok M'/\EH g tb ok E r δ' M') λδ' M' j'=>⟨mP δ' M' j',Bh J mP r δ' M' j' (λe he=>ht e (dv _ he)) hn⟩
theorem vk{g:DI}{tb:xk}{ok:Mp->Prop}{E:F1}(all:List D)(J:List D->va->Mp->Prop)(mP:∀p δ M,J p δ M->ok M):∀(ds pre:List D) (δ:va) (M:Mp),pre++ds=all->J pre δ M->
  (∀pre d post,pre++d::post=all->∀δ M,J pre δ M->∀nx:va->Mp->Prop,(∀δ' M',J (pre++[d]) δ' M'->nx δ' M')->g d δ M λδ2 M2=>tb {E with nx:=nx,ct:=nx,bk:=E.nx} δ2 M2)->(∀δ M,J all δ M->E.nx δ M)->EH g tb ok E ds δ M
 | [],pre,δ,M,e,j,_,hn=>hn δ M (by rw[<-e,eU];exact j)
 | d::r,pre,δ,M,e,j,ht,hn=>ht pre d r e δ M j (λδ' M'=>ok M'/\EH g tb ok E r δ' M') λδ' M' j'=>⟨mP _ δ' M' j',vk all J mP r (pre++[d]) δ' M' (by rw[<-e,fh];rfl) j' ht hn⟩
def NA{c:Bool}{A B:Prop}(h:c=false)(hb:B):if c=true then A else B:=by subst h;exact Hi hb
def AC{c:Bool}{A B:Prop}(h:c=true)(ha:A):if c=true then A else B:=by subst h;exact Qf ha
def Qy{t u:xk}{E:F1}{δ:va}{M:Mp}(R:va->Mp->Prop)(h2:∀nx:va->Mp->Prop,(∀δ' M',R δ' M'->nx δ' M')->t {E with nx:=nx} δ M)(h1:∀δ' M',R δ' M'->u E δ' M'):uw t u E δ M:=h2 (u E) h1
def Uo{K:qr}{H:Hp}{a:Addr}{ns:List Int}(hO:LG H)(hS:yX K H a (ns.map V.int)):rN K H (.rl (ns.map D.int)) (.ref a):=by
 have r:ON K H a (ns.map V.int):=by
  rcases hS with h|h
  .rcases h with h|⟨o,h⟩
   .rcases hO a with z|⟨o,xs,z⟩<;>(rw[h]at z;cases z)
   .exact .inl ⟨o,h⟩
  .exact .inr h
 unfold rN;exact⟨a,_,rfl,r,.ints⟩
def QW{K:qr}{sp:rb}{H:Hp}{a:Addr}{ns:List Int}(hO:LG H)(hS:yX K H a (ns.map V.int))(h:sp [.rl (ns.map D.int)] (λ_=>none) λd _=>d=.bl true):NJ K sp [.ref a] H (λv _=>v=.bl true) λ_ _ _=>False:=
 ⟨_,λ_=>none,_,.cons (Uo hO hS) .nil,λ_ _ z=>(by cases z),h,λv H' d M' x1 _ _ x4=>by subst x4;exact x1.mK⟩
def Lb{l:W.OpenLaw}{q:Pg}{Xv:List Str}{XP:(Str->Option Vl)->Heap->Prop}{YP:Wo->Heap->Prop}{d:DefRec}{K:Params->qr}{k:Nat}{x:Str}{sp:rb}(hn:l.most=some 63)(Zd:d.params.defaults=[])(hr:rS k callerA) (hY:∀(w:Wo) (h:Heap),YP w h->(K w.params).In h) (Yd:∀ns:List Int,ns.length<=63->sp [.rl (ns.map D.int)] (λ_=>none) λd _=>d=.bl true) (F:∀(w:Wo) (mg:Str->Option Vl) (fa:Addr) (h:Heap),(K w.params).In h->h.Ns mainGlobals mg->mg d.name=some (.ref fa)->
   ∃fd:FuncData,(∀(s:Sd) (u:Vl),BindsTo s fd ⟨[u],[]⟩ [(x,u)])/\∀base:Heap,(K w.params).In base->base.Ns mainGlobals mg->SV l.prog w (K w.params) mg base k fa fd [x] sp):
  W.WalkO q Xv XP YP l.row.toRowW d [] (λf vs=>PySem.call f vs):=
 L2.OQ (n:=63) (k:=k) (x:=x) (CX:=λ_=>NH) (sp:=λw=>NJ (K w.params) sp) hn (by decide) Zd hr hY F (λ_ _ a ns hl hO hS=>QW hO hS (Yd ns hl)) λ_ _ _ _ _ z=>z
def KD(K:qr)(mg:Str->Option Vl)(x:Str)(d:D):Prop:=Bq λv u=>mg x=some u/\qR v u/\∀H,rN K H d v
def QX{K:qr}{mg:Str->Option Vl}{x y:Str}{t:Tok}(h:mg x=some (.str y t)):KD K mg x (.str y):=⟨.str y,_,h,⟨t,rfl⟩,λ_=>.str⟩
def vL{K:qr}{mg:Str->Option Vl}{x:Str}{y:Int}{t:Tok}(h:mg x=some (.int y t)):KD K mg x (.int y):=⟨.int y,_,h,⟨t,rfl⟩,λ_=>.int⟩
def ur{K:qr}{a:Addr}{ss:List Str}{us:List Vl}{n:Nat}{sl:Array (Option Vl)}(h:K.lookup a=some ⟨.type "tuple",none,.seq us.toArray n,sl⟩)(r:qz (ss.map V.str) us)(hz:us.length<=1000):uW K (λ_=>none) a (ss.map V.str):=
 .inr ⟨_,us.toArray,n,h,rfl,rfl,rfl,by rw[dg,dF];omega,by simpa using r⟩
theorem zL{K:qr}{H:Hp}:∀{ss:List Str},qd K H (ss.map D.str) (ss.map V.str)
 | []=>.nil
 | _::_=>.cons .str zL
def PD{K:qr}{mg:Str->Option Vl}{x:Str}{a:Addr}{ss:List Str}(h:mg x=some (.ref a))(q:uW K (λ_=>none) a (ss.map V.str)):KD K mg x (.tup (ss.map D.str)):=
 ⟨.ref a,_,h,rfl,λ_=>.tup (JI q) zL⟩
variable {d:D}{i:Expr}{td tk:T3}{F:List (Str × List Str)}
def sG(hg:Gl X x)(h:KD X.K X.mg x d)(hd:zG x:=by decide):E3 X (.Name x pos) (c3 d):=by obtain⟨v,u,hm,r,hh⟩:=h;exact PE.mono (Fb hg hm r hd) λσ H Q' zz=>x7 zz λδ M Q hs hm ht k=>k _ H _ M (hh H) hm .refl ht
def Vu(F:List (Str×List Str))(ta:T3):T3:=λδ M Q=>ta δ M λx M1=>match x with|.str k=>Q (.bl (KTD.datumAt k F).isSome) M1|_=>False
def Tr(F:List (Str×List Str))(ta:T3):T3:=λδ M Q=>ta δ M λx M1=>match x with|.str k=>(KTD.datumAt k F).elim False λss=>Q (.tup (ss.map D.str)) M1|_=>False
def KY(T:Nm X.K X.mg x F)(hg:Gl X x)(he:E3 X e ta)(hd:zG x:=by decide)(hmk:behindInMarks .In (.Name x p)=false:=by rfl):E3 X (.Compare e [.In] [.Name x p] pos) (Vu F ta):=by
 obtain⟨a,hm,T⟩:=F2 T;refine PE.mono (Jj (r:=λy z H Q=>∃k,y=.str k/\z=.ref a/\Q (.bl (KTD.datumAt k F).isSome) H) (λWI s σ H y z v u Q I ry rz ⟨k,e1,e2,q⟩=>?_) he (Fb (v:=.ref a) hg hm rfl hd) hmk) λσ H Q' zz=>x7 zz λδ M Q hs hm ht k=>⟨δ,M,_,hs,hm,ht,λv H1 d M1 hd WK e1 q1=>?_⟩
 .subst e1 e2;obtain⟨t,rfl⟩:=ry;obtain rfl:u=Value.ref a:=rz;exact Ru (T s.heap I.ny) ⟨.bl (KTD.datumAt k F).isSome,H,I.tok _,rfl,q⟩
 .cases d with
  | str k'=>exact⟨k',hd.str_inv,rfl,k _ _ _ _ .bl WK e1 q1⟩
  | _=>exact q1.elim
def Kl(T:Nm X.K X.mg x F)(hg:Gl X x)(he:E3 X e ta)(hd:zG x:=by decide)(hs:Ba e:=by exact λ_ _=>rfl):E3 X (.Subscript (.Name x p) e pos) (Tr F ta):=by
 obtain⟨a,hm,T⟩:=F2 T;refine PE.mono (L7 (r:=λz y H Q=>∃k ss,y=.str k/\z=.ref a/\KTD.datumAt k F=some ss/\∀t,uW X.K H t (ss.map V.str)->Q (.ref t) H) (λvalue WS WI s σ H z y o i Q I rz ry ⟨k,ss,e1,e2,e3,q⟩ hs=>?_) (Fb (v:=.ref a) hg hm rfl hd) he hs) λσ H Q' zz=>x7 zz λδ M Q hs hm ht k=>⟨δ,M,_,hs,hm,ht,λv H1 d M1 hd WK e1 q1=>?_⟩
 .subst e1 e2;obtain⟨t,rfl⟩:=ry;obtain rfl:o=Value.ref a:=rz;have hT:=yA (s:=s) (T s.heap I.ny);have h2:wpAny (model X.prog X.w) X.A (getItem (.ref a) (.str k t)) (EP X WI σ Q) X.xe s:=LW (T s.heap I.ny) e3 λv ⟨t',e4,q4⟩=>⟨.ref t',H,I.tok _,e4,q t' (JI q4)⟩;unfold subscriptTail;refine cR ?_;rw[j4 hT.not_modules];refine cR (jR hT jq.lookup ?_);have WN:wpAny (model X.prog X.w) X.A (subscripted WS false (.ref a) (.str k t)) (λr s₃=>wpAny (model X.prog X.w) X.A (letTemporaryGo value (.ref a) r>>=λ_=>pure r) (EP X WI σ Q) X.xe s₃) X.xe s:=by rw[hs];exact wpAny_operating (dX h2 (λr s₃ h₃=>cR (kh (de h₃))) λ_ _ x=>x)
  first
   | exact de (cR WN)
   | exact cR (de (cR WN))
   | exact cR WN
 .cases d with
  | str k'=>obtain⟨ss,e4,q2⟩:=qX q1;exact⟨k',ss,hd.str_inv,rfl,e4,λt qt=>k _ _ _ _ (.tup qt zL) WK e1 q2⟩
  | _=>exact q1.elim
def y9(M:Mp)(a:Addr):Option (List (qV×D)):=match M a with
 | some (.dk kvs)=>some kvs
 | _=>none
def vq(kvs:List (qV×D))(k:qV):Option D:=(kvs.find? λp=>decide (p.1=k)).map (·.2)
def zt{K:qr}{H:Hp}{M:Mp}{a:Addr}{kvs:List (qV×D)}(hm:HM K H M)(h:y9 M a=some kvs):∃vs,H a=some (.dK vs)/\vs.map (·.1)=kvs.map (·.1)/\qd K H (kvs.map (·.2)) (vs.map (·.2)):=by
 unfold y9 at h;cases e:M a with
 | none=>rw[e]at h;cases h
 | some c=>
  rw[e]at h;have ok:=hm a c e;cases c with
  | dk es=>cases h;exact ok
  | ins _ _=>cases h
  | lst _=>cases h
  | exc _=>cases h
theorem EQ{K:qr}{H:Hp}{k:qV}:∀{kvs:List (qV×D)} {vs:List (qV×V)},vs.map (·.1)=kvs.map (·.1)->qd K H (kvs.map (·.2)) (vs.map (·.2))->(∀d,vq kvs k=some d->∃v,wx vs k=some v/\rN K H d v)/\(vq kvs k=none->wx vs k=none)
 | [],[],_,_=>⟨λd z=>(by cases z),λ_=>rfl⟩
 | [],_::_,e,_=>by cases e
 | _::_,[],e,_=>by cases e
 | (j,d)::kvs,(j',v)::vs,e,h=>by
  have e1:j'=j:=by simpa using(gk e).1
  subst e1;obtain⟨x,r,e2,h1,h2⟩:=h.inv;obtain⟨e3,e4⟩:=gk e2;subst e3 e4;have ih:=EQ (k:=k) (kvs:=kvs) (vs:=vs) (gk e).2 h2;by_cases hk:j'=k
  .have g:vq ((j',d)::kvs) k=some d:=by simp[vq,hk]
   have g':wx ((j',v)::vs) k=some v:=by simp[wx,hk]
   rw[g,g'];exact⟨λd' z=>by cases z;exact⟨v,rfl,h1⟩,λz=>by cases z⟩
  .have g:vq ((j',d)::kvs) k=vq kvs k:=by simp[vq,hk]
   have g':wx ((j',v)::vs) k=wx vs k:=by simp[wx,hk]
   rw[g,g'];exact ih
def LK(x y:D)(M:Mp)(Q:DK):Prop:=match x,y with
 | .ref a,.str k=>(y9 M a).elim False λkvs=>(vq kvs (.inr k)).elim False λd=>Q d M
 | _,_=>False
def UD(td tk:T3):T3:=λδ M Q=>td δ M λx M1=>tk δ M1 λy M2=>LK x y M2 Q
def zd(hu:X.A.units+9<cLine)(ho:E3 X o td)(hi:E3 X i tk)(hs:Ba i:=by exact λ_ _=>rfl):E3 X (.Subscript o i pos) (UD td tk):=by
 refine PE.mono (L7 (r:=R3 X.K LK) (λvalue WS WI s σ H vx vy v u Q' I rx ry h hs=>?_) ho hi hs) Hq;obtain⟨x,y,M,Q,hx,hy,hm,q,k⟩:=h;unfold LK at q;split at q
 .rename_i a0 k0;obtain⟨kvs,e1,q⟩:=qX q;obtain⟨d,e2,q⟩:=qX q;cases hx.mG;cases hy.str_inv;obtain⟨vs,h1,h2,h3⟩:=zt hm e1;obtain⟨w,e3,hw⟩:=(EQ h2 h3).1 d e2;refine OR (by omega) value WS WI s σ H _ _ v u Q' I rx ry ⟨_,w,rfl,?_,k _ _ _ _ hw hm .refl q⟩ hs;have g:=Em.k (k:=Sum.inr k0) h1;rw[e3]at g;exact g
 .exact q.elim
def R4(Yg:Bool)(x y:D)(M:Mp)(Q:DK):Prop:=match x,y with
 | .str k,.ref a=>(y9 M a).elim False λkvs=>Q (.bl (if Yg then !(vq kvs (.inr k)).isSome else(vq kvs (.inr k)).isSome)) M
 | _,_=>False
def LA{K:qr}{H:Hp}{k:qV}{kvs:List (qV×D)}{vs:List (qV×V)}(h2:vs.map (·.1)=kvs.map (·.1))(h3:qd K H (kvs.map (·.2)) (vs.map (·.2))):(wx vs k).isSome=(vq kvs k).isSome:=by
 obtain⟨a,b⟩:=EQ (k:=k) h2 h3;cases e:vq kvs k with
 | none=>rw[b e];rfl
 | some d=>obtain⟨v,e3,_⟩:=a d e;rw[e3];rfl
def Vn(Yg:Bool)(tk td:T3):T3:=λδ M Q=>tk δ M λx M1=>td δ M1 λy M2=>R4 Yg x y M2 Q
def Tf(hu:X.A.units+9<cLine):xn X (compareOp .In) (R3 X.K (R4 false)):=λWI s σ H vx vy v u Q' I rx ry h=>by
 obtain⟨x,y,M,Q,hx,hy,hm,q,k⟩:=h;unfold R4 at q;split at q
 .obtain⟨kvs,e1,q⟩:=qX q;cases hy.mG;cases hx.str_inv;obtain⟨vs,h1,h2,h3⟩:=zt hm e1;refine Rl (by omega) WI s σ H _ _ v u Q' I rx ry ⟨_,_,rfl,Em.k (k:=Sum.inr _) h1,?_⟩;rw[LA h2 h3];exact k _ _ _ _ .bl hm .refl q
 .exact q.elim
def LL(hu:X.A.units+9<cLine)(hi:E3 X i tk)(ho:E3 X o td)(hm:behindInMarks .In o=false:=by first|exact HU _|with_unfolding_all rfl):B3 X (.Compare i [.In] [o] pos) (b3 (Vn false tk td)):=PT.mono (JG (Tf hu) hi ho hm) λσ H Q' zz=>x7 zz λδ M Q hs hm ht k=>
 Hq σ H _ ⟨δ,M,_,hs,hm,ht,λv H1 d M1 hd WK e1 q1=>by
  cases d with
  | bl c=>exact⟨c,hd.mK,k c H1 M1 WK e1 q1⟩
  | _=>exact q1.elim⟩
def wF:List D->Option (List (qV×D))
 | []=>some []
 | .tup [.str k,d]::r=>(wF r).map ((.inr k,d)::·)
 | _::_=>none
theorem Dx{K:qr}{H:Hp}:∀{es:List D} {kvs:List (qV×D)} {xs:List V},wF es=some kvs->qd K H es xs->∃(ts:List Addr) (vs:List (qV×V)),xs=ts.map V.ref/\ts.length=vs.length/\vs.map (·.1)=kvs.map (·.1)/\qd K H (kvs.map (·.2)) (vs.map (·.2))/\
  ∀(j:Nat) (t:Addr) (p:qV×V),ts[j]?=some t->vs[j]?=some p->uW K H t [kV p.1,p.2]
 | [],_,_,e,h=>by cases e;exact⟨[],[],h.nil_inv,rfl,rfl,.nil,λj t p z=>by simp at z⟩
 | d::es,kvs,xs,e,h=>by
  obtain⟨x,r,rfl,h1,h2⟩:=h.inv;unfold wF at e;split at e
  .rename_i z;cases z
  .rename_i k d' r' z;cases z;cases q:wF es with
   | none=>rw[q]at e;cases e
   | some kvs'=>
    rw[q]at e;cases e;obtain⟨ts,vs,e1,e2,e3,e4,e5⟩:=Dx q h2;obtain⟨a,ys,rfl,g1,g2⟩:=h1.mO;obtain⟨y,r1,rfl,g3,g4⟩:=g2.inv;obtain⟨w,r2,rfl,g5,g6⟩:=g4.inv;cases g6.nil_inv;cases g3.str_inv;refine⟨a::ts,(.inr k,w)::vs,by rw[e1];rfl,by simpa using e2,by rw[dP,dP,e3],.cons g5 e4,λj t p z1 z2=>?_⟩;cases j with
    | zero=>
     have z1':a=t:=by simpa using z1
     have z2':(Sum.inr k,w)=p:=by simpa using z2
     subst z1' z2';exact g1
    | succ j=>exact e5 j t p (by simpa using z1) (by simpa using z2)
  .cases e
def Qp(ds:List D)(M:Mp)(Q:DK):Prop:=match ds with
 | [.ref a]=>(oS M a).elim False λes=>(wF es).elim False λkvs=>(kvs.map (·.1)).Nodup/\∀p,M p=none->Q (.ref p) (pB M p (.dk kvs))
 | _=>False
def Ek(hc:X.calm=true):C3 X (.type "dict") Qp:=by
 intro WI s σ H vs us Q' I rv h;obtain⟨ds,M,Q,hd,hm,q,k⟩:=h;unfold Qp at q;split at q
 .obtain⟨es,e1,q⟩:=qX q;obtain⟨kvs,e2,hnd,q⟩:=qX q;obtain⟨v,rfl,hv⟩:=se hd;cases hv.mG;obtain⟨xs,h1,h2,_⟩:=qw hm e1;obtain⟨ts,ws,rfl,f2,f3,f4,f5⟩:=Dx e2 h2;refine Ig hc WI s σ H _ us Q' I rv ⟨_,ts,ws,rfl,h1,f2,f5,by rw[f3];exact hnd,λd hd=>?_⟩;have e:qL X.K H (upd H d (.dK ws)):=.new hd;exact k _ _ _ _ .ref (hm.new (c:=.dk kvs) hd ⟨_,qg,f3,f4.mono e⟩) e (q d (hm.fresh hd))
 .exact q.elim
def SA:bootBuiltins "set"=some (.type "set"):=by decide+kernel
def BZ:List D->Option (List Str)
 | []=>some []
 | .str x::r=>(BZ r).map (x::·)
 | _::_=>none
theorem BS:∀ss:List Str,BZ (ss.map D.str)=some ss
 | []=>rfl
 | x::r=>by show(BZ (r.map D.str)).map (x::·)=_;rw[BS r];rfl
theorem GG{K:qr}{H:Hp}:∀{ds:List D} {ss:List Str} {xs:List V},BZ ds=some ss->qd K H ds xs->xs=ss.map V.str
 | [],_,_,e,h=>by cases e;exact h.nil_inv
 | d::ds,_,_,e,h=>by
  obtain⟨x,r,rfl,h1,h2⟩:=h.inv;cases d with
  | str z=>
   unfold BZ at e;cases q:BZ ds with
   | none=>rw[q]at e;cases e
   | some ss=>rw[q]at e;cases e;rw[h1.str_inv,GG q h2];rfl
  | _=>cases e
def Tw(ta:T3):T3:=λδ M Q=>ta δ M λx M1=>(MI M1 x).elim False λes=>(BZ es).elim False λss=>ss.length<4000/\Q (.int (sQ ss).length) M1
def J0{p2 Yt:Pos}(hc:X.calm=true)(he:E3 X e ta)(hg1:Gl X "len")(WK:X.mg "len"=none)(hg2:Gl X "set")(W1:X.mg "set"=none)(b1:bootBuiltins "len"=some (.builtin "len"))(b2:bootBuiltins "set"=some (.type "set")) (hs:starEach [e] X.env=[(false,eval e X.env)]:=by rfl):E3 X (.Call (.Name "len" p) [.Call (.Name "set" p2) [e] [] Yt] [] pos) (Tw ta):=
 PE.mono (JU hc he hg1 WK hg2 W1 b1 b2 hs) λσ H Q' zz=>x7 zz λδ M Q hs hm ht k=>⟨δ,M,_,hs,hm,ht,λv H1 d M1 hd WK e1 q1=>by
  obtain⟨es,e2,q1⟩:=qX q1;obtain⟨ss,e3,hz,q1⟩:=qX q1;obtain⟨a,xs,rfl,h1,h2⟩:=ED WK hd e2;rw[GG e3 h2]at h1;have z:scanBound=4096:=rfl;exact⟨a,ss,rfl,h1,by omega,k _ _ _ _ .int WK e1 q1⟩⟩
def SG(x:D)(ds:List D)(M:Mp)(Q:DK):Prop:=match x,ds with
 | .ref a,[y]=>(oS M a).elim False λes=>es.length<sizeLine/\Q .mI (pB M a (.lst (es++[y])))
 | _,_=>False
def pR{M:Mp}{a:Addr}{es:List D}(h:oS M a=some es):M a=some (.lst es):=by
 unfold oS at h;split at h
 .rename_i e;rw[e];cases h;rfl
 .cases h
def ER{K:qr}{H:Hp}{M:Mp}{a:Addr}{es:List D}(hm:HM K H M)(h:oS M a=some es):∃xs,H a=some (.lst xs)/\qd K H es xs:=hm a _ (pR h)
def JW:M3 X "list.append" SG:=by
 intro WI s σ H vx vs v us Q' I rx rv h;obtain⟨x,ds,M,Q,hx,hd,hm,q,k⟩:=h;unfold SG at q;split at q
 .obtain⟨es,e1,hz,q⟩:=qX q;obtain⟨w,rfl,hw⟩:=se hd;cases hx.mG;obtain⟨xs,h1,h2⟩:=ER hm e1;refine JS WI s σ H _ _ v us Q' I rx rv ⟨_,xs,w,rfl,rfl,h1,by rw[<-h2.length];exact hz,?_⟩;obtain⟨W1,ex⟩:=hm.put (c:=.lst (es++[_])) (pR e1) λex=>⟨_,qg,(h2.mono ex).snoc (hw.mono ex)⟩;exact k _ _ _ _ .mI W1 ex q
 .exact q.elim
def qZ(ho:E3 X o ta)(ha:A3 X (e::es) t)(WV:attributeBase o "append" X.env (eval o X.env)=eval o X.env:=by rfl)
  (X2:((backTo pos (starEach (e::es) X.env)).all (λx=>!x.1)&&(backToKw pos (keywordEach [] X.env)).all (λx=>x.1.isSome)&&decide ((e::es).length+([]:List Keyword).length+(if ([]:List Keyword).isEmpty then 0 else 1)<30))=true:=by rfl)
  (W6:(WL.endLine==pos.line)=true:=by rfl) (hs:A9 X e es:=by rfl) (W0:CC X pos es:=by rfl):
  E3 X (.Call (.Attribute o "append" WL) (e::es) [] pos) (Vk SG ta t):=Qi PySem.F.slot_list_append PySem.F.type_list_append JW ho ha WV X2 W6 hs W0
def qm.none{M M2:Mp}{q:Addr}(s:qm M M2)(h:M2 q=none):M q=none:=by
 cases e:M q with
 | none=>rfl
 | some c=>rw[s q c e]at h;cases h
def qm.upd{M M2:Mp}{q:Addr}{c:uG}(s:qm M M2):qm (pB M q c) (pB M2 q c):=λx d h=>by
 by_cases e:x=q
 .subst e;rw[pN]at h ⊢;exact h
 .rw[tW e]at h ⊢;exact s x d h
def qm.dk{M M':Mp}{a:Addr}{ds:List (qV×D)}(s:qm M M')(h:y9 M a=some ds):y9 M' a=some ds:=by
 unfold y9 at h ⊢;cases e:M a with
 | none=>rw[e]at h;cases h
 | some c=>rw[s a c e];rw[e]at h;exact h
def rT(p:Addr)(M M':Mp):Prop:=∀b c,b≠p->M b=some c->M' b=some c
def qm.keep{M M':Mp}{p:Addr}(s:qm M M'):rT p M M':=λb c _ h=>s b c h
def rT.trans{M M1 M2:Mp}{p:Addr}(a:rT p M M1)(b:rT p M1 M2):rT p M M2:=λx c n h=>b x c n (a x c n h)
def rT.put{M:Mp}{p:Addr}{c:uG}:rT p M (pB M p c):=λb d n h=>by rw[tW n];exact h
def rT.lst{M M':Mp}{p a:Addr}{ds:List D}(k:rT p M M')(n:a≠p)(h:oS M a=some ds):oS M' a=some ds:=by have:=k a _ n (pR h);unfold oS;rw[this]
def rT.dk{M M':Mp}{p a:Addr}{ds:List (qV×D)}(k:rT p M M')(n:a≠p)(h:y9 M a=some ds):y9 M' a=some ds:=by
 unfold y9 at h ⊢;cases e:M a with
 | none=>rw[e]at h;cases h
 | some c=>rw[k a c n e];rw[e]at h;exact h
def pS{M:Mp}{a p C:Addr}{ds:List D}{fs:List (Str×D)}(h:oS M a=some ds)(hp:M p=some (.ins C fs)):a≠p:=λz=>by subst z;rw[pR h]at hp;cases hp
def Cd{M:Mp}{a p C:Addr}{ds:List (qV×D)}{fs:List (Str×D)}(h:y9 M a=some ds)(hp:M p=some (.ins C fs)):a≠p:=λz=>by subst z;unfold y9 at h;rw[hp]at h;cases h
def rG{M:Mp}{p:Addr}{ds:List D}(h:M p=some (.lst ds)):oS M p=some ds:=by unfold oS;rw[h]
def BN{M:Mp}{p:Addr}{ds:List (qV×D)}(h:M p=some (.dk ds)):y9 M p=some ds:=by unfold y9;rw[h]
def sX{N:Mp}{p q C:Addr}{fs fs':List (Str×D)}{c:uG}(hp:N p=some (.ins C fs))(hq:N q=none):
  q≠p/\pB N q c p=some (.ins C fs)/\rT p N (pB (pB N q c) p (.ins C fs'))/\pB (pB N q c) p (.ins C fs') q=some c/\pB (pB N q c) p (.ins C fs') p=some (.ins C fs'):=by
 have n:p≠q:=SY hp hq;refine⟨dI n,by rw[tW n];exact hp,(qm.new hq).keep.trans .put,by rw[tW (dI n),pN],pN⟩
theorem wK{g:DI}{te:T3}{ok:Mp->Prop}{Q:DK}(all:List D)(J:List D->List D->va->Mp->Prop)(mP:∀p acc δ M,J p acc δ M->ok M):∀(ds pre acc:List D) (δ:va) (M:Mp),pre++ds=all->acc.length+ds.length<=sizeLine->J pre acc δ M->
  (∀pre d post,pre++d::post=all->∀acc δ M,J pre acc δ M->∀k:va->DK,(∀δ2 y M4,J (pre++[d]) (acc++[y]) δ2 M4->k δ2 y M4)->g d δ M λδ2 M2=>te δ2 M2 (k δ2))->
  (∀acc δ M,J all acc δ M->∀p,M p=none->Q (.ref p) (pB M p (.lst acc)))->uP g Bl te ok Q ds acc δ M
 | [],pre,acc,δ,M,e,hl,j,_,hq=>⟨by simpa using hl,hq acc δ M (by rw[<-e,eU];exact j)⟩
 | d::r,pre,acc,δ,M,e,hl,j,ht,hq=>by rw[dZ]at hl;refine⟨by omega,?_⟩;refine ht pre d r e acc δ M j (λδ2 y M4=>ok M4/\uP g Bl te ok Q r (acc++[y]) δ2 M4) λδ2 y M4 j'=>⟨mP _ _ _ _ j',wK all J mP r (pre++[d]) (acc++[y]) δ2 M4 (by rw[<-e,fh];rfl) ?_ j' ht hq⟩;rw[cT,dG];omega
def sE:Nat->D->Bool
 | _,.mI=>true
 | _,.bl _=>true
 | _,.int _=>true
 | _,.str _=>true
 | n+1,.tup ds=>ds.all (sE n)
 | _,_=>false
theorem yC{f:D->D->Option Bool}:∀ds:List D,(∀d∈ds,f d d=some true)->sD f ds ds=some true
 | [],_=>rfl
 | d::r,h=>by show(f d d).bind (λp=>(sD f r r).map λq=>p&&q)=some true;rw[h d dC,yC r λe he=>h e (dv _ he)];rfl
theorem xx{M:Mp}:∀(n:Nat) (d:D),sE n d=true->yd M (n+1) d d=some true
 | _,.mI,_=>rfl
 | _,.bl _,_=>by simp[yd]
 | _,.int _,_=>by simp[yd]
 | _,.str _,_=>by simp[yd]
 | n+1,.tup ds,h=>by have h:ds.all (sE n)=true:=h;show(sD (yd M (n+1)) ds ds).map (λp=>p&&ds.length==ds.length)=some true;rw[yC ds λd hd=>xx n d (eA.mp h d hd)];simp
 | 0,.tup _,h=>by cases h
 | 0,.ref _,h=>by cases h
 | _+1,.ref _,h=>by cases h
 | 0,.ty _,h=>by cases h
 | _+1,.ty _,h=>by cases h
 | 0,.rl _,h=>by cases h
 | _+1,.rl _,h=>by cases h
def zY{M:Mp}{n:Nat}{a b:Addr}{ds:List D}(ha:oS M a=some ds)(hb:oS M b=some ds)(h:∀d∈ds,yd M n d d=some true):yd M (n+1) (.ref a) (.ref b)=some true:=by show(oS M a).bind (λi=>(oS M b).bind λj=>if i.length=j.length then sD (yd M n) i j else some false)=some true;rw[ha,hb];show(if ds.length=ds.length then sD (yd M n) ds ds else some false)=some true;rw[cX rfl];exact yC ds h
def Rj(tc:Ap)(tb:xk):xk:=λE δ M=>∃W:Nat->va->Mp->Prop,(∃m,W m δ M)/\∀m δ M,W m δ M->
 tc δ M λb M1=>if b=true then tb {E with nx:=λδ' M'=>∃m',m'<m/\W m' δ' M',ct:=λδ' M'=>∃m',m'<m/\W m' δ' M',bk:=E.nx} δ M1 else E.nx δ M1
def Ng{c:Expr}{body:List Stmt}{tc:Ap}{tb:xk}(hp:PassesOwn (model X.prog X.w) X.A X.env X.xe)(hc:B3 X c tc)(hb:Hd X body tb):S3 X (.While c body [] pos) (Rj tc tb):=
 PS.mono (Lr hp hc hb) λD' σ H ⟨δ,M,E,hs,hm,⟨W,⟨m0,w0⟩,turn⟩,k1,k2,k3,k4⟩=>by
 refine⟨λm σ' H'=>∃δ' M',zH X.K H' σ' δ'/\HM X.K H' M'/\qL X.K H H'/\σ'.length=σ.length/\W m δ' M',⟨m0,δ,M,hs,hm,.refl,rfl,w0⟩,?_⟩
 rintro m σ1 H1 ⟨δ1,M1,ZN,WK,e1,l1,w1⟩
 refine⟨δ1,M1,_,ZN,WK,turn m δ1 M1 w1,λb H2 M2 W1 e2 q2=>?_⟩;cases b with
 | false=>rw[cV dn]at q2 ⊢;exact k1 σ1 H2 δ1 M2 (ZN.mono e2) W1 (e1.trans e2) l1 q2
 | true=>
  rw[cX rfl]at q2 ⊢;refine⟨λσ' H'=>∃δ' M',zH X.K H' σ' δ'/\HM X.K H' M'/\qL X.K H H'/\σ'.length=σ.length/\∃m',m'<m/\W m' δ' M',?_,δ1,M2,_,ZN.mono e2,W1,q2,?_,?_,?_,?_⟩
  .rintro σ' H' ⟨δ',M',a1,a2,a3,a4,m',lt,w⟩
   exact⟨m',lt,δ',M',a1,a2,a3,a4,w⟩
  .exact λσ' H' δ' M' y1 y2 y3 y4 y5=>⟨δ',M',y1,y2,e1.trans (e2.trans y3),by rw[y4,l1],y5⟩
  .exact λv H' d M' y1 y2 y3 y4=>k2 v H' d M' y1 y2 (e1.trans (e2.trans y3)) y4
  .exact λσ' H' δ' M' y1 y2 y3 y4 y5=>k1 σ' H' δ' M' y1 y2 (e1.trans (e2.trans y3)) (by rw[y4,l1]) y5
  .exact λσ' H' δ' M' y1 y2 y3 y4 y5=>⟨δ',M',y1,y2,e1.trans (e2.trans y3),by rw[y4,l1],y5⟩
def SC(op:Operator)(x y:D):Option D:=match op,x,y with
 | .Add,.int i,.int j=>some (.int (i+j))
 | .Sub,.int i,.int j=>some (.int (i - j))
 | _,_,_=>none
def Ro(op:Operator):V->V->Hp->VK->Prop:=λvx vy H Q=>match op,vx,vy with
 | .Add,.int i,.int j=>Q (.int (i+j)) H
 | .Sub,.int i,.int j=>Q (.int (i - j)) H
 | _,_,_=>False
def SL{op:Operator}:PX X op (Ro op):=by
 intro WI s σ H x y u v Q I rx ry h;unfold Ro at h;split at h
 .exact SQ WI s σ H _ _ u v Q I rx ry ⟨_,_,rfl,rfl,h⟩
 .exact Q9 WI s σ H _ _ u v Q I rx ry ⟨_,_,rfl,rfl,h⟩
 .exact h.elim
def Oz{K:qr}{H:Hp}{op:Operator}{x y z:D}{vx vy:V}{Q:VK}(hx:rN K H x vx)(hy:rN K H y vy)(e:SC op x y=some z)(k:∀vz,rN K H z vz->Q vz H):Ro op vx vy H Q:=by
 unfold SC at e;split at e
 .cases e;cases hx.int_inv;cases hy.int_inv;exact k _ .int
 .cases e;cases hx.int_inv;cases hy.int_inv;exact k _ .int
 .cases e
def UC(K:qr)(f:Str)(op:Operator)(ta tv:T3):xk:=λE δ M=>ta δ M λx M1=>match x with
 | .ref a=>zJ (M1 a) λC fs=>ud K C f/\(fs.lookup f).elim False λd=>tv δ M1 λy M2=>(SC op d y).elim False λz=>zJ (M2 a) λC' fs'=>C'=C/\fs'.length<1000/\E.nx δ (pB M2 a (.ins C (vT f z fs')))
 | _=>False
def Dl{o value:Expr}{ta tv:T3}{f:Str}{op:Operator}{YS:Pos}(ha:E3 X o ta)(hv:E3 X value tv):S3 X (.AugAssign (.Attribute o f YS) op value pos) (UC X.K f op ta tv):=
 PS.mono (KO ha hv SL) λD' σ H zz=>KR zz λδ M E hs hm ht k1 k2 k3 k4=>
 ⟨δ,M,_,hs,hm,ht,λv H1 d M1 hd WK e1 q1=>by
  cases d with
  | ref a=>
   cases hd.mG;obtain⟨C,fs,e,q1⟩:=xF q1;obtain⟨na,q1⟩:=q1;obtain⟨d,ed,q1⟩:=qX q1;obtain⟨dx,vs,h1,cl,nn,fo⟩:=WK a _ e;obtain⟨w,ew,hw⟩:=(wq fo).1 d ed;refine⟨a,C,dx,vs,w,rfl,h1,cl,na,ew,δ,M1,_,hs.mono e1,WK,q1,λu H2 y M2 hy W1 e2 q2=>?_⟩;obtain⟨z,ez,q2⟩:=qX q2;obtain⟨C',fs',e',q2⟩:=xF q2;obtain⟨rfl,hl,q2⟩:=q2;refine Oz (hw.mono e2) hy ez λvz hz=>?_;obtain⟨Zx,vs',Xp,cl',nn',fo'⟩:=W1 a _ e';have WO:vs'.length=fs'.length:=by have:=eG List.length fo'.1;simpa using this
   refine⟨Zx,vs',Xp,by omega,?_⟩;obtain⟨XG,e3⟩:=W1.put (p:=a) (o:=.ins C' Zx (vo f vz vs')) (c:=.ins C' (vT f z fs')) e' λx=>⟨Zx,_,qg,cl',λg hg=>by
    rcases BC hg with q|q
    .rw[q];exact na
    .exact nn' g q,Fx (hz.mono x) (fo'.mono x)⟩
   exact k1 σ _ δ _ (hs.mono (e1.trans (e2.trans e3))) XG (e1.trans (e2.trans e3)) rfl q2
  | _=>exact q1.elim⟩
theorem tL{i:Nat}{tt:Ap}{te:T3}{ok:Mp->Prop}{Q:DK}{f:D->D}{t:D->Bool}{M:Mp}(mP:ok M):∀(ds acc:List D) (δ:va),acc.length+ds.length<=sizeLine->
  (∀d∈ds,∀k:Bool->Mp->Prop,k (t d) M->tt (δ.set i (some d)) M k)->(∀d∈ds,t d=true->∀k:DK,k (f d) M->te (δ.set i (some d)) M k)->
  (∀p,M p=none->Q (.ref p) (pB M p (.lst (acc++(ds.filter t).map f))))->uP (ue i) tt te ok Q ds acc δ M
 | [],acc,δ,hl,_,_,hq=>⟨by simpa using hl,by simpa using hq⟩
 | d::r,acc,δ,hl,ht,he,hq=>by
  rw[dZ]at hl;refine⟨by omega,?_⟩;show tt (δ.set i (some d)) M _;refine ht d dC _ ?_;have z:∀e:D,(δ.set i (some d)).set i (some e)=δ.set i (some e):=λe=>by rw[jE]
  cases q:t d with
  | true=>
   rw[cX rfl];refine he d dC q _ ⟨mP,tL (f:=f) (t:=t) mP r (acc++[f d]) _ ?_ (λe m k h=>?_) (λe m h0 k h=>?_) ?_⟩
   .rw[cT,dG];omega
   .rw[z];exact ht e (dv _ m) k h
   .rw[z];exact he e (dv _ m) h0 k h
   .intro p hp;have:=hq p hp;rw[iA q]at this
    simpa using this
  | false=>
   rw[cV dn];refine⟨mP,tL (f:=f) (t:=t) mP r acc _ (by omega) (λe m k h=>?_) (λe m h0 k h=>?_) ?_⟩
   .rw[z];exact ht e (dv _ m) k h
   .rw[z];exact he e (dv _ m) h0 k h
   .intro p hp;have:=hq p hp;rw[iB (by rw[q];exact dn)]at this;exact this
section
variable {a:Expr}
def Vz(ta:T3):T3:=λδ M Q=>ta δ M λx M1=>match x with|.int i=>Q (.int (-i)) M1|_=>False
def EO(ha:E3 X a ta):E3 X (.UnaryOp .USub a pos) (Vz ta):=PE.mono (UI RM ha) λσ H Q' zz=>x7 zz λδ M Q hs hm ht k=>
 ⟨δ,M,_,hs,hm,ht,λv H1 d M1 hd WK e1 q1=>by
  cases d with
  | int i=>cases hd.int_inv;exact⟨i,rfl,k _ H1 _ M1 .int WK e1 q1⟩
  | _=>exact q1.elim⟩
end
end L3
namespace L2
open PySem PySem.Spec PyProof.Rows PySem.W
def Cz{α:Type}(lt:Nat->Nat->Bool):KasT α->α
 | .ret a=>a
 | .ask i j k=>Cz lt (k (lt i j))
def vh(n:Nat):KasT (Array Nat)->Bool
 | .ret p=>p.size==n&&p.toList.all λi=>decide (i<n)
 | .ask i j k=>decide (i<n)&&decide (j<n)&&vh n (k true)&&vh n (k false)
def G8{n i j:Nat}{k:Bool->KasT (Array Nat)}(h:vh n (.ask i j k)=true):i<n/\j<n/\∀b,vh n (k b)=true:=by simp only[vh,dO,dY]at h;exact⟨h.1.1.1,h.1.1.2,λb=>by cases b;exact h.2;exact h.1.2⟩
theorem GV{cmp:Nat->Nat->(Bool->Sd->Prop)->Sd->Prop}{lt:Nat->Nat->Bool}{n:Nat}{s:Sd}{Q:Array Nat->Sd->Prop}(hc:∀i j (C:Bool->Sd->Prop),i<n->j<n->C (lt i j) s->cmp i j C s):
  ∀t:KasT (Array Nat),vh n t=true->Q (Cz lt t) s->t.kasWp cmp Q s
 | .ret _,_,q=>q
 | .ask i j k,hb,q=>by obtain⟨h1,h2,h3⟩:=G8 hb;exact hc i j _ h1 h2 (GV hc (k (lt i j)) (h3 _) q)
theorem IA{lt:Nat->Nat->Bool}{n:Nat}:∀t:KasT (Array Nat),vh n t=true->(Cz lt t).size=n/\∀i∈(Cz lt t).toList,i<n
 | .ret p,hb=>by simp only[vh,dO,eY,eA,dY]at hb;exact hb
 | .ask i j k,hb=>IA (k (lt i j)) ((G8 hb).2.2 _)
def tO(lt:Nat->Nat->Bool)(n:Nat):List Nat:=if n<2 then List.range n else(Cz lt (kas_sort n)).toList
def VX:vh 2 (kas_sort 2)=true:=by decide+kernel
def Vh:vh 3 (kas_sort 3)=true:=by decide+kernel
def Tu{n:Nat}(h2:2<=n)(h3:n<=3):vh n (kas_sort n)=true:=by
 have:n=2\/n=3:=by omega
 rcases this with rfl|rfl
 .exact VX
 .exact Vh
def xX{lt:Nat->Nat->Bool}{n:Nat}(h3:n<=3):(tO lt n).length=n/\∀i∈tO lt n,i<n:=by
 unfold tO;by_cases h:n<2
 .rw[cX h,d6];exact⟨rfl,λi hi=>gb.mp hi⟩
 .rw[cV h];obtain⟨h1,h2⟩:=IA (lt:=lt) (kas_sort n) (Tu (by omega) h3);exact⟨by rw[ig];exact h1,h2⟩
variable {prog:Pg}{w:Wo}{A:Ar}{E:Vl→Sd→Prop}{s:Sd}
def Dh{a:Addr}{vs:List Vl}{n:Nat}{κ:SortKind}{lt:Nat->Nat->Bool}{P:PySem.Fin->Sd->Prop}(ho:s.heap.get? a=some (seqObj "list" vs.toArray n))(h3:vs.length<=3) (hk:∀h' (Q:SortKind->Sd->Prop),0<vs.length->(∀b o,b≠a->s.heap.get? b=some o->h'.get? b=some o)->Q κ {s with heap:=h'}->wpAny (model prog w) A (keyKind' vs.toArray) Q (λ_ _=>False) {s with heap:=h'})
  (WW:∀h' i j (C:Bool->Sd->Prop),(∀b o,b≠a->s.heap.get? b=some o->h'.get? b=some o)->i<vs.length->j<vs.length->C (lt i j) {s with heap:=h'}->wpAny (model prog w) A (keyLt' κ (vs.getD i .none) (vs.getD j .none)) C (λ_ _=>False) {s with heap:=h'})
  (h:P (.done (.ret .none)) {s with heap:=sortedHeap s.heap a vs (List.toArray ((tO lt vs.length).map λi=>vs.getD i Value.none))}):
  wpAny (model prog w) A (Builtin.«list.sort» ⟨[.ref a],[]⟩) P E s:=by
 rw[list_sort_plain];have hz:=dF;have ha:a<s.heap.objs.size:=dh ho;refine cR (listItems_at ho rfl ?_);refine cR (kx ho rfl ?_ (by rw[dg];omega) (dS _));obtain⟨e1,ZF⟩:∃e1,(s.heap.update a (Obj.mapSeq λ_=>#[])).get? a=some (seqObj "list" #[] e1):=⟨_,get?_update_seq ho (λ_=>#[])⟩;refine cR (lB ZF rfl ?_);refine cR (wpAny_newTuple ?_ (by show vs.length<=_;omega));refine cR (wpAny_newList ?_ (dS _));refine eN ?_;have ho6:(((s.heap.update a (Obj.mapSeq λ_=>#[])).push (seqObj "tuple" vs.toArray 0)).push (seqObj "list" #[] 0)).get? a=some (seqObj "list" #[] e1):=by rw[iE _ _ _ (by rw[lY,iH];exact dB (fR ha)),iE _ _ _ (by rw[iH];exact dB ha)];exact ZF
 have keep:∀b o,b≠a->s.heap.get? b=some o->(((s.heap.update a (Obj.mapSeq λ_=>#[])).push (seqObj "tuple" vs.toArray 0)).push (seqObj "list" #[] 0)).get? b=some o:=λb o hb q=>by have WW:b<s.heap.objs.size:=dh q;rw[iE _ _ _ (by rw[lY,iH];exact dB (fR WW)),iE _ _ _ (by rw[iH];exact dB WW),iV _ _ _ _ hb];exact q
 show wpAny (model prog w) A _ P E {s with heap:=((s.heap.update a (Obj.mapSeq λ_=>#[])).push (seqObj "tuple" vs.toArray 0)).push (seqObj "list" #[] 0)};dsimp only;have hsz:vs.toArray.size=vs.length:=by simp
 by_cases h2:vs.toArray.size<2
 .rw[cX h2,cX h2];refine cR (de ?_);rw[StateT.run_pure];refine cR (de ?_);dsimp only;refine cR (lB ho6 rfl ?_);have eo:(arrOf (SortSt.mk' general' (vs.toArray.zip vs.toArray) #[] 7 none)).map (·.2)=List.toArray ((tO lt vs.length).map λi=>vs.getD i Value.none):=by
   unfold tO;rw[cX (by omega)];show((vs.toArray.zip vs.toArray).map (·.2))=_
   match vs,hsz,h2 with
   | [],_,_=>simp
   | [_],_,_=>simp[iQ]
   | _::_::_,_,h2=>simp at h2;omega
  rw[eo];refine cR (kx ho6 rfl ?_ (dS _) (by rw[dg,cQ,(xX h3).1];omega));simp only[ly,kS,kc];exact de h
 .rw[cV h2,cV h2];have g2:2<=vs.length:=by omega
  refine cR (dX (hk _ (λκ' s'=>κ'=κ/\s'={s with heap:=((s.heap.update a (Obj.mapSeq λ_=>#[])).push (seqObj "tuple" vs.toArray 0)).push (seqObj "list" #[] 0)}) (by omega) keep ⟨rfl,rfl⟩) ?_ λ_ _ x=>x.elim)
  rintro κ' s' ⟨rfl,rfl⟩
  refine cR (dX (kat_run (ks:=vs) (vs:=vs) (Q:=λXz s'=>∃p:Array Nat,arrOf Xz=p.map (kas_item (vs.toArray.zip vs.toArray))/\failedOf Xz=none/\p.toList=tO lt vs.length/\s'={s with heap:=((s.heap.update a (Obj.mapSeq λ_=>#[])).push (seqObj "tuple" vs.toArray 0)).push (seqObj "list" #[] 0)})
   (G:=λp s'=>p.toList=tO lt vs.length/\s'={s with heap:=((s.heap.update a (Obj.mapSeq λ_=>#[])).push (seqObj "tuple" vs.toArray 0)).push (seqObj "list" #[] 0)})
   rfl g2 (by omega) (λp' Xz s' a1 a2 a3 a4=>⟨p',a2,a3,a4⟩) (GV (n:=vs.length) (lt:=lt) (λi j C hi hj hC=>WW _ i j C keep hi hj hC) _ (Tu g2 h3) ⟨by unfold tO;rw[cV (by omega)],rfl⟩)) ?_ λ_ _ e=>e)
  rintro ⟨⟨⟩,Xz⟩ s' ⟨p,har,hf,hp,rfl⟩
  dsimp only;have hout:=kat_snds rfl har;rw[hp]at hout;refine cR (lB ho6 rfl ?_);rw[hout];refine cR (kx ho6 rfl ?_ (dS _) (by rw[dg,cQ,(xX h3).1];omega));rw[hf];simp only[ly,kS,kc];exact de h
def UV(a b:Str×Int):Bool:=if a.1==b.1 then(if a.2==b.2 then false else decide (a.2<b.2))else decide (a.1.cps.toList<b.1.cps.toList)
def Pl{x y:Addr}{ox oy:Obj}{n k:Nat}{a b:Str×Int}{t1 t2 t3 t4:Tok}{C:Bool->Sd->Prop}(hx:s.heap.get? x=some ox)(dx:ox.data=.seq #[.str a.1 t1,.int a.2 t2] n)(hy:s.heap.get? y=some oy)(dy:oy.data=.seq #[.str b.1 t3,.int b.2 t4] k)(h:C (UV a b) s):
  wpAny (model prog w) A (keyLt' (tuples' true) (.ref x) (.ref y)) C E s:=by
 refine kat_lt hx dx hy dy ?_;show KatLex prog w A true _ C [(Value.str a.1 t1,Value.str b.1 t3),(Value.int a.2 t2,Value.int b.2 t4)] 0 s;unfold UV at h;refine kat_cons (eqBool_str ?_);cases e:a.1==b.1 with
 | true=>
  rw[e,cX rfl]at h;refine kat_yes (kat_cons (lD ?_));cases e2:a.2==b.2 with
  | true=>rw[e2,cX rfl]at h;exact kat_yes (kat_nil h)
  | false=>rw[e2,cV dn]at h;exact kat_no (kat_one _ _ (PyProof.Rows.lt_int h))
 | false=>rw[e,cV dn]at h;exact kat_no (oneLt_str h)
def CW{x:Str}{v:Vl}(h:Bj (.inr x) v=true):∃t,v=.str x t:=by
 rcases rO h with⟨i,t,e,_⟩|⟨y,t,e,e2⟩
 .cases e
 .cases e;exact⟨t,e2⟩
def Fp(ps:List (Str×Int))(i j:Nat):Bool:=UV (ps.getD i ("",0)) (ps.getD j ("",0))
def tz(ps:List (Str×Int)):List (Str×Int):=(tO (Fp ps) ps.length).map λi=>ps.getD i ("",0)
def DD{ps:List (Str×Int)}(h:ps.length<=3):(tz ps).length=ps.length:=by unfold tz;rw[cQ];exact(xX h).1
def Pr(h:Heap)(a:Addr)(p:Str×Int):Prop:=Bq λt1 t2=>h.get? a=some {cls:=.type "tuple",data:=.seq #[.str p.1 t1,.int p.2 t2]}
def Pr.inj{h:Heap}{a:Addr}{p q:Str×Int}(x:Pr h a p)(y:Pr h a q):p=q:=by obtain⟨t1,t2,e1⟩:=x;obtain⟨u1,u2,e2⟩:=y;rw[e1]at e2;have:=c9 e2;simp only[Obj.mk.injEq,Data.seq.injEq,Array.mk.injEq,List.cons.injEq,Value.str.injEq,Value.int.injEq]at this;exact mo (by simp_all) (by simp_all)
theorem Jy{h:Heap}:∀(as:List Addr) (ps:List (Str×Int)),as.length=ps.length->(∀(j:Nat) (a:Addr) (p:Str×Int),as[j]?=some a->ps[j]?=some p->Pr h a p)->∃fs,KatTups h (as.map Value.ref) fs/\fs.length=as.length/\∀v∈fs,∃x t,v=Value.str x t
 | [],[],_,_=>⟨[],.nil,rfl,λv hv=>nomatch hv⟩
 | [],_::_,e,_=>by cases e
 | _::_,[],e,_=>by cases e
 | a::as,p::ps,e,hp=>by
  obtain⟨fs,h1,h2,h3⟩:=Jy as ps (by simpa using e) λj a' p' e1 e2=>hp (j+1) a' p' (by simpa using e1) (by simpa using e2);obtain⟨t1,t2,ea⟩:=hp 0 a p rfl rfl;refine⟨.str p.1 t1::fs,.cons ea rfl rfl rfl h1,by simp[h2],λv hv=>?_⟩;rcases cY.mp hv with z|z
  .exact⟨_,_,z⟩
  .exact h3 v z
def G2{r d:Addr}{kvs:List (qV×Vl)}{ep:Nat}{ps:List (Str×Int)}{Q:Vl->Sd->Prop}(hh:A.handled=none)(hv:s.heap.IsItemsView r d)(hm:s.heap.DictAt (rm prog w) d kvs ep)(h3:ps.length<=3) (hp:kvs.length=ps.length) (YK:∀(j:Nat) (k:qV) (x:Vl),kvs[j]?=some (k,x)->∃p t,ps[j]?=some p/\k=Sum.inr p.1/\x=.int p.2 t) (h:∀(h':Heap) (tk:Nat) (S:Addr) (ws:List Addr) (e:Nat),(∀b o,s.heap.get? b=some o->h'.get? b=some o)->r<S->h'.get? S=some (seqObj "list" (ws.map Value.ref).toArray e)->ws.length=ps.length->
    (∀(j:Nat) (a:Addr) (p:Str×Int),ws[j]?=some a->(tz ps)[j]?=some p->r<a/\a≠S/\Pr h' a p)->Q (.ref S) {s with heap:=h',toks:=tk}):
  wpAny (model prog w) A (call (.builtin "sorted") [.ref r]) Q E s:=by
 have hz:=dF;have hr:r<s.heap.objs.size:=by obtain⟨o,ho,_⟩:=hv;exact dh ho
 refine Calls.call_function_entry kind_sorted plain_sorted entry_sorted (args_sorted1 _) ?_;unfold Builtin.«sorted»;refine cR (m:=checkCount "sorted" 1 1 _) (de ?_);refine cR (kdx_collect (A:=A.in1) hh hv hm (by omega) λh1 tk as hk hl hG=>?_);refine cR (wpAny_newList ?_ (by rw[cQ];omega));have hl':as.length=ps.length:=by omega
 have pr:∀(j:Nat) (a:Addr) (p:Str×Int),as[j]?=some a->ps[j]?=some p->Pr h1 a p:=λj a p e1 e2=>by obtain⟨key,k,x,f1,f2,f3⟩:=hG.pairs j a e1;obtain⟨p',t,g1,g2,g3⟩:=YK j k x f1;rw[e2]at g1;cases g1;subst g2 g3;obtain⟨t',rfl⟩:=CW f2;exact⟨t',t,f3⟩
 have hoL:(h1.push (seqObj "list" (as.map Value.ref).toArray 0)).get? h1.objs.size=some (seqObj "list" (as.map Value.ref).toArray 0):=dA _ rfl;have pr2:∀h',(∀b o,b≠h1.objs.size->(h1.push (seqObj "list" (as.map Value.ref).toArray 0)).get? b=some o->h'.get? b=some o)->∀(j:Nat) (a:Addr) (p:Str×Int),as[j]?=some a->ps[j]?=some p->Pr h' a p:=λh' kp j a p e1 e2=>by obtain⟨t1,t2,e3⟩:=pr j a p e1 e2;exact⟨t1,t2,kp _ _ (dB (dh e3)) (cW _ e3)⟩
 have gd:∀i,i<as.length->∃a p,as[i]?=some a/\ps[i]?=some p/\(as.map Value.ref).getD i Value.none=.ref a/\ps.getD i ("",0)=p:=λi hi=>by
  have XD:i<ps.length:=by omega
  refine⟨as[i],ps[i],cU hi,cU XD,?_,?_⟩
  .simp[hi]
  .simp[XD]
 have hll:(as.map Value.ref).length=ps.length:=by rw[cQ];exact hl'
 show wpAny _ _ _ _ _ {s with heap:=h1.push (seqObj "list" (as.map Value.ref).toArray 0),toks:=tk};refine cR (eN (fP slot_list_sort ⟨_,hoL,rfl⟩ entry_list_sort (Dh (κ:=tuples' true) (lt:=Fp ps) (s:={s with heap:=h1.push (seqObj "list" (as.map Value.ref).toArray 0),toks:=tk}) hoL (by rw[hll];exact h3) (λh' Q' W8 kp hq=>?_) (λh' i j C kp hi hj hC=>?_) ⟨_,rfl,?_⟩) (args_list_sort _)))
 .obtain⟨fs,k1,k2,k3⟩:=Jy as ps hl' (pr2 h' kp);refine kat_kind (T:=Value.type "str") k1 (by rw[k2];rw[cQ]at W8;exact W8) (λv hv=>?_) (by decide) hq;obtain⟨x,t,rfl⟩:=k3 v hv;exact Looks.now
 .rw[cQ]at hi hj;obtain⟨a,p,a1,a2,a3,a4⟩:=gd i hi;obtain⟨b,q,b1,b2,b3,b4⟩:=gd j hj;rw[a3,b3];obtain⟨t1,t2,e1⟩:=pr2 h' kp i a p a1 a2;obtain⟨t3,t4,e2⟩:=pr2 h' kp j b q b1 b2;refine Pl (s:={s with heap:=h',toks:=tk}) e1 rfl e2 rfl ?_;show C (UV p q) _;rw[<-a4,<-b4];exact hC
 .obtain⟨e,he⟩:=sortedHeap_at (h:=h1.push (seqObj "list" (as.map Value.ref).toArray 0)) (a:=h1.objs.size) (vs:=as.map Value.ref) (out:=List.toArray ((tO (Fp ps) (as.map Value.ref).length).map λi=>(as.map Value.ref).getD i Value.none)) hoL;have old:∀b o,h1.get? b=some o->(sortedHeap (h1.push (seqObj "list" (as.map Value.ref).toArray 0)) h1.objs.size (as.map Value.ref) (List.toArray ((tO (Fp ps) (as.map Value.ref).length).map λi=>(as.map Value.ref).getD i Value.none))).get? b=some o:=λb o q=>by have hb:=dh q;rw[sortedHeap_old (dB hb) (by rw[lY];exact fR hb)];exact cW _ q
  have ix:=xX (lt:=Fp ps) h3;have eo:((tO (Fp ps) (as.map Value.ref).length).map λi=>(as.map Value.ref).getD i Value.none)=((tO (Fp ps) ps.length).map λi=>as.getD i 0).map Value.ref:=by
   rw[hll,dU];refine gu λi hi=>?_;have:=ix.2 i hi;have Yi:i<as.length:=by omega
   simp[Yi]
  refine de ⟨_,rfl,h _ tk h1.objs.size ((tO (Fp ps) ps.length).map λi=>as.getD i 0) e (λb o q=>old b o (hk b o q)) ?_ ?_ ?_ λj a p e1 e2=>?_⟩
  .obtain⟨o,ho,_⟩:=hv;exact dh (hk _ _ ho)
  .rw[he,eo]
  .rw[cQ];exact ix.1
  .unfold tz at e2;rw[dq]at e1 e2;cases ei:(tO (Fp ps) ps.length)[j]? with
   | none=>rw[ei]at e1;cases e1
   | some i=>
    rw[ei]at e1 e2;have hi:=ix.2 i (fi ei);obtain⟨a',p',a1,a2,a3,a4⟩:=gd i (by omega);have ea:a=a':=by have:as.getD i 0=a:=c9 e1;rw[<-this];simp[fY,a1]
    have ep:p=p':=by have:ps.getD i ("",0)=p:=c9 e2;rw[<-this,a4]
    subst ea ep;have P1:=pr i a p a1 a2;obtain⟨t1,t2,e3⟩:=P1;exact⟨il hr (hG.above a (fi a1)),dB (dh e3),t1,t2,old _ _ e3⟩
def Inv.many{X:Cx}{WI:List (Addr×Obj)}{σ:St}{H H':Hp}{s:Sd}{h':Heap}{t':Nat}(I:Inv X WI σ H s)(k:∀b o,s.heap.get? b=some o->h'.get? b=some o)(hs:∀b,b<s.heap.objs.size->H' b=H b) (new:∀b o,s.heap.objs.size<=b->H' b=some o->sR X.prog X.w H' h' b o):Inv X WI σ H' {s with heap:=h',toks:=t'}:=by
 have sm:∀b o,H b=some o->H' b=some o:=λb o e=>by rw[hs b (I.mP.lt e)];exact e
 refine I.step (g':=s.gens) (d':=s.drawn) (ch:=[]) (λb hb=>nomatch hb) (λb o _ _ _ e _=>k b o e) (λb o _ _ _ e _=>⟨o.slots,k b o e⟩) (λb o _ e n=>by rw[hs b (dh e)];exact n)
  (λb o _ e=>⟨o,k b o e⟩) (λb xs e=>sm b _ e) (λb o u e=>sm b _ e) (λb ps e=>⟨#[],by rw[sm b _ e];simp⟩) (λm hm=>?_) (λb u e=>?_) I.bare
 .obtain⟨o,es,ep,ho,r⟩:=hm;exact⟨o,es,ep,k _ o ho,r⟩
 .by_cases hb:b<s.heap.objs.size
  .rw[hs b hb]at e;exact(I.mP b u e).nj (λc v _ q=>k c v q) (λc q=>sm c _ q) λc xs q=>sm c _ q
  .exact new b u (jA hb) e
def Ry(te:TE):TE:=λσ H Q=>te σ H λv H1=>∃a kvs ps,v=.ref a/\H1 a=some (.dK kvs)/\kvs=(ps:List (Str×Int)).map (λp=>((Sum.inr p.1:qV),V.int p.2))/\ps.length<=3/\
 ∀(S:Addr) (H2:Hp) (ws:List Addr),H1 S=none->(∀b o,H1 b=some o->H2 b=some o)->H2 S=some (.lst (ws.map V.ref))->ws.length=ps.length->(∀(j:Nat) (a:Addr) (p:Str×Int),ws[j]?=some a->(tz ps)[j]?=some p->H2 a=some (.tup [.str p.1,.int p.2]))->
  (∀b o,H1 b=none->H2 b=some o->b=S\/∃p:Str×Int,o=.tup [.str p.1,.int p.2])->Q (.ref S) H2
def KC:bootBuiltins "sorted"=some (.builtin "sorted"):=by decide+kernel
theorem I9:∀{ps:List (Str×Int)} {vs:List (qV×Vl)},KV (ps.map (λp=>((Sum.inr p.1:qV),V.int p.2))) vs->vs.length=ps.length/\∀(j:Nat) (k:qV) (x:Vl),vs[j]?=some (k,x)->∃p t,ps[j]?=some p/\k=Sum.inr p.1/\x=.int p.2 t
 | [],_,.nil=>⟨rfl,λj k x e=>by simp at e⟩
 | p::ps,_,.cons r rs=>by
  obtain⟨h1,h2⟩:=I9 rs;refine⟨by simp[h1],λj k x e=>?_⟩;cases j with
  | zero=>have e:=c9 e;obtain⟨r1,t,r2⟩:=r;subst e;exact⟨p,t,rfl,r1.symm,r2⟩
  | succ j=>exact h2 j k x e
def EF{X:Cx}{o:Expr}{te:TE}{p pos WL WP:Pos}(hc:X.calm=true)(he:PE X o te)(hg:Gl X "sorted")(hm:X.mg "sorted"=none) (WV:attributeBase o "items" X.env (eval o X.env)=eval o X.env:=by rfl) (W6:(WL.endLine==WP.line)=true:=by rfl):
  PE X (.Call (.Name "sorted" p) [.Call (.Attribute o "items" WL) [] [] WP] [] pos) (Ry te):=by
 intro WI s σ H Q I h;refine fO (wW I hg hm KC ?_);refine gN ?_ rfl rfl;show wpAny _ _ (spliced ((false,eval (.Call (.Attribute o "items" WL) [] [] WP) X.env)::backTo pos (starEach [] X.env))) _ _ s;refine ik ?_;refine wpAny_Call_method0_late WV W6 (so (he WI s σ H _ I h) λv s1 zz=>?_);obtain⟨x,H1,I1,r1,a,kvs,ps,ex,ea,ek,h3,q⟩:=zz;subst ex;obtain rfl:v=Value.ref a:=r1;obtain⟨h1,h2⟩:=LR (T:="dict") (x:=.ref a) I1 rfl (.inr (.inr (.inl ⟨rfl,.inl ⟨_,ea⟩⟩)));refine⟨"dict","dict.items",PySem.F.plainAttrs_dict,jM,PySem.F.type_dict_items,h1,h2,jW rfl (PySem.evalArgs_none ?_)⟩;obtain⟨hz,hS,vs,rk,hD⟩:=I1.mP a _ ea;refine call_meetsIn jM h1 PySem.F.entry_dict_items (PySem.F.args_dict_items_1 _) (meets_dict_items (rm X.prog X.w) a hS) ⟨⟨vs,hD⟩,?_⟩;refine iD ?_;obtain⟨ep,Zi⟩:=hD.dictAt;subst ek;obtain⟨g1,g2⟩:=I9 rk;refine G2 (ps:=ps) (s:={s1 with heap:=s1.heap.push {cls:=.type "dict_items",data:=.fields #[.ref a]}}) (I1.ok.hd hc) ⟨_,dA _ rfl,rfl,rfl⟩ (Zi.push _) h3 g1 g2 λh' tk S ws e k hrS Yr hl hw=>?_;have k':∀b o,s1.heap.get? b=some o->h'.get? b=some o:=λb o z=>k b o (cW _ z);have hsl:(tz ps).length=ws.length:=by rw[DD h3,hl]
 let H2:Hp:=λb=>if b=S then some (.lst (ws.map V.ref))else match (ws.zip (tz ps)).lookup b with
  | some p=>some (.tup [.str p.1,.int p.2])
  | none=>H1 b
 have at1:∀b p,(ws.zip (tz ps)).lookup b=some p->s1.heap.objs.size<b/\b≠S/\Pr h' b p:=λb p z=>by
  have:(b,p)∈ws.zip (tz ps):=by
   have go:∀l:List (Addr×(Str×Int)),l.lookup b=some p->(b,p)∈l:=λl=>by
    induction l with
    | nil=>intro z;cases z
    | cons c r ih=>
     intro z;rw[eB]at z;cases q:b==c.1 with
     | true=>
      rw[q]at z;have hb:b=c.1:=by simpa using q
      have:c=(b,p):=mo hb.symm (c9 z);rw[this];exact dC
     | false=>rw[q]at z;exact dv _ (ih z)
   exact go _ z
  obtain⟨j,hj⟩:=List.mem_iff_getElem?.mp this;obtain⟨e1,e2⟩:=ij.mp hj;exact hw j b p e1 e2
 have lowS:s1.heap.objs.size<S:=hrS;have low:∀b,b<s1.heap.objs.size->H2 b=H1 b:=λb hb=>by
  show(if b=S then _ else _)=_;rw[cV (dB (il hb lowS))];cases z:(ws.zip (tz ps)).lookup b with
  | none=>rfl
  | some p=>exact absurd (at1 b p z).1 (Nat.not_lt_of_lt hb)
 have eS:H2 S=some (.lst (ws.map V.ref)):=cX rfl;have fr:∀b,s1.heap.objs.size<=b->H1 b=none:=λb hb=>I1.mP.fresh hb;have tupAt:∀(j:Nat) (b:Addr) (p:Str×Int),ws[j]?=some b->(tz ps)[j]?=some p->H2 b=some (.tup [.str p.1,.int p.2]):=λj b p e1 e2=>by
  obtain⟨_,n2,n3⟩:=hw j b p e1 e2;show(if b=S then _ else _)=_;rw[cV n2];have mem:(b,p)∈ws.zip (tz ps):=fi (ij.mpr ⟨e1,e2⟩);cases z:(ws.zip (tz ps)).lookup b with
  | none=>
   have go:∀l:List (Addr×(Str×Int)),(b,p)∈l->l.lookup b≠none:=λl=>by
    induction l with
    | nil=>intro z;cases z
    | cons c r ih=>
     intro z;rw[eB];cases q:b==c.1 with
     | true=>simp
     | false=>
      rcases cY.mp z with y|y
      .rw[<-y]at q;simp at q
      .exact ih y
   exact absurd z (go _ mem)
  | some p'=>rw[(at1 b p' z).2.2.inj n3]
 have Zj:∀b u,s1.heap.objs.size<=b->H2 b=some u->sR X.prog X.w H2 h' b u/\(b=S\/∃p:Str×Int,u=.tup [.str p.1,.int p.2]):=λb u hb z=>by
  by_cases eb:b=S
  .subst eb;rw[eS]at z;cases z;refine⟨⟨by rw[cQ,hl,dF];omega,ws.map Value.ref,e,?_,Yr⟩,.inl rfl⟩;have go:∀l:List Addr,qz (l.map V.ref) (l.map Value.ref):=λl=>by
    induction l with
    | nil=>exact .nil
    | cons c r ih=>exact .cons rfl ih
   exact go ws
  .have z':(match (ws.zip (tz ps)).lookup b with|some p=>some (HO.tup [.str p.1,.int p.2])|none=>H1 b)=some u:=by have:H2 b=_:=cV eb;rw[this]at z;exact z
   cases y:(ws.zip (tz ps)).lookup b with
   | none=>rw[y,fr b hb]at z';cases z'
   | some p=>rw[y]at z';cases z';obtain⟨_,_,t1,t2,e3⟩:=at1 b p y;exact⟨⟨by show 2<=sizeLine;rw[dF];decide,[.str p.1 t1,.int p.2 t2],.cons ⟨_,rfl⟩ (.cons ⟨_,rfl⟩ .nil),⟨_,e3,rfl,⟨_,rfl⟩,rfl⟩⟩,.inr ⟨p,rfl⟩⟩
 refine⟨.ref S,H2,I1.many (t':=tk) k' low λb u hb z=>(Zj b u hb z).1,rfl,q S H2 ws (fr S (jv lowS)) (λb u z=>by rw[low b (I1.mP.lt z)];exact z) eS hl tupAt λb u z1 z2=>?_⟩;by_cases hb:b<s1.heap.objs.size
 .rw[low b hb,z1]at z2;cases z2
 .exact(Zj b u (jA hb) z2).2
end L2
namespace L3
open PySem PySem.Spec PyProof.Rows L2
def Ao(p:Str×Int):D:=.tup [.str p.1,.int p.2]
def Rq(ta:T3):T3:=λδ M Q=>ta δ M λx M1=>match x with
 | .ref a=>∃ps:List (Str×Int),y9 M1 a=some (ps.map λp=>((Sum.inr p.1:qV),D.int p.2))/\ps.length<=3/\∀S,M1 S=none->Q (.ref S) (pB M1 S (.lst ((tz ps).map Ao)))
 | _=>False
theorem B4{K:qr}{H:Hp}:∀{ps:List (Str×Int)} {vs:List (qV×V)},vs.map (·.1)=(ps.map λp=>((Sum.inr p.1:qV),D.int p.2)).map (·.1)->qd K H ((ps.map λp=>((Sum.inr p.1:qV),D.int p.2)).map (·.2)) (vs.map (·.2))->vs=ps.map (λp=>((Sum.inr p.1:qV),V.int p.2))
 | [],[],_,_=>rfl
 | [],_::_,e,_=>by cases e
 | _::_,[],e,_=>by cases e
 | p::ps,(k,v)::vs,e,h=>by obtain⟨x,r,e2,h1,h2⟩:=h.inv;obtain⟨e3,e4⟩:=gk e2;obtain⟨f1,f2⟩:=gk e;subst e3 e4;have hk:k=Sum.inr p.1:=f1;have hv:v=V.int p.2:=rN.int_inv h1;rw[B4 f2 h2,hk,hv];rfl
def EZ{X:Cx}{o:Expr}{ta:T3}{p pos WL WP:Pos}(hc:X.calm=true)(he:E3 X o ta)(hg:Gl X "sorted")(hm:X.mg "sorted"=none) (WV:attributeBase o "items" X.env (eval o X.env)=eval o X.env:=by rfl) (W6:(WL.endLine==WP.line)=true:=by rfl):
  E3 X (.Call (.Name "sorted" p) [.Call (.Attribute o "items" WL) [] [] WP] [] pos) (Rq ta):=PE.mono (EF hc he hg hm WV W6) λσ H Q' zz=>x7 zz λδ M Q hs hm ht k=>
 ⟨δ,M,_,hs,hm,ht,λv H1 d M1 hd WK e1 q1=>by
  cases d with
  | ref a=>
   cases hd.mG;obtain⟨ps,f1,f2,q⟩:=q1;obtain⟨vs,h1,h2,h3⟩:=zt WK f1;refine⟨a,vs,ps,rfl,h1,B4 h2 h3,f2,λS H2 ws n1 kp eS hl hw hn=>?_⟩;have ex:qL X.K H1 H2:=⟨λb xs z=>by
    rcases z with(z|⟨u,z⟩)|z
    .exact .inl (.inl (kp _ _ z))
    .exact .inl (.inr ⟨u,kp _ _ z⟩)
    .exact .inr z,λb u xs z=>kp _ _ z⟩
   have hl2:(tz ps).length=ws.length:=by rw[DD f2,hl]
   have hasW:∀(l:List (Str×Int)) (us:List Addr),l.length=us.length->(∀(j:Nat) (a:Addr) (p:Str×Int),us[j]?=some a->l[j]?=some p->H2 a=some (.tup [.str p.1,.int p.2]))->qd X.K H2 (l.map Ao) (us.map V.ref):=λl=>by
    induction l with
    | nil=>intro us e _;cases us with
     | nil=>exact .nil
     | cons _ _=>cases e
    | cons c r ih=>intro us e hu;cases us with
     | nil=>cases e
     | cons b us=>exact .cons (.tup (.of (hu 0 b c rfl rfl)) (.cons .str (.cons .int .nil))) (ih us (by simpa using e) λj a p e1 e2=>hu (j+1) a p e1 e2)
   refine k _ _ _ _ .ref (λb c z=>?_) (e1.trans ex) (q S (WK.fresh n1));by_cases eb:b=S
   .subst eb;rw[pN]at z;cases z;exact⟨_,eS,hasW _ _ hl2 hw⟩
   .rw[tW eb]at z;have ok:=WK b c z;obtain⟨u,eu,_⟩:=ok.there;exact ok.keep ex (by rw[eu,kp _ _ eu])
  | _=>exact q1.elim⟩
variable {X:Cx}{pos:Pos}{a b o i:Expr}{ta tb ti to:T3}
def UE(to ti:T3):DI:=λd δ M Q=>to δ M λx M1=>ti δ M1 λy M2=>match x,y with
 | .ref p,.int k=>(oS M2 p).elim False λes=>(FX es.length k).elim False λj=>Q δ (pB M2 p (.lst (es.set j d)))
 | _,_=>False
theorem qd.set{K:qr}{H:Hp}{d:D}{v:V}(hv:rN K H d v):∀{ds:List D} {xs:List V} (j:Nat),qd K H ds xs->qd K H (ds.set j d) (xs.set j v)
 | [],_,j,h=>by rw[h.nil_inv];simp only[List.set_nil];exact .nil
 | e::ds,_,0,h=>by obtain⟨x,r,rfl,h1,h2⟩:=h.inv;exact .cons hv h2
 | e::ds,_,j+1,h=>by obtain⟨x,r,rfl,h1,h2⟩:=h.inv;exact .cons h1 (qd.set hv j h2)
def SM(ho:E3 X o to)(hi:E3 X i ti) (ha:∀v,assign (.Subscript o i pos) X.env v=(do
   let ov<-holding [v] (eval o X.env);let iv<-holding [v,ov] (eval i X.env)
   standAt pos
   holding [v,ov,iv] (setItem ov iv v)
   release [v,ov,iv] []):=by intro _;rfl):G3 X (.Subscript o i pos) (UE to ti):=
 PG.mono (RD ho hi Mr ha) λv σ H Q' ⟨d,δ,M,Q,hd,hs,hm,ht,k⟩=>
 ⟨δ,M,_,hs,hm,ht,λvx H1 x M1 hx WK e1 q1=>⟨δ,M1,_,hs.mono e1,WK,q1,λvy H2 y M2 hy W1 e2 q2=>by
  cases x with
  | ref p=>
   cases y with
   | int j0=>obtain⟨es,f1,q2⟩:=qX q2;obtain⟨j,f2,q2⟩:=qX q2;cases(hx.mono e2).mG;cases hy.int_inv;obtain⟨xs,h1,h2⟩:=ER W1 f1;refine⟨p,xs,j0,j,rfl,rfl,h1,by rw[<-h2.length];exact f2,?_⟩;have hd2:=hd.mono (e1.trans e2);obtain⟨XG,e3⟩:=W1.put (o:=.lst (xs.set j v)) (c:=.lst (es.set j d)) (pR f1) λex=>⟨_,qg,(h2.mono ex).set (hd2.mono ex) j⟩;exact k σ _ δ _ (hs.mono (e1.trans (e2.trans e3))) XG (e1.trans (e2.trans e3)) rfl q2
   | _=>exact q2.elim
  | _=>exact q2.elim⟩⟩
end L3
namespace L2
open PySem PySem.Spec PyProof.Rows
variable {prog:Pg}{w:Wo}{A:Ar}{E:Vl→Sd→Prop}{s:Sd}{X:Cx}
end L2
namespace L3
open PySem PySem.Spec PyProof.Rows L2
variable {X:Cx}{pos WL p:Pos}{a b o e i value:Expr}{es:List Expr}{ta tb ti to tv td tk:T3}{t:xl}
def RF(x y:D)(M:Mp)(Q:DK):Prop:=match x,y with
 | .ref a,.int k=>(oS M a).elim False λes=>(0<=k/\k<=1000/\es.length<=1000)/\∀p,M p=none->Q (.ref p) (pB M p (.lst (List.replicate k.toNat es).flatten))
 | _,_=>False
theorem JP{K:qr}{H:Hp}{ds:List D}{xs:List V}(h:qd K H ds xs):∀n:Nat,qd K H (List.replicate n ds).flatten (List.replicate n xs).flatten
 | 0=>.nil
 | n+1=>by rw[eC,eC,fM,fM];exact h.append (JP h n)
def Rh:xn X (binaryOp .Mult) (R3 X.K RF):=λWI s σ H vx vy v u Q' I rx ry h=>by
 obtain⟨x,y,M,Q,hx,hy,hm,q,k⟩:=h;unfold RF at q;split at q
 .obtain⟨es,e1,⟨q1,q2,q3⟩,q⟩:=qX q;cases hx.mG;cases hy.int_inv;obtain⟨xs,h1,h2⟩:=ER hm e1;have hz:=dF;have hl:=h2.length;refine Rx WI s σ H _ _ v u Q' I rx ry ⟨_,_,xs,rfl,rfl,h1,by omega,by omega,?_,λpp hp=>?_⟩
  .exact dN (j5 (show xs.length<=1000 by omega) (show Int.toNat _<=1000 by omega)) (by rw[hz];decide)
  .exact k _ _ _ _ .ref (hm.new (c:=.lst _) hp ⟨_,qg,(JP h2 _).mono (.new hp)⟩) (.new hp) (q pp (hm.fresh hp))
 .exact q.elim
def Us(ta tb:T3):T3:=λδ M Q=>ta δ M λx M1=>tb δ M1 λy M2=>RF x y M2 Q
def BR(ha:E3 X a ta)(hb:E3 X b tb):E3 X (.BinOp a .Mult b pos) (Us ta tb):=PE.mono (QF Rh ha hb) Hq
def Bw(kvs:List (qV×D))(k:qV)(v:D):List (qV×D):=if (kvs.any λkv=>decide (kv.1=k))=true then kvs.map (λkv=>if kv.1=k then(kv.1,v)else kv)else kvs++[(k,v)]
theorem GP{κ α β:Type}{k:κ}[DecidableEq κ]:∀{xs:List (κ×α)} {ys:List (κ×β)},xs.map (·.1)=ys.map (·.1)->(xs.any λkv=>decide (kv.1=k))=ys.any λkv=>decide (kv.1=k)
 | [],[],_=>rfl
 | [],_::_,e=>by cases e
 | _::_,[],e=>by cases e
 | x::xs,y::ys,e=>by obtain⟨e1,e2⟩:=gk e;rw[fX,fX,GP e2];have e1:x.1=y.1:=e1;rw[e1]
def JY{K:qr}{H:Hp}{k:qV}{d:D}{v:V}(hv:rN K H d v){kvs:List (qV×D)}{vs:List (qV×V)}(h1:vs.map (·.1)=kvs.map (·.1))(h2:qd K H (kvs.map (·.2)) (vs.map (·.2))):
  (yJ vs k v).map (·.1)=(Bw kvs k d).map (·.1)/\qd K H ((Bw kvs k d).map (·.2)) ((yJ vs k v).map (·.2)):=by
 have go:∀{kvs:List (qV×D)} {vs:List (qV×V)},vs.map (·.1)=kvs.map (·.1)->qd K H (kvs.map (·.2)) (vs.map (·.2))->
   (vs.map (λkv=>if kv.1=k then(kv.1,v)else kv)).map (·.1)=(kvs.map (λkv=>if kv.1=k then(kv.1,d)else kv)).map (·.1)/\qd K H ((kvs.map (λkv=>if kv.1=k then(kv.1,d)else kv)).map (·.2)) ((vs.map (λkv=>if kv.1=k then(kv.1,v)else kv)).map (·.2)):=λ{kvs}=>by
  induction kvs with
  | nil=>intro vs e h;cases vs with
   | nil=>exact⟨rfl,.nil⟩
   | cons _ _=>cases e
  | cons c r ih=>intro vs e h;cases vs with
   | nil=>cases e
   | cons w ws=>
    obtain⟨e1,e2⟩:=gk e;obtain⟨x,xr,e3,g1,g2⟩:=h.inv;obtain⟨e4,e5⟩:=gk e3;subst e4 e5;obtain⟨i1,i2⟩:=ih e2 g2;have e1:w.1=c.1:=e1;by_cases hk:c.1=k
    .have w1:(if w.1=k then(w.1,v)else w)=(w.1,v):=cX (e1.trans hk);have w2:(if c.1=k then(c.1,d)else c)=(c.1,d):=cX hk;simp only[dP,w1,w2];exact⟨by rw[i1,e1],.cons hv i2⟩
    .have w1:(if w.1=k then(w.1,v)else w)=w:=cV λz=>hk (e1.symm.trans z);have w2:(if c.1=k then(c.1,d)else c)=c:=cV hk;simp only[dP,w1,w2];exact⟨by rw[i1,e1],.cons g1 i2⟩
 unfold yJ Bw;rw[GP (k:=k) h1];by_cases hk:(kvs.any λkv=>decide (kv.1=k))=true
 .rw[cX hk,cX hk];exact go h1 h2
 .rw[cV hk,cV hk];exact⟨by rw[dH,dH,h1];rfl,by rw[dH,dH];exact h2.append (.cons hv .nil)⟩
def Uq(td tk tv:T3):xk:=λD δ M=>tv δ M λv M1=>td δ M1 λx M2=>tk δ M2 λy M3=>match x,y with
 | .ref a,.str k=>(y9 M3 a).elim False λkvs=>kvs.length<sizeLine/\D.nx δ (pB M3 a (.dk (Bw kvs (.inr k) v)))
 | _,_=>False
def xT{M:Mp}{a:Addr}{kvs:List (qV×D)}(h:y9 M a=some kvs):M a=some (.dk kvs):=by
 unfold y9 at h;split at h
 .rename_i e;rw[e];cases h;rfl
 .cases h
def NO{WQ:Pos}(hu:X.A.units+9<cLine)(ho:E3 X o td)(hi:E3 X i tk)(hv:E3 X value tv)(hs:swapsWith value (some (.Subscript o i WQ)) pos.line X.env=pure false:=by rfl):S3 X (.Assign [.Subscript o i WQ] value pos) (Uq td tk tv):=
 PS.mono (Ov (by omega) ho hi hv hs) λD' σ H zz=>KR zz λδ M D hs hm ht k1 k2 k3 k4=>
 ⟨δ,M,_,hs,hm,ht,λv H1 d M1 hd WK e1 q1=>⟨δ,M1,_,hs.mono e1,WK,q1,λvx H2 x M2 hx W1 e2 q2=>⟨δ,M2,_,hs.mono (e1.trans e2),W1,q2,λvy H3 y M3 hy XG e3 q3=>by
  split at q3
  .rename_i a0 k0;obtain⟨kvs,f1,f2,q3⟩:=qX q3;cases(hx.mono e3).mG;cases hy.str_inv;obtain⟨vs,h1,h2,h3⟩:=zt XG f1;have hl:vs.length=kvs.length:=by have:=eG List.length h2;simpa using this
   refine⟨_,_,rfl,L5.k (k:=Sum.inr k0) h1 (by omega),?_⟩;have hd3:=hd.mono (e2.trans e3);obtain⟨hm4,e4⟩:=XG.put (o:=.dK (yJ vs (Sum.inr k0) v)) (c:=.dk (Bw kvs (.inr k0) d)) (xT f1) λex=>by obtain⟨g1,g2⟩:=JY (k:=Sum.inr k0) (hd3.mono ex) h2 (h3.mono ex);exact⟨_,qg,g1,g2⟩
   exact k1 σ _ δ _ (hs.mono (e1.trans (e2.trans (e3.trans e4)))) hm4 (e1.trans (e2.trans (e3.trans e4))) rfl q3
  .exact q3.elim⟩⟩⟩
variable {WI:List (Addr × Obj)}{σ:St}{H:Hp}{s:Sd}{tp:Pos}{Xj:List Expr}{n:Nat}
end L3
namespace L2
open PySem PySem.Spec PyProof.Rows Builtin Builtin.Str
variable {prog:Pg}{w:Wo}{A:Ar}{E:Vl→Sd→Prop}{s:Sd}{X:Cx}
end L2
namespace L3
open PySem PySem.Spec PyProof.Rows L2 Builtin Builtin.Str
variable {X:Cx}{pos WL:Pos}{o e:Expr}{es:List Expr}{ta:T3}{t:xl}
@[irreducible] def SsI (X:Cx) (st:List Stmt) (t:xk):Prop:=Hd X st t
@[irreducible] def SI (X:Cx) (st:Stmt) (t:xk):Prop:=S3 X st t
@[irreducible] def EI (X:Cx) (e:Expr) (t:T3):Prop:=E3 X e t
@[irreducible] def AI (X:Cx) (es:List Expr) (t:xl):Prop:=A3 X es t
variable {prog:Pg}{w:Wo}{A:Ar}{E:Vl→Sd→Prop}{s:Sd}{WI:List (Addr × Obj)}{σ:St}{H:Hp}{p tp:Pos}{Xj:List Expr}{n:Nat}
theorem yb{g:DI}{tt:Ap}{te:T3}{ok:Mp->Prop}{Q:DK}(all:List D)(J:List D->List D->va->Mp->Prop)(mP:∀p acc δ M,J p acc δ M->ok M):∀(ds pre acc:List D) (δ:va) (M:Mp),pre++ds=all->acc.length+ds.length<=sizeLine->J pre acc δ M->
  (∀pre d post,pre++d::post=all->∀acc δ M,J pre acc δ M->∀(k:va->DK) (k2:va->Mp->Prop),(∀δ2 y M4,J (pre++[d]) (acc++[y]) δ2 M4->k δ2 y M4)->(∀δ2 M3,J (pre++[d]) acc δ2 M3->k2 δ2 M3)->g d δ M λδ2 M2=>tt δ2 M2 λb M3=>if b=true then te δ2 M3 (k δ2)else k2 δ2 M3)->
  (∀acc δ M,J all acc δ M->∀p,M p=none->Q (.ref p) (pB M p (.lst acc)))->uP g tt te ok Q ds acc δ M
 | [],pre,acc,δ,M,e,hl,j,_,hq=>⟨by simpa using hl,hq acc δ M (by rw[<-e,eU];exact j)⟩
 | d::r,pre,acc,δ,M,e,hl,j,ht,hq=>by rw[dZ]at hl;refine⟨by omega,?_⟩;refine ht pre d r e acc δ M j (λδ2 y M4=>ok M4/\uP g tt te ok Q r (acc++[y]) δ2 M4) (λδ2 M3=>ok M3/\uP g tt te ok Q r acc δ2 M3) (λδ2 y M4 j'=>⟨mP _ _ _ _ j',yb all J mP r (pre++[d]) (acc++[y]) δ2 M4 (by rw[<-e,fh];rfl) ?_ j' ht hq⟩) λδ2 M3 j'=>⟨mP _ _ _ _ j',yb all J mP r (pre++[d]) acc δ2 M3 (by rw[<-e,fh];rfl) (by omega) j' ht hq⟩;rw[cT,dG];omega
end L3
namespace L2
open PySem PySem.Spec PyProof.Rows
def Cx.nS(X:Cx)(E:Vl->Sd->Prop):Cx:={X with xe:=E}
def Inv.nS{X:Cx}{E:Vl->Sd->Prop}{WI:List (Addr×Obj)}{σ:St}{H:Hp}{s:Sd}(I:Inv X WI σ H s):Inv (X.nS E) WI σ H s:=
 ⟨⟨I.ok.mod,I.ok.kind,I.ok.glob,I.ok.blt,I.ok.above,I.ok.inj,I.ok.has,I.ok.om,I.ok.hd,I.ok.frames,I.ok.oF,I.ok.oU,I.ok.bs,I.ok.nY,I.ok.nP,I.ok.nR,I.ok.nk,I.ok.oh⟩,I.os,I.bare,I.base,I.loc,I.cell,I.free,I.mW,I.pin,I.mP,I.len⟩
def Inv.xeOf{X:Cx}{E:Vl->Sd->Prop}{WI:List (Addr×Obj)}{σ:St}{H:Hp}{s:Sd}(I:Inv (X.nS E) WI σ H s):Inv X WI σ H s:=
 ⟨⟨I.ok.mod,I.ok.kind,I.ok.glob,I.ok.blt,I.ok.above,I.ok.inj,I.ok.has,I.ok.om,I.ok.hd,I.ok.frames,I.ok.oF,I.ok.oU,I.ok.bs,I.ok.nY,I.ok.nP,I.ok.nR,I.ok.nk,I.ok.oh⟩,I.os,I.bare,I.base,I.loc,I.cell,I.free,I.mW,I.pin,I.mP,I.len⟩
end L2
namespace L3
open PySem PySem.Spec PyProof.Rows L2
end L3
namespace L2
open PySem PySem.Spec PyProof.Rows
end L2
namespace L3
open PySem PySem.Spec PyProof.Rows L2
variable {X:Cx}{pos p tp kpos:Pos}{Xj:List Expr}{n:Nat}
end L3
namespace L2
open PySem PySem.Spec PyProof.Rows
variable {prog:Pg}{w:Wo}{A:Ar}{E:Vl→Sd→Prop}{s:Sd}{a:Addr}{δ:Type}{k:Str}{tk:Tok}
section
variable {R:δ→Vl→Prop}{D:List (Str × δ)}
end
end L2
namespace L3
open PySem PySem.Spec PyProof.Rows L2
variable {X:Cx}{pos p:Pos}{x:Str}{d:D}{e o i:Expr}{ta tb td tk:T3}{F:List (Str × List Str)}
end L3
namespace L2
open PySem PySem.Spec PyProof.Rows
def LO(h:Heap)(e:Addr)(cls:Vl)(dx tb:Option Addr)(F:Vl):Prop:=
 ∃oe vs,h.get? e=some oe/\oe.cls=cls/\oe.dict=dx/\oe.data=.fields vs/\1<vs.size/\vs[1]?=some (tb.elim Value.none Value.ref)/\∀T,tb=some T->T≠e/\∃oT ts,h.get? T=some oT/\oT.data=.fields ts/\3<ts.size/\ts[3]?=some F
def Pd(h:Heap)(e:Addr)(cls:Vl)(dx tb:Option Addr):Prop:=LO h e cls dx tb Value.none
theorem BE{h base:Heap}:∀{l:List Env} {b:Addr},h.FunFrames base l->b∈vU l->∃o,h.get? b=some o/\∀vs,o.data≠.fields vs
 | [],b,_,hb=>by cases hb
 | env::r,b,hF,hb=>by
  obtain⟨_,⟨L,o,hL,_,ho,hd⟩,hr⟩:=hF;have e:vU (env::r)=L::vU r:=by unfold vU;rw[fT,hL]
  rw[e]at hb;rcases cY.mp hb with z|z
  .rw[z];exact⟨o,ho,hd⟩
  .exact BE hr z
def DE{h base:Heap}{l:List Env}{b:Addr}{o:Obj}{vs:Array Vl}(hF:h.FunFrames base l)(ho:h.get? b=some o)(hd:o.data=.fields vs):b∉vU l:=λhb=>by obtain⟨o',Xn,hn⟩:=BE hF hb;rw[ho]at Xn;cases Xn;exact hn vs hd
variable {M:Model}{A:Ar}{s:Sd}{base:Heap}{env:Env}{outer:List Env}{L e:Addr}{cls:Vl}{dx:Option Addr}{Q:Unit→Sd→Prop}
section
variable {E:Vl→Sd→Prop}
def O4{X5:Vl}{Y1:Bool}{oe:Obj}{vs:Array Vl}{Xo:Env}(hcf:Xo.frame=some L)(YL:A.frames=some (env::outer))(hF:s.heap.FunFrames base (env::outer))(hL:env.frame=some L)(ho:s.heap.get? e=some oe)(hd:oe.data=.fields vs)(h1:1<vs.size) (k:∀(h':Heap) (T:Addr),s.heap.get? T=none->(∀b o,s.heap.get? b=some o->b∉vU (env::outer)->b≠e->h'.get? b=some o)->(∀b o,s.heap.get? b=some o->b∈vU (env::outer)->∃sl,h'.get? b=some {o with slots:=sl})->
   (∃oe',h'.get? e=some oe'/\oe'.cls=oe.cls/\oe'.dict=oe.dict/\oe'.data=.fields (vs.setIfInBounds 1 (.ref T)))->(∃oT ts,h'.get? T=some oT/\oT.data=.fields ts/\3<ts.size/\ts[3]?=some (rawInt ↑L))->Q () {s with heap:=h'}):
  wpAny M A (do
   let a<-PySem.frameOf Xo;let pl<-entryPlaceOf L Y1;let b<-EntryCells.newEntry X5 a Value.none (rawInt ↑L) Value.none pl
   setField (Value.ref e) 1 b) Q E s:=by
 have ne:=DE hF ho hd;unfold PySem.frameOf;refine cR (cR (wpAny_frameEnvs YL (cR ?_)));have ed:List.dropWhile (λx=>x.frame != Xo.frame) (env::outer)=env::outer:=by rw[List.dropWhile_cons,cV (by rw[hL,hcf];simp)]
 rw[ed];unfold frameObject;refine cR (wpAny_readyFrames_fun hF λXp hs=>?_);obtain⟨z1,z2,z3⟩:=hs;rw[hL];refine de (de ?_);refine cR (wpAny_entryPlaceOf λpl hp=>?_);refine cR ?_;unfold EntryCells.newEntry newFields;have WO:([X5,Value.ref L,Value.none,rawInt ↑L,Value.none]++if pl.isEmpty=true then List.replicate 6 Value.none else pl).length=11:=by rw[cT];rcases hp with rfl|⟨_,_,_,_,_,_,_,rfl⟩<;>rfl
 have hfl:([X5,Value.ref L,Value.none,rawInt ↑L,Value.none]++if pl.isEmpty=true then List.replicate 6 Value.none else pl)[3]?=some (rawInt ↑L):=rfl;generalize ([X5,Value.ref L,Value.none,rawInt ↑L,Value.none]++if pl.isEmpty=true then List.replicate 6 Value.none else pl)=fs at WO hfl ⊢;refine fQ ?_ (by
  show fs.toArray.size<=_;rw[dg,WO];decide)
 have e1:Xp.get? e=some oe:=by rw[z2 e ne];exact ho
 have e2:(Xp.push {cls:=.type "traceback",data:=.fields fs.toArray}).get? e=some oe:=cW _ e1;refine g9 e2 hd h1 ?_;have tn:s.heap.get? Xp.objs.size=none:=hJ (by rw[z1];exact cZ _);have te:Xp.objs.size≠e:=λz=>by rw[z,ho]at tn;cases tn
 obtain⟨oc,od,ZT,XF⟩:=oe;obtain rfl:ZT=.fields vs:=hd;have up:∀b,e≠b->((Xp.push {cls:=.type "traceback",data:=.fields fs.toArray}).update e (Obj.mapFields λx=>x.setIfInBounds 1 (.ref Xp.objs.size))).get? b=(Xp.push {cls:=.type "traceback",data:=.fields fs.toArray}).get? b:=λb z=>fW _ _ z;refine k _ Xp.objs.size tn (λb o hb nf ne'=>?_) (λb o hb hf=>?_) ⟨_,fD _ e2 rfl,rfl,rfl,rfl⟩ ⟨_,fs.toArray,(up _ (dI te)).trans (dA _ rfl),rfl,by rw[dg,WO];decide,by rw[iJ];exact hfl⟩
 .rw[up b (dI ne')];exact cW _ (by rw[z2 b nf];exact hb)
 .obtain⟨sl,q⟩:=z3 b o hb;refine⟨sl,?_⟩;rw[up b (λz=>ne (z ▸ hf))];exact cW _ q
def QQ{E₁:Vl->Sd->Prop}{tb:Option Addr}{F:Vl}{Xo:Env}(hcf:Xo.frame=some L)(YL:A.frames=some (env::outer))(hF:s.heap.FunFrames base (env::outer))(hL:env.frame=some L)(hx:LO s.heap e cls dx tb F)(hFL:(F==rawInt ↑L)=false) (k:∀(h':Heap) (T:Addr),s.heap.get? T=none->(∀b o,s.heap.get? b=some o->b∉vU (env::outer)->b≠e->tb≠some b->h'.get? b=some o)->(∀b o,s.heap.get? b=some o->b∈vU (env::outer)->∃sl,h'.get? b=some {o with slots:=sl})->
   (∀b,h'.get? b=none->s.heap.get? b=none)->LO h' e cls dx (some T) (rawInt ↑L)->Q () {s with heap:=h'}):wpAny M A (noteFrame (.ref e) Xo) Q E₁ s:=by
 obtain⟨oe,vs,ho,hc,Zk,hd,h1,hv,hT⟩:=hx;have ne:=DE hF ho hd;unfold noteFrame;rw[hcf];refine cR (eZ ho hd hv ?_);have WN:∀(s1:Sd) (oe1:Obj),s1.gens=s.gens->s1.drawn=s.drawn->s1.toks=s.toks->s1.os=s.os->s1.heap.FunFrames base (env::outer)->s1.heap.get? e=some oe1->oe1.cls=cls->oe1.dict=dx->oe1.data=.fields vs->(∀b o,s.heap.get? b=some o->b∉vU (env::outer)->b≠e->tb≠some b->s1.heap.get? b=some o)->
   (∀b o,s.heap.get? b=some o->b∈vU (env::outer)->s1.heap.get? b=some o)->(∀b,s1.heap.get? b=none↔s.heap.get? b=none)->∀(X5:Vl) (Y1:Bool),wpAny M A (do
   let a<-PySem.frameOf Xo;let pl<-entryPlaceOf L Y1;let b<-EntryCells.newEntry X5 a Value.none (rawInt ↑L) Value.none pl
   setField (Value.ref e) 1 b) Q E₁ s1:=by
  intro s1 oe1 g1 g2 g3 g4 hF1 ZF hc1 hdx1 hd1 kb kf kn X5 Y1;refine O4 hcf YL hF1 hL ZF hd1 h1 λh' T tn k1 k2 ⟨oe',he',ZS,hdxe,hde⟩ ⟨oT,ts,XY,Yj,h3,h3v⟩=>?_;have te:T≠e:=λz=>by rw[z,ZF]at tn;cases tn
  have:=k h' T ((kn T).mp tn) (λb o hb nf nb nt=>k1 b o (kb b o hb nf nb nt) nf nb) (λb o hb hf=>k2 b o (kf b o hb hf) hf) (λb hb=>?_) ⟨oe',vs.setIfInBounds 1 (.ref T),he',ZS.trans hc1,hdxe.trans hdx1,hde,by rw[jF];exact h1,by rw[ie h1];rfl,λT' eT=>?_⟩
  .show Q () {heap:=_,gens:=s1.gens,drawn:=s1.drawn,toks:=s1.toks,os:=s1.os};rw[g1,g2,g3,g4];exact this
  .refine(kn b).mp ?_;cases q:s1.heap.get? b with
   | none=>rfl
   | some o=>
    by_cases z:b=e
    .rw[z,he']at hb;cases hb
    .by_cases zf:b∈vU (env::outer)
     .obtain⟨sl,q2⟩:=k2 b o q zf;rw[q2]at hb;cases hb
     .rw[k1 b o q zf z]at hb;cases hb
  .cases eT;exact⟨te,oT,ts,XY,Yj,h3,h3v⟩
 cases tb with
 | none=>rw[cV (show ¬((none:Option Addr).elim Value.none Value.ref != Value.none)=true by decide+kernel)];exact WN s oe rfl rfl rfl rfl hF ho hc Zk hd (λb o hb _ _ _=>hb) (λb o hb _=>hb) (λb=>.rfl) _ _
 | some T=>
  obtain⟨nTe,oT,ts,XY,Yj,h3,hn⟩:=hT T rfl;rw[cX (show((some T:Option Addr).elim Value.none Value.ref != Value.none)=true by rfl)];refine cR (eZ XY Yj hn ?_);rw[cV (by rw[hFL];exact dn)];refine cR (g9 XY Yj h3 ?_);have up:∀b,T≠b->(s.heap.update T (Obj.mapFields λx=>x.setIfInBounds 3 .none)).get? b=s.heap.get? b:=λb z=>fW _ _ z;have nf:∀b o,s.heap.get? b=some o->(∀vs,o.data≠.fields vs)->T≠b:=λb o hb hn z=>by rw[<-z,XY]at hb;cases hb;exact hn ts Yj
  have sz:∀b,(s.heap.update T (Obj.mapFields λx=>x.setIfInBounds 3 .none)).get? b=none↔s.heap.get? b=none:=λb=>by
   by_cases z:T=b
   .rw[<-z];obtain⟨oc,od,ZT,XF⟩:=oT;obtain rfl:ZT=.fields ts:=Yj;rw[fD _ XY rfl,XY];exact⟨(λq=>by cases q),(λq=>by cases q)⟩
   .rw[up b z]
  exact WN {s with heap:=s.heap.update T (Obj.mapFields λx=>x.setIfInBounds 3 .none)} oe rfl rfl rfl rfl (mz (λb o hb hn=>⟨o,(up b (nf b o hb hn)).trans hb,rfl⟩) hF) ((up e nTe).trans ho) hc Zk hd
   (λb o hb _ _ nt=>(up b λz=>nt (by rw[z])).trans hb) (λb o hb hf=>by
    obtain⟨o',Xn,hn⟩:=BE hF hf;rw[hb]at Xn;cases Xn;exact(up b (nf b o hb hn)).trans hb) sz _ _
def L'{T:Addr}{F:Vl}(x:Option Addr)(hx:LO s.heap e cls dx (some T) F)(k:∀h':Heap,(∀b,T≠b->h'.get? b=s.heap.get? b)->(∀b,h'.get? b=none↔s.heap.get? b=none)->LO h' e cls dx (some T) (x.elim .none λf=>rawInt f)->Q () {s with heap:=h'}):wpAny M A (setFlight (.ref e) x) Q E s:=by
 obtain⟨oe,vs,ho,hc,Zk,hd,h1,hv,hT⟩:=hx;obtain⟨nTe,oT,ts,XY,Yj,h3,hn⟩:=hT T rfl;unfold setFlight;refine cR (eZ ho hd hv ?_);rw[cX (by rfl)];refine g9 XY Yj h3 ?_;obtain⟨oc,od,ZT,XF⟩:=oT;obtain rfl:ZT=.fields ts:=Yj;have up:∀b,T≠b->(s.heap.update T (Obj.mapFields λy=>y.setIfInBounds 3 (x.elim .none λf=>rawInt f))).get? b=s.heap.get? b:=λb z=>fW _ _ z;refine k _ up (λb=>?_) ⟨oe,vs,(up e nTe).trans ho,hc,Zk,hd,h1,hv,λT' eT=>?_⟩
 .by_cases z:T=b
  .rw[<-z,fD _ XY rfl,XY];exact⟨(λq=>by cases q),(λq=>by cases q)⟩
  .rw[up b z]
 .cases eT;exact⟨nTe,_,ts.setIfInBounds 3 (x.elim .none λf=>rawInt f),fD _ XY rfl,rfl,by rw[jF];exact h3,by rw[ie h3]⟩
def Jz{E₁ E₂:Vl->Sd->Prop}{tb:Option Addr}(YL:A.frames=some (env::outer))(hF:s.heap.FunFrames base (env::outer))(hL:env.frame=some L)(hx:Pd s.heap e cls dx tb) (k:∀(h':Heap) (T:Addr),s.heap.get? T=none->(∀b o,s.heap.get? b=some o->b∉vU (env::outer)->b≠e->tb≠some b->h'.get? b=some o)->(∀b o,s.heap.get? b=some o->b∈vU (env::outer)->∃sl,h'.get? b=some {o with slots:=sl})->
   Pd h' e cls dx (some T)->Q () {s with heap:=h'}):wpAny M A (noteFrame (.ref e) env) (λ_ s₂=>wpAny M A (setFlight (.ref e) none) Q E₂ s₂) E₁ s:=by
 refine QQ hL YL hF hL hx (dD.mpr λz=>by have:=eY.mp z;cases this) λh' T tn k1 k2 _ x'=>?_;refine L' none x' λh2 up _ x2=>k h2 T tn (λb o hb nf nb nt=>?_) (λb o hb hf=>?_) x2
 .have tb:T≠b:=λz=>by rw[z,hb]at tn;cases tn
  exact(up b tb).trans (k1 b o hb nf nb nt)
 .have tb:T≠b:=λz=>by rw[z,hb]at tn;cases tn
  obtain⟨sl,q⟩:=k2 b o hb hf;exact⟨sl,(up b tb).trans q⟩
def Oi{tb:Option Addr}(YL:A.frames=some (env::outer))(hF:s.heap.FunFrames base (env::outer))(hL:env.frame=some L)(hx:Pd s.heap e cls dx tb) (k:∀(h':Heap) (T:Addr),s.heap.get? T=none->(∀b o,s.heap.get? b=some o->b∉vU (env::outer)->b≠e->tb≠some b->h'.get? b=some o)->(∀b o,s.heap.get? b=some o->b∈vU (env::outer)->∃sl,h'.get? b=some {o with slots:=sl})->
   Pd h' e cls dx (some T)->Q () {s with heap:=h'}):wpAny M A (leaving env (.ref e)) Q E s:=cR (Jz YL hF hL hx k)
end
def BI(P:Pg)(w:Wo):KU:=λouter H s E ev s'=>F8 λe C dx H' tb=>ev=.ref e/\E (.ref C) dx H'/\s'.os=s.os/\AllBare s'.gens/\Un (vU outer) [] H H' s.heap s'.heap/\yh P w H' s'.heap/\
 Pd s'.heap e (.ref C) dx (some tb)/\s.heap.get? e=none/\s.heap.get? tb=none/\H' e=none/\H' tb=none
def xW{P:Pg}{w:Wo}{H:Hp}{h:Heap}{a:Addr}{o:HO}(x:sR P w H h a o):∃ob,h.get? a=some ob:=by
 cases o with
 | lst xs=>obtain⟨_,_,_,_,e⟩:=x;exact⟨_,e⟩
 | tup xs=>obtain⟨_,_,_,o,e,_⟩:=x;exact⟨_,e⟩
 | dK kvs=>obtain⟨_,_,_,_,o,_,_,e,_⟩:=x;exact⟨_,e⟩
 | dT kvs=>obtain⟨_,_,_,_,o,_,_,e,_⟩:=x;exact⟨_,e⟩
 | set S n=>obtain⟨o,_,_,_,e,_⟩:=x;exact⟨_,e⟩
 | ins C dx fs=>obtain⟨_,_,_,e,_⟩:=x;exact⟨_,e⟩
 | own y=>exact x
 | xd fs=>obtain⟨_,⟨_,_,_,e,_⟩,_⟩:=x;exact⟨_,e⟩
 | rng lo hi=>obtain⟨_,_,_,e⟩:=x;exact⟨_,e⟩
 | frz ob u=>obtain⟨e,_⟩:=x;exact⟨_,e⟩
 | tbl ps=>exact⟨_,x⟩
 | met f y=>exact⟨_,x⟩
 | ext φ=>obtain⟨_,e,_⟩:=x;exact e
def GR{P:Pg}{w:Wo}{H:Hp}{h:Heap}{T:Addr}(mP:yh P w H h)(tn:h.get? T=none):H T=none:=by
 cases z:H T with
 | none=>rfl
 | some o=>obtain⟨ob,hob⟩:=xW (mP T o z);rw[hob]at tn;cases tn
variable {P:Pg}{w:Wo}{K:qr}{mg:Str→Option Vl}{N:List Str}{qual:Str}{scope:Scope}{f:Addr}{cd:Vl}{s0:Sd}{H0:Hp}
section
variable {E:XK}
def F5{fs ex:List Addr}{H H':Hp}{h h':Heap}(u:Un fs ex H H' h h')(hex:ex=[]){b:Addr}(hb:h'.get? b=none):h.get? b=none:=by
 cases q:h.get? b with
 | none=>rfl
 | some o=>obtain⟨o',e⟩:=u.there b o q (by rw[hex];simp);rw[e]at hb;cases hb
def Nl{WI:List (Addr×Obj)}{σ:St}{H:Hp}{s:Sd}{e C T:Addr}{tb dx:Option Addr}{h':Heap}(I:Inv (vb (BI P w) P w K mg base N qual scope f cd A outer s0 H0 E) WI σ H s)(he:s0.heap.get? e=none)(old:∀T,tb=some T->s0.heap.get? T=none/\H T=none)(hn:H e=none)(q:E (.ref C) dx H)(hT:s0.heap.get? T=none/\H T=none) (k1:∀b o,s.heap.get? b=some o->b∉vU (envOfC qual scope s0.heap.objs.size f cd::outer)->b≠e->tb≠some b->h'.get? b=some o) (k2:∀b o,s.heap.get? b=some o->b∈vU (envOfC qual scope s0.heap.objs.size f cd::outer)->∃sl,h'.get? b=some {o with slots:=sl}) (x':Pd h' e (.ref C) dx (some T)):
  BI P w outer H0 s0 E (.ref e) {s with heap:=h'}:=by
 have Xt:=I.nB;have WX:∀b o,H b=some o->∀u,s.heap.get? b=some u->h'.get? b=some u:=λb o hb u hu=>k1 b u hu (λz=>by rw[Xt b z]at hb;cases hb) (λz=>by rw[z,hn]at hb;cases hb) (λz=>by rw[(old b z).2]at hb;cases hb);have oldf:∀b o,s0.heap.get? b=some o->b∉vU [envOfC qual scope s0.heap.objs.size f cd]:=λb o hb z=>by
  have:b=s0.heap.objs.size:=by have hz:b∈[s0.heap.objs.size]:=z;exact df.mp hz
  rw[this]at hb;exact absurd (dh hb) (eX _)
 have fr:∀b,b∈vU (envOfC qual scope s0.heap.objs.size f cd::outer)->b∈vU [envOfC qual scope s0.heap.objs.size f cd]\/b∈vU outer:=λb hb=>by
  have hb:b∈s0.heap.objs.size::vU outer:=hb;rcases cY.mp hb with z|z
  .exact .inl (by rw[z];exact dC)
  .exact .inr z
 have Xa:Un (vU outer) [] H0 H s0.heap s.heap:=I.base;refine⟨e,C,dx,H,T,rfl,q,I.os,I.bare,⟨λb o hb h0 nf ne=>?_,λb o hb h0 hf ne=>?_,Xa.free,λb o hb ne=>?_,Xa.nI,Xa.nC,Xa.nK⟩,λb o hb=>?_,x',he,hT.1,hn,hT.2⟩
 .have hs:=Xa.keep b o hb h0 nf ne;refine k1 b o hs (λz=>?_) (λz=>by rw[z,he]at hb;cases hb) λz=>by rw[(old b z).1]at hb;cases hb
  rcases fr b z with z|z
  .exact oldf b o hb z
  .exact nf z
 .obtain⟨sl,hs⟩:=Xa.slot b o hb h0 hf ne;have:b∈vU (envOfC qual scope s0.heap.objs.size f cd::outer):=dv _ hf;obtain⟨Yk,h2⟩:=k2 b _ hs this;exact⟨Yk,h2⟩
 .obtain⟨o',hs⟩:=Xa.there b o hb ne;by_cases z:b∈vU (envOfC qual scope s0.heap.objs.size f cd::outer)
  .obtain⟨sl,h2⟩:=k2 b o' hs z;exact⟨_,h2⟩
  .exact⟨o',k1 b o' hs z (λz=>by rw[z,he]at hb;cases hb) λz=>by rw[(old b z).1]at hb;cases hb⟩
 .refine(I.mP b o hb).nj (λb' u XC hu=>?_) (λ_ q=>q) λ_ _ q=>q;rcases XC with z|z
  .subst z;exact WX b' o hb u hu
  .exact WX b' _ z u hu
def S'{WI:List (Addr×Obj)}{σ:St}{H:Hp}{s:Sd}{e C:Addr}{tb dx:Option Addr}(I:Inv (vb (BI P w) P w K mg base N qual scope f cd A outer s0 H0 E) WI σ H s)(hx:Pd s.heap e (.ref C) dx tb)(he:s0.heap.get? e=none)(hT:∀T,tb=some T->s0.heap.get? T=none/\H T=none)(hn:H e=none)(q:E (.ref C) dx H):
  (vb (BI P w) P w K mg base N qual scope f cd A outer s0 H0 E).xe (.ref e) s:=
 Oi (base:=base) (outer:=outer) I.ok.frames I.stack rfl hx λh' T tn k1 k2 x'=>Nl I he hT hn q ⟨F5 (show Un (vU outer) [] H0 H s0.heap s.heap from I.base) rfl tn,GR I.mP tn⟩ k1 k2 x'
end
section
variable {E:XK}
end
end L2
namespace L3
open PySem PySem.Spec PyProof.Rows L2
abbrev Gp:=List D->Mp->DK->(Addr->Mp->Prop)->Prop
def Tc(K:qr)(C:Addr)(dx:Option Addr):Prop:=∀d,dx=some d->∃f,W.findIn K (.ref C) "__init__"=some (some (.ref f))
def Tq(K:qr)(R:Addr->Mp->Prop)(E:XK):Prop:=∀C dx H M,HM K H M->Tc K C dx->R C M->E (.ref C) dx H
def VF(K:qr)(sp:Gp):Sp:=λvs H Q' E=>CF λds M Q R=>qd K H ds vs/\HM K H M/\sp ds M Q R/\Up K H Q' Q/\Tq K R E
abbrev Q8(P:Pg)(w:Wo)(K:qr)(mg:Str->Option Vl)(base:Heap)(k:Nat)(f:Addr)(fd:FuncData)(ps:List Str)(sp:Gp):Prop:=xh P w K mg base (BI P w) k f fd ps (VF K sp)
variable {X:Cx}{x:Str}{p pos np WP:Pos}{e:Expr}{es:List Expr}{t:xl}{k:Nat}{f C:Addr}{fd:FuncData}{ps:List Str}{sp:Gp}{R:Addr→Mp→Prop}{E:XK}{P:Pg}{w:Wo}{K:qr}{mg:Str→Option Vl}{base:Heap}{N:List Str}{qual:Str}{scope:Scope}{cd:Vl}{A:Ar}{outer:List Env}{s0:Sd}{H0:Hp}{ta:xl}
def T1{x qual:Str}{st:Stmt}{f:Addr}{fd:FuncData}{N ps:List Str}{k:Nat}{sp:Gp}(F:Pe K x qual st f fd)(S:sV N ps (qa st))(len:∀ds M Q R,sp ds M Q R->ds.length=ps.length) (W5:∀(WR:Vl) (A:Ar) (outer:List Env) (s:Sd) (H:Hp) (E:XK) (R:Addr->Mp->Prop),rS k (A.deeper (envOfC qual (qa st) s.heap.objs.size f WR))->Tq K R E->
   ∃t,Hd (vb (BI P w) P w K mg base N qual (qa st) f WR A outer s H E) (rM st) t/\∀ds M Q,sp ds M Q R->t {nx:=λ_ M'=>∃WM,qm WM M'/\Q .mI WM,rt:=λd M'=>∃WM,qm WM M'/\Q d WM} (wA N ds) M):Q8 P w K mg base (k+1) f fd ps sp:=by
 obtain⟨oc,od,kV,Xm,pm,an,WR,ct,XF,rfl,lk,XZ⟩:=F.ex;refine K8 lk XZ S (λvs H Q E h=>?_) λA outer s H vs Q' E hr h=>?_
 .obtain⟨ds,M,Q,R,hd,_,hs,_⟩:=h;rw[<-hd.length];exact len ds M Q R hs
 .obtain⟨ds,M,Q,R,hd,hm,hs,k,hR⟩:=h;obtain⟨t,ht,hb⟩:=W5 WR A outer s H E R hr hR;exact⟨_,ht,wA N ds,M,_,DL hd,hm,hb ds M Q hs,λσ' H' δ' M' _ x2 x3 _ ⟨WM,y1,y2⟩=>k .mI H' .mI WM .mI (x2.sub y1) x3 y2,λv H' d M' x1 x2 x3 ⟨WM,y1,y2⟩=>k v H' d WM x1 (x2.sub y1) x3 y2,λ_ _ _ _ _ _ _ _ z=>z,λ_ _ _ _ _ _ _ _ z=>z⟩
end L3
namespace L2
open PySem PySem.Spec PyProof.Rows
def TKept(H H':Hp):Prop:=(∀b xs,H b=some (.tup xs)->H' b=some (.tup xs))/\∀b o u,H b=some (.frz o u)->H' b=some (.frz o u)
def VW(X:Cx)(WI:List (Addr×Obj))(σ:St)(J:Hp->Prop)(E:XK)(ev:Vl)(s':Sd):Prop:=Bq λH s=>J H/\Inv X WI σ H s/\BI X.prog X.w X.stack H s E ev s'
def Ut(X:Cx)(WI:List (Addr×Obj))(σ:St)(J:Hp->Prop)(E:XK)(ev:Vl)(s':Sd):Prop:=SS λa C dx H' tb H1 s1=>ev=.ref a/\E (.ref C) dx H'/\Inv X WI σ H' s'/\Pd s'.heap a (.ref C) dx (some tb)/\H' a=none/\H' tb=none/\J H1/\TKept H1 H'/\Inv X WI σ H1 s1/\s1.heap.get? a=none
def Q1{X:Cx}{M:Model}{E₁ E₂:Vl->Sd->Prop}{WI:List (Addr×Obj)}{σ:St}{J:Hp->Prop}{E:XK}{ev:Vl}{s':Sd}{outer:List Env}{L:Addr}(h:VW X WI σ J E ev s')(W7:X.stack=X.env::outer)(hL:X.env.frame=some L):
  wpAny M X.A (noteFrame ev X.env) (λ_ s₂=>wpAny M X.A (setFlight ev none) (λ_ s₃=>Ut X WI σ J E ev s₃) E₂ s₂) E₁ s':=by
 obtain⟨H,s,jH,I,e,C,dx,H',tb,rfl,q,os,bare,un,mP,x,he,ht,ne,nt⟩:=h;obtain⟨hh,g,d,t,Zy⟩:=s';obtain rfl:Zy=s.os:=os;have I':=I.call (h':=hh) (g':=g) (d':=d) (t':=t) (ch:=[]) un mP bare (λb z=>absurd z (by simp));have hF:=I'.stack;have Xt:=I'.nB;have YL:=I.ok.frames;rw[W7]at hF YL;refine Jz (base:=X.base) (outer:=outer) YL hF hL x λh' T tn k1 k2 x'=>?_;have WX:∀b o,H' b=some o->∀u,hh.get? b=some u->h'.get? b=some u:=λb o hb u hu=>k1 b u hu (λz=>by rw[Xt b (by rw[W7];exact z)]at hb;cases hb) (λz=>by rw[z,ne]at hb;cases hb) (λz=>by cases z;rw[nt]at hb;cases hb);have un':Un (vU X.stack) [] H H' s.heap h':=by
  refine⟨λb o hb h0 nf nx=>?_,λb o hb h0 hf nx=>?_,un.free,λb o hb nx=>?_,un.nI,un.nC,un.nK⟩
  .exact k1 b o (un.keep b o hb h0 nf nx) (λz=>nf (by rw[W7];exact z)) (λz=>by rw[z,he]at hb;cases hb) λz=>by cases z;rw[ht]at hb;cases hb
  .obtain⟨sl,hs⟩:=un.slot b o hb h0 hf nx;obtain⟨Yk,h2⟩:=k2 b _ hs (by rw[<-W7];exact hf);exact⟨Yk,h2⟩
  .obtain⟨o',hs⟩:=un.there b o hb nx;by_cases z:b∈vU (X.env::outer)
   .obtain⟨sl,h2⟩:=k2 b o' hs z;exact⟨_,h2⟩
   .exact⟨o',k1 b o' hs z (λz=>by rw[z,he]at hb;cases hb) λz=>by cases z;rw[ht]at hb;cases hb⟩
 have ZE:yh X.prog X.w H' h':=λb o hb=>(mP b o hb).nj (λb' u XC hu=>by
  rcases XC with z|z
  .subst z;exact WX b' o hb u hu
  .exact WX b' _ z u hu) (λ_ q=>q) λ_ _ q=>q
 have I3:Inv X WI σ H' {heap:=h',gens:=g,drawn:=d,toks:=t,os:=s.os}:=Inv.call (s:=s) (ch:=[]) I un' ZE bare (λb z=>absurd z (by simp));refine⟨e,C,dx,H',T,H,s,rfl,q,I3,x',ne,?_,jH,⟨un.nI,un.nC⟩,I,he⟩;cases z:H' T with
 | none=>rfl
 | some o=>obtain⟨ob,hob⟩:=xW (mP T o z);have tn:hh.get? T=none:=tn;rw[hob]at tn;cases tn
variable {X:Cx}{WI:List (Addr × Obj)}{σ σ':St}{H H1:Hp}{s s1:Sd}{ev:Vl}{E':Vl→Sd→Prop}{a:Addr}
def Inv.adopt{o:HO}(I:Inv X WI σ H s)(I1:Inv X WI σ' H1 s1)(n1:s1.heap.get? a=none)(hn:H a=none)(ok:sR X.prog X.w (upd H a o) s.heap a o):Inv X WI σ (upd H a o) s:=by
 have ne:∀b ob,s1.heap.get? b=some ob->b≠a:=λb ob e z=>by rw[z,n1]at e;cases e
 have nh:∀b ob,H b=some ob->b≠a:=λb ob e z=>by rw[z,hn]at e;cases e
 refine⟨I.ok,I.os,I.bare,⟨I.base.keep,I.base.slot,λb o' e h0 hb=>?_,I.base.there,λb xs e=>?_,λb o' u e=>?_,λb ps e=>?_⟩,I.loc,I.cell,?_,λx c e=>?_,λp hp=>?_,λb ob e=>?_,I.len⟩
 .obtain⟨o2,e2⟩:=I1.base.there b o' e hb;rw[qc (ne b o2 e2)];exact I.base.free b o' e h0 hb
 .have:=I.base.nI b xs e;rw[qc (nh b _ this)];exact this
 .have:=I.base.nC b o' u e;rw[qc (nh b _ this)];exact this
 .obtain⟨more,this⟩:=I.base.nK b ps e;exact⟨more,by rw[qc (nh b _ this)];exact this⟩
 .obtain⟨m,⟨o2,_,_,e2,_⟩,_⟩:=I1.loc;rw[qc (ne _ o2 e2)];exact I.free
 .obtain⟨v,o2,e2,_⟩:=I1.cell x c e;rw[qc (ne _ o2 e2)];exact I.mW x c e
 .obtain⟨e1,e2,e3,e4,e5⟩:=I.pin p hp;exact⟨e1,by rw[qc (ne _ _ (I1.pin p hp).1)];exact e2,e3,e4,e5⟩
 .by_cases z:b=a
  .subst z;rw[qg]at e;cases e;exact ok
  .rw[qc z]at e;exact(I.mP b ob e).nj (λ_ _ _ q=>q) (λb' q=>by rw[qc (nh b' _ q)];exact q) λb' xs q=>by rw[qc (nh b' _ q)];exact q
def Cx.marked(X:Cx)(ev:Vl)(E:Vl->Sd->Prop):Cx:={X with A:=X.A.mark (some ev),calm:=false,xe:=E}
def Inv.mark(I:Inv X WI σ H s):Inv (X.marked ev E') WI σ H s:=
 ⟨⟨I.ok.mod,I.ok.kind,I.ok.glob,I.ok.blt,I.ok.above,I.ok.inj,I.ok.has,I.ok.om,(λz=>by cases z),I.ok.frames,I.ok.oF,I.ok.oU,I.ok.bs,I.ok.nY,I.ok.nP,I.ok.nR,I.ok.nk,I.ok.oh⟩,I.os,I.bare,I.base,I.loc,I.cell,I.free,I.mW,I.pin,I.mP,I.len⟩
def Inv.unmark(ok:X.Ok)(I:Inv (X.marked ev E') WI σ H s):Inv X WI σ H s:=⟨ok,I.os,I.bare,I.base,I.loc,I.cell,I.free,I.mW,I.pin,I.mP,I.len⟩
def SP.unmark(ok:X.Ok){D:Fc}{f:Flow}(h:SP (X.marked ev E') WI D f s):SP X WI D f s:=by
 cases f with
 | next=>obtain⟨a,b,I,q⟩:=h;exact⟨a,b,I.unmark ok,q⟩
 | brk=>obtain⟨a,b,I,q⟩:=h;exact⟨a,b,I.unmark ok,q⟩
 | cont=>obtain⟨a,b,I,q⟩:=h;exact⟨a,b,I.unmark ok,q⟩
 | ret v=>obtain⟨a,b,c,I,q⟩:=h;exact⟨a,b,c,I.unmark ok,q⟩
def Hh{M:Model}{h:Heap}{a:Addr}{o:Obj}(ho:h.get? a=some o):W.Looks M h (typeOf (.ref a)) o.cls:=by intro A Q E s k q;unfold typeOf;exact cR (wpAny_load (k a o ho) (de q))
def Gf{M:Model}{A:Ar}{E:Vl->Sd->Prop}{a C T:Addr}{Q:Unit->Sd->Prop}{dx:Option Addr}(x:Pd s.heap a (.ref C) dx (some T))(h:∀h':Heap,(∀b,h'.get? b=s.heap.get? b)->Q () {s with heap:=h'}):wpAny M A (setFlight (.ref a) none) Q E s:=by
 obtain⟨oe,vs,ho,hc,_,hd,h1,hv,hT⟩:=x;obtain⟨nTe,oT,ts,XY,Yj,h3,hn⟩:=hT T rfl;unfold setFlight;refine cR (eZ ho hd hv ?_);rw[cX (by rfl)];refine g9 XY Yj h3 (h _ λb=>?_);by_cases z:T=b
 .subst z;obtain⟨oc,od,ZT,XF⟩:=oT;obtain rfl:ZT=.fields ts:=Yj;rw[fD _ XY rfl,XY];show some (Obj.mk oc od (.fields (ts.setIfInBounds 3 .none)) XF)=_;have:ts.setIfInBounds 3 .none=ts:=by
   apply Array.ext
   .simp
   .intro i h1 h2;rw[Array.getElem_setIfInBounds];split
    .rename_i e;subst e;rw[Array.getElem?_eq_getElem h3]at hn;exact(c9 hn).symm
    .rfl
  rw[this]
 .exact fW _ _ z
def QR(X:Cx)(e:Expr)(t:St->Hp->VK->(Hp->Prop)->XK->Prop):Prop:=∀(WI:List (Addr×Obj)) (s:Sd) (σ:St) (H:Hp) (Q:VK) (J:Hp->Prop) (E:XK),Inv X WI σ H s->t σ H Q J E->wpAny (model X.prog X.w) X.A (eval e X.env) (EP X WI σ Q) (VW X WI σ J E) s
def We(X:Cx)(st:Stmt)(t:Fc->St->Hp->(Hp->Prop)->XK->Prop):Prop:=∀(WI:List (Addr×Obj)) (s:Sd) (σ:St) (H:Hp) (D:Fc) (J:Hp->Prop) (E:XK),Inv X WI σ H s->t D σ H J E->wpAny (model X.prog X.w) X.A (exec st X.env) (SP X WI D) (VW X WI σ J E) s
def PK{X:Cx}{i:Nat}{x:Str}{e:Expr}{te:St->Hp->VK->(Hp->Prop)->XK->Prop}{pos WQ:Pos}(hN:X.N.Nodup)(hi:X.N[i]?=some x)(hx:KW X.env.scope x)(he:QR X e te)(hs:swapsWith e (some (.Name x WQ)) pos.line X.env=pure false:=by rfl)(hf:KS X x:=by first|exact .inl rfl|exact .inr rfl|assumption):
  We X (.Assign [.Name x WQ] e pos) (λD σ H J E=>te σ H (λv H'=>D.nx (σ.set i (some v)) H') J E):=by
 intro WI s σ H D J E I h;refine kY (so (he WI s σ H _ J E I h) λv s1 zz=>x5 zz λy H1 I1 r1 q1=>?_) hs;exact BV I1 hN hi hx r1 (λs2 I2=>⟨_,H1,I2,q1⟩) hf
variable {k:Nat}{f C:Addr}{fd:FuncData}{ps:List Str}{sp:Sp}{Xu:List V}{ds:List Vl}{m:Str}{p pos WL:Pos}{e o:Expr}{es:List Expr}{t:TA}
section
variable {x:Str}
def Mb(F:xh X.prog X.w X.K X.mg X.base (BI X.prog X.w) k f fd ps sp)(hr:rS k X.A)(hg:Gl X x)(hm:X.mg x=some (.ref f))(hk:W.keepIn X.K (.ref f)=true)(hb:uK X.K fd ps ds)(hd:qz Xu ds) (ha:PA (X.nS λ_ _=>False) (e::es) t) (W2:zG x:=by decide) (he:A9 X e es:=by rfl) (WY:CC X pos es:=by rfl):
  QR X (.Call (.Name x p) (e::es) [] pos) (λσ H Q J E=>t σ H λvs H1=>J H1/\sp (vs++Xu) H1 Q E):=by
 intro WI s σ H Q J E I h;refine fO (wV I hg hm ?_ W2);refine iL (h₀:=X.base) I.ok.mod.oA hk (dX (ha pos WI s σ H _ I.nS h) (λus s1 ⟨vs,H1,I1,r,jH,q⟩=>⟨I1.ny,?_⟩) λ_ _ z=>z.elim) he WY;have I1:=I1.xeOf;have r2:qz (vs++Xu) (us++ds):=r.append hd;have hl:(us++ds).length=ps.length:=by rw[<-r2.length];exact F.len _ _ _ _ q
 refine iz (gh (F.run X.A X.stack s1 H1 ⟨us,[]⟩ (us++ds) (vs++Xu) Q E hr I1.nZ (hb s1 us I1.ny hl) r2 q) λr s' hq=>?_);cases r with
 | error e=>exact⟨H1,s1,jH,I1,hq⟩
 | ok fl=>
  cases fl with
  | ret u=>exact I1.after hq
  | next=>exact False.elim hq
  | brk=>exact False.elim hq
  | cont=>exact False.elim hq
end
def NK{X:Cx}{st b₀:Stmt}{Xy:List Stmt}{cn:Str}{cnp Yw pos:Pos}{Cc L:Addr}{outer:List Env}{t:Fc->St->Hp->(Hp->Prop)->XK->Prop}{th:TS}(hb:We X st t)(W7:X.stack=X.env::outer)(hL:X.env.frame=some L)(hg:Gl X cn)(hm:X.mg cn=some (.ref Cc))(hs:∀ev E',Co (X.marked ev E') (b₀::Xy) th) (W2:zG cn:=by decide):
  PS X (.Try [st] [.ExceptHandler (some (.Name cn cnp)) none (b₀::Xy) Yw] [] [] pos) (λD σ H=>∃(J:Hp->Prop) (E:XK),t D σ H J E/\∀C dx H1 H',J H1->TKept H1 H'->E (.ref C) dx H'->W.exmOne X.K (.ref C) (.ref Cc)=some true/\th D σ H'):=by
 intro WI s σ H D I ⟨J,E,h,hh⟩;refine wpAny_Try_except (dX (Q:=λf s'=>SP X WI D f s') (jw (so (hb WI s σ H D J E I h) λf s1 q=>?_)) (λf s1 q=>?_) λev s1 x=>?_)
 .cases f with
  | next=>exact gM q
  | brk=>exact q
  | cont=>exact q
  | ret v=>exact q
 .cases f with
  | next=>exact gM q
  | brk=>exact q
  | cont=>exact q
  | ret v=>exact q
 .refine dX (Q1 x W7 hL) (λ_ s2 y=>so y λ_ s3 z=>?_) λ_ _ z=>z;obtain⟨a,C,dx,H',tb,H1,s1,rfl,q,I3,x3,na,nt,jH,tk,I1,n1⟩:=z;obtain⟨WK,h1⟩:=hh C dx H1 H' jH tk q;refine wpAny_handleBy_cons (codeAny_handlers_test (wV (X:=X.marked (.ref a) λ_ _=>False) I3.mark hg hm ?_ W2)) (by intro z;cases z);obtain⟨oe,vs,ho,hc,_⟩:=id x3;refine W.exm_one I3.ny (Hh ho) (by rw[hc];exact WK) _ _ _ _ (λ_ _ z=>z) ?_;refine codeAny_handlers_suite (Gf x3 λh' hh'=>?_);have I4:Inv X WI σ H' {s3 with heap:=h'}:=I3.kept (t':=s3.toks) λb u z=>by rw[hh' b];exact z
  refine dX (hs (.ref a) _ WI _ σ H' D I4.mark h1) (λf s5 q5=>SP.unmark I.ok q5) λ_ _ z=>z
structure Wg(K:qr)(C:Addr):Prop where
 hd:(W.clsIn K C).isSome=true
 ga:W.findIn K (.ref C) "__getattribute__"=some (some (.builtin "BaseException.__getattribute__"))
 gt:W.findIn K (.ref C) "__getattr__"=some none
 ha:W.findIn K (.ref C) "__class__"=some (some (.builtin "object.__class__"))
 hn:W.specialIn K (.builtin "object.__class__") "__get__"=some (some (.builtin "getset_descriptor.__get__"))
 htk:W.takesIn K (.builtin "object.__class__")=some true
 hm:W.mroIn K C (.type "object")=some true
 hb:W.mroIn K C (.type "BaseException")=some true
variable {prog:Pg}{w:Wo}{A:Ar}{E:Vl→Sd→Prop}{K:qr}{ox:Obj}
section
variable {x:Addr}
end
end L2
namespace L3
open PySem PySem.Spec PyProof.Rows L2
theorem _root_.L2.TKept.ext{K:qr}{H H':Hp}(h:TKept H H'):qL K H H':=⟨λa xs q=>by
 rcases q with(q|⟨u,q⟩)|q
 .exact .inl (.inl (h.1 a xs q))
 .exact .inl (.inr ⟨u,h.2 a u _ q⟩)
 .exact .inr q,λa o xs q=>h.2 a o _ q⟩
abbrev Tt:=va->Mp->DK->(Addr->Mp->Prop)->Prop
def WG(K:qr)(t:Tt):St->Hp->VK->(Hp->Prop)->XK->Prop:=λσ H Q' J E=>CF λδ M Q R=>zH K H σ δ/\HM K H M/\t δ M Q R/\(∀v H' d M',rN K H' d v->HM K H' M'->qL K H H'->Q d M'->Q' v H')/\(∀H1,qL K H H1->J H1)/\Tq K R E
def Wc(X:Cx)(e:Expr)(t:Tt):Prop:=QR X e (WG X.K t)
def QR.mono{X:Cx}{e:Expr}{t t':St->Hp->VK->(Hp->Prop)->XK->Prop}(h:QR X e t)(m:∀σ H Q J E,t' σ H Q J E->t σ H Q J E):QR X e t':=λWI s σ H Q J E I q=>h WI s σ H Q J E I (m σ H Q J E q)
variable {X:Cx}{x:Str}{p pos np WP:Pos}{e:Expr}{es:List Expr}{t:xl}{k:Nat}{f C:Addr}{fd:FuncData}{ps:List Str}{sp:Gp}
def Lo(F:Q8 X.prog X.w X.K X.mg X.base k f fd ps sp)(hr:rS k X.A)(hg:Gl X x)(hm:X.mg x=some (.ref f))(hk:W.keepIn X.K (.ref f)=true)(hb:uK X.K fd ps [])(ha:A3 (X.nS λ_ _=>False) (e::es) t) (W2:zG x:=by decide) (he:A9 X e es:=by rfl) (WY:CC X pos es:=by rfl):
  Wc X (.Call (.Name x p) (e::es) [] pos) (λδ M Q R=>t δ M λds M1=>sp ds M1 Q R):=QR.mono (Mb F hr hg hm hk hb .nil ha W2 he WY) λσ H Q' J E ⟨δ,M,Q,R,hs,hm,ht,k,kJ,kR⟩=>
 ⟨δ,M,_,hs,hm,ht,λvs H1 ds M1 hd WK e1 q1=>⟨kJ H1 e1,ds,M1,Q,R,by rw[eU];exact hd,WK,q1,vI e1 k,kR⟩⟩
variable {b₀:Stmt}{Xy:List Stmt}{cn n:Str}{cnp Yw WL xpos:Pos}{Cc L:Addr}{outer:List Env}{i ix:Nat}{te:Tt}{th:xk}
def Vd(K:qr)(ix:Nat)(Cc:Addr)(te:Tt)(th:xk):xk:=λD δ M=>∃R,te δ M (λd M1=>D.nx (δ.set ix (some d)) M1) R/\∀C M',R C M'->W.exmOne K (.ref C) (.ref Cc)=some true/\th D δ M'
def P9(he:Wc X e te)(W7:X.stack=X.env::outer)(hL:X.env.frame=some L)(hg:Gl X cn)(hm:X.mg cn=some (.ref Cc))(hN:X.N.Nodup)(ZG:X.N[ix]?=some x)(hx:X.env.scope.names.lookup x=some .local) (hs:∀ev E',Hd (X.marked ev E') (b₀::Xy) th) (W2:zG cn:=by decide) (Xw:swapsWith e (some (.Name x xpos)) WL.line X.env=pure false:=by rfl):
  S3 X (.Try [.Assign [.Name x xpos] e WL] [.ExceptHandler (some (.Name cn cnp)) none (b₀::Xy) Yw] [] [] pos) (Vd X.K ix Cc te th):=
 PS.nN (NK (th:=UM X.K th) (PK hN ZG (.inl hx) he Xw (.inr hx)) W7 hL hg hm hs W2) λD' σ H hl ⟨δ,M,D,hs,hm,⟨R,ht,hh⟩,k1,k2,k3,k4⟩=>by
  refine⟨λH1=>qL X.K H H1,λcv d H'=>∃C M',cv=.ref C/\HM X.K H' M'/\Tc X.K C d/\R C M',⟨δ,M,_,R,hs,hm,ht,λv H1 d M1 hd WK e1 q1=>?_,λ_ z=>z,λC dx H' M' h1 h0 h2=>⟨C,M',rfl,h1,h0,h2⟩⟩,λC dx H1 H' jH tk ⟨C',M',ec,Ye,Zk,r⟩=>?_⟩
  .exact k1 _ H1 _ M1 ((hs.mono e1).set hd (by rw[hl];exact(cS.mp ZG).1)) WK e1 (by simp) q1
  .cases ec;obtain⟨r1,r2⟩:=hh C M' r;have e1:qL X.K H H':=jH.trans (L2.TKept.ext tk);refine⟨r1,δ,M',D,hs.mono e1,Ye,r2,λσ2 H2 δ2 M2 y1 y2 y3 y4 y5=>?_,λv H2 d M2 y1 y2 y3 y5=>?_,λσ2 H2 δ2 M2 y1 y2 y3 y4 y5=>?_,λσ2 H2 δ2 M2 y1 y2 y3 y4 y5=>?_⟩
   .exact k1 _ H2 _ M2 y1 y2 (e1.trans y3) y4 y5
   .exact k2 _ H2 _ M2 y1 y2 (e1.trans y3) y5
   .exact k3 _ H2 _ M2 y1 y2 (e1.trans y3) y4 y5
   .exact k4 _ H2 _ M2 y1 y2 (e1.trans y3) y4 y5
end L3
namespace L2
open PySem PySem.Spec PyProof.Rows
def Cf(es:Array DictEntry):Bool:=es.toList.all λe=>match e.key with|.str _ _=>true|_=>false
def Cq{es:Array DictEntry}(h:Cf es=true):StrKeys es:=λe he=>by
 have:=eA.mp h e (j9.mpr he);cases z:e.key with
 | str n t=>exact⟨n,t,rfl⟩
 | _=>rw[z]at this;cases this
abbrev Nr:List Vl:=[.type "ValueError",.type "Exception",.type "BaseException",.type "object"]
def PH{K:qr}{t:Vl}{C:Addr}{cd:ClassData}{b:Bool}(q0:W.subIn K (.ref C) (.type "BaseException")=some true)(q1:W.clsIn K C=some cd)(q2:W.typeIn K (.ref C)=some (.type "type"))(s:W.subIn K t (.ref C)=some b):W.exmOne K t (.ref C)=some b:=by unfold W.exmOne;rw[q0,cX (by rfl)];unfold W.kitCls;simp only;rw[q1,q2,cX (by rfl)];exact s
end L2
namespace L3
open PySem PySem.Spec PyProof.Rows L2
end L3
namespace L2
open PySem PySem.Spec PyProof.Rows
theorem BH(self:Vl):∀own:List Addr,refuseLoop self "__setattr__" (own.map Value.ref++Nr)=pure ()
 | []=>jG.passes self
 | c::r=>by show refuseLoop self "__setattr__" (.ref c::(r.map Value.ref++Nr))=pure ();rw[refuseLoop_ref];exact BH self r
variable {prog:Pg}{w:Wo}{A:Ar}{s:Sd}{K:qr}{x C:Addr}{ox:Obj}{own:List Addr}{name:Str}{v:Vl}
section
variable {E:Vl→Sd→Prop}{cd:ClassData}
def PV{Q:Unit->Sd->Prop}(X:K.In s.heap)(I:W.InstAt s.heap x ox C none)(hs:W.findIn K (.ref C) "__setattr__"=some (some (.builtin "object.__setattr__")))(hc:W.clsIn K C=some cd)(hm:cd.mro=own.map Value.ref++Nr)(ht:W.takerIn K C name=some none)(hd:cd.hasDict=true) (h:∀h' d t,(∀b o,b≠x->s.heap.get? b=some o->h'.get? b=some o)->h'.get? x=some {ox with dict:=some d}->Q () {s with heap:=h',toks:=t}):wpAny (model prog w) A (setAttr (.ref x) name v) Q E s:=by
 refine W.set_plain X I hs ?_;have SF:=jG;have ne:cd.mro.isEmpty=false:=by rw[hm];cases own<;>rfl
 have has:cd.mro.contains (.type "object")=true:=by
  rw[hm,List.contains_eq_any_beq,lZ];have:Nr.any (Value.type "object"==·)=true:=by decide+kernel
  rw[this,kT]
 have sub:W.Looks (model prog w) s.heap (isInstance (.ref x) (.type "object")) true:=I.type.andThen (W.looks_mroIn X (by unfold W.mroIn;rw[hc,lR,cV (by rw[ne];decide),has]));refine iN SF.slot.plain SF.entry (@PySem.W.check_slot (model prog w) _ _ {s with toks:=s.toks+1} "object.__setattr__" "object" "__setattr__" (.ref x) [.str name s.toks,v] [] _ SF.kind SF.split sub (SF.args (.ref x) (.str name s.toks) v) ?_);obtain⟨attr,ha,hr⟩:=Option.bind_eq_some_iff.mp ht;have ZJ:W.Looks (model prog w) s.heap (mroOf (.ref C)) cd.mro:=(kr X hc).andThen .now;have L3':W.Looks (model prog w) s.heap (Builtin.ObjectAttr.storeTaker? attr) none:=by
  cases attr with
  | none=>exact .now
  | some a=>
   obtain⟨b,hb,hr⟩:=jX.mp hr;refine(W.looks_takesIn X hb).andThen ?_;cases b
   .exact .now
   .cases hr
 rw[W.osa_eq,refuse_eq];refine cR (cR (I.type.here (s:={s with toks:=s.toks+1}) (cR (ZJ.here (s:={s with toks:=s.toks+1}) ?_))));rw[hm,BH];refine de (cR (I.type.here (s:={s with toks:=s.toks+1}) (cR ((me X ha).here (s:={s with toks:=s.toks+1}) (cR (L3'.here (s:={s with toks:=s.toks+1}) ?_))))));obtain⟨hx,Zh,hn,Zk⟩:=I;obtain⟨oc,odi,oda,XF⟩:=ox;dsimp only at Zh Zk;subst Zh;cases odi with
 | some _=>exact Zk.elim
 | none=>
  refine cR (de (cR (cR (wpAny_loadPart hx (cR (mi (s:={s with toks:=s.toks+1}) (kr X hc) ?_))))));rw[hd];rw[cV (by decide)];obtain⟨hh,g,dr,tk,os⟩:=s;dsimp only at hx h ⊢;rw[cV (by simp[typeHasDict])];split
  .cases hn
  .have y1:(hh.push W.emptyDict).get? x=some ⟨.ref C,none,oda,XF⟩:=cW _ hx;have nx:x≠hh.objs.size:=λz=>eX _ (z ▸ dh hx);refine cR (wpAny_alloc' (cR (wpAny_update' y1 (de ?_))));have e0:((hh.push W.emptyDict).update x λo=>{o with dict:=some hh.objs.size}).Ns hh.objs.size (λ_=>none):=⟨W.emptyDict,#[],_,(iV _ _ _ _ nx.symm).trans (dA hh rfl),rfl,λe he=>absurd he (by simp),λ_=>rfl⟩;refine cR (de (cR (wpAny_nsSet1 (k9 e0) λh' n1 sb=>?_)));obtain⟨oD,esD,epD,g1,g2,g3⟩:=n1.count (Within.cons name v Within.nil);refine cR (lF g1 (g2 ▸ lG (dN g3 (by rw[dF,dG];decide))) (de (h h' hh.objs.size _ (λb o hb z=>?_) ?_)))
   .exact(sb.2 b λy=>eX _ (y ▸ dh z)).trans ((iV _ _ _ _ hb).trans (cW _ z))
   .refine(sb.2 x nx).trans (fD _ y1 ?_);have fr:=(Heap.get?_some_iff.mp hx).2;cases oda with
    | _=>first|rfl|exact fr
end
variable {nm q:Str}{bs bm Yb:List Vl}{hdct:Bool}{sn:List Str}{sub:List Vl}{ab:Bool}{col:Option Bool}{dd:Option Addr}{k0 k1 k2 k3 k5:Option Vl}{B Bn newId nid Xe zr:String}{bmN:List Vl}{h:Heap}{g:Array GenState}{d:Drawn}{t:Nat}{os:OsState}
section
variable {E:Vl→Sd→Prop}{N:Addr}
abbrev P8(C t:Addr):Obj:={cls:=.ref C,data:=.fields #[.ref t,.none,.none,.none,.bool false,.none]}
def AO(Fn:ExcBaseFacts Bn newId zr bmN)(hBn:Yb.contains (.type Bn)=true)(F:ExcBaseFacts B nid Xe Yb)(T:OwnTail h Yb bm){mN:Str->Option Vl}{us:List Vl}{fI:Addr}{oI:Obj}{Q:PySem.Fin->Sd->Prop} (hC:h.get? C=some (excClassObj nm q C N bs bm hdct sn sub ab col dd k0 k1 k2 k3 k5 newId)) (hn:h.Ns N mN) (hi:mN "__init__"=some (.ref fI)) (hf:h.get? fI=some oI) (hfc:oI.cls=.type "function") (WO:us.length<=sizeLine) (hq:∀h' e,Heap.MadeExcOf h h' e (.ref C) us->wpAny (model prog w) A (call (.ref fI) (.ref e::us)) (λr s'=>r=.none/\Q (.done (.ret (.ref e))) s') E ⟨h',g,d,t,os⟩):
  wpAny (model prog w) A (Builtin.«type.__call__» ⟨.ref C::us,[]⟩) Q E ⟨h,g,d,t,os⟩:=by
 repeat (first|with_reducible refine gW hC ?_|with_reducible refine wpAny_madeBy_exc hC ?_|wp_step)
 refine codeAny_call_builtin_code (iq _ Fn.quiet) (wpAny_check_new_subU Fn hBn T hC (codeAny_exc_new_subU Fn hBn F T hC ?_ WO));have kp:∀b o,h.get? b=some o->((h.push {cls:=.type "tuple",data:=.seq us.toArray}).push (P8 C h.objs.size)).get? b=some o:=λb o z=>cW _ (cW _ z);have gE:((h.push {cls:=.type "tuple",data:=.seq us.toArray}).push (P8 C h.objs.size)).get? (h.objs.size+1)=some (P8 C h.objs.size):=by heap_get
 have hC2:=kp _ _ hC;have Zw:((h.push {cls:=.type "tuple",data:=.seq us.toArray}).push (P8 C h.objs.size)).Ns N mN:=let⟨o,es,ep,e,r⟩:=hn;⟨o,es,ep,kp _ _ e,r⟩;have cC:(Value.ref C::bm).contains (.ref C)=true:=by rw[iu,fC,gY]
 have T2:=T.keeps kp;show wpAny _ _ _ _ _ _;unfold isInstance
 repeat (first|with_reducible refine gW gE ?_|(with_reducible refine kB hC2 ?_;rw[cC])|wp_step)
 show wpAny _ _ (typeLookup (.ref C) _) _ _ _;refine wpAny_typeLookup_tail hC2 Zw T2 F.mroIs F.init.lookup ?_;rw[hi];refine eN (cR ?_);unfold bindSpecial;refine cR (jz (T:="function") ⟨_,kp _ _ hf,hfc⟩ ?_);rw[cX (by decide)];refine de (cR (dX (hq _ (h.objs.size+1) ⟨kp,hJ (gS _),h.objs.size,gE,hJ (cZ _),cW _ (Heap.get?_push_at rfl rfl)⟩) (λr s' hr=>?_) λ_ _ z=>z));obtain⟨rfl,hQ⟩:=hr
 wp_walk
 exact hQ
def Hw(Fn:ExcBaseFacts Bn newId zr bmN)(hBn:Yb.contains (.type Bn)=true)(F:ExcBaseFacts B nid Xe Yb)(T:OwnTail h Yb bm){mN:Str->Option Vl}{us:List Vl}{fI:Addr}{oI:Obj}{Q:Vl->Sd->Prop} (hC:h.get? C=some (excClassObj nm q C N bs bm hdct sn sub ab col dd k0 k1 k2 k3 k5 newId)) (hn:h.Ns N mN) (hi:mN "__init__"=some (.ref fI)) (hf:h.get? fI=some oI) (hfc:oI.cls=.type "function") (WO:us.length<=sizeLine) (hq:∀h' e,Heap.MadeExcOf h h' e (.ref C) us->wpAny (model prog w) (A.under (.builtin "type.__call__" ⟨.ref C::us,[]⟩)) (call (.ref fI) (.ref e::us)) (λr s'=>r=.none/\Q (.ref e) s') E ⟨h',g,d,t,os⟩):
  wpAny (model prog w) A (call (.ref C) us) Q E ⟨h,g,d,t,os⟩:=by
 have f1:=tc_lookup;have f2:=tc_bind (.ref C);have hT:(⟨h,g,d,t,os⟩:Sd).TypeIs (.ref C) "type":=⟨_,hC,rfl⟩;refine iz (jQ ?_);show wpAny _ _ (callAny (.ref C) _) _ _ _
 repeat (any_goals(first|assumption|with_reducible refine gW hC ?_|wp_step))
 exact⟨rfl,codeAny_call_builtin_at (iq _ (by decide+kernel)) entry_typeCall (wpAny_check_type_call_sub hC (AO Fn hBn F T hC hn hi hf hfc WO hq))⟩
end
variable {M:Model}{env:Env}
section
variable {E:Vl→Sd→Prop}{N:Addr}
def IX(h:Heap)(e C:Addr)(dx:Option Addr):Prop:=Bq λt sl=>h.get? e=some ⟨.ref C,dx,.fields #[.ref t,.none,.none,.none,.bool false,.none],sl⟩
def GZ{x:Sem Vl}{Q:Flow->Sd->Prop}(WV:bm.contains (.type "BaseException")=true)(hh:A.handled=none) (h:wpAny M A x (λv s₁=>∃e dx,v=.ref e/\s₁.heap.get? C=some (excClassObj nm q C N bs bm hdct sn sub ab col dd k0 k1 k2 k3 k5 newId)/\IX s₁.heap e C dx/\E (.ref e) s₁) E s):
  wpAny M A (raiseStmt env (some x) none) Q E s:=by
 have cB:(Value.ref C::bm).contains (.type "BaseException")=true:=by rw[iu,WV,kT]
 unfold raiseStmt;refine cR (dX h (λv s₁ ⟨e,dx,ev,hC,⟨t,sl,he⟩,hE⟩=>?_) λ_ _ z=>z);subst ev;obtain⟨hp,g,d,tk,os⟩:=s₁
 repeat (first|with_reducible refine gW he ?_|with_reducible refine gW hC ?_|(with_reducible refine kB hC ?_;rw[cB])|wp_step)
 exact wpAny_raiseNew_none hh hE
def GI(Fn:ExcBaseFacts Bn newId zr bmN)(hBn:Yb.contains (.type Bn)=true)(F:ExcBaseFacts B nid Xe Yb){mN:Str->Option Vl}{fI:Addr}{x:Str}{np WP pos:Pos}{args:List Expr}{Q:Flow->Sd->Prop} (WV:bm.contains (.type "BaseException")=true) (hh:A.handled=none) (W0:(backTo WP (starEach args env)).any (·.1)=false) (hi:mN "__init__"=some (.ref fI)) (h:wpAny (model prog w) A (eval (.Name x np) env) (λf s₁=>f=.ref C/\wpAny (model prog w) A (evalArgs (.ref C) true (backTo WP (starEach args env)) []) (λa s₂=>a.kw=[]/\a.pos.length<=sizeLine/\s₂.heap.get? C=some (excClassObj nm q C N bs bm hdct sn sub ab col dd k0 k1 k2 k3 k5 newId)/\s₂.heap.Ns N mN/\OwnTail s₂.heap Yb bm/\(∃oI,s₂.heap.get? fI=some oI/\oI.cls=.type "function")/\
    ∀h' e,Heap.MadeExcOf s₂.heap h' e (.ref C) a.pos->wpAny (model prog w) (A.under (.builtin "type.__call__" ⟨.ref C::a.pos,[]⟩)) (call (.ref fI) (.ref e::a.pos))
     (λr s'=>r=.none/\∃dx,s'.heap.get? C=some (excClassObj nm q C N bs bm hdct sn sub ab col dd k0 k1 k2 k3 k5 newId)/\IX s'.heap e C dx/\E (.ref e) s') E {s₂ with heap:=h'}) E s₁) E s):
  wpAny (model prog w) A (exec (.Raise (some (.Call (.Name x np) args [] WP)) none pos) env) Q E s:=by
 rw[arm_exec_Raise];refine cR (ic (GZ (C:=C) (nm:=nm) (q:=q) (N:=N) (bs:=bs) (bm:=bm) (hdct:=hdct) (sn:=sn) (sub:=sub) (ab:=ab) (col:=col) (dd:=dd) (k0:=k0) (k1:=k1) (k2:=k2) (k3:=k3) (k5:=k5) (newId:=newId) WV hh ?_));refine cR (dX (wpAny_Call_ofName (dX h (λf s₁ ⟨ef,h₁⟩=>?_) λ_ _ z=>z)) (λv s₃ h₃=>cR (ic (de h₃))) λ_ _ z=>z);subst ef;unfold callWith;refine cR (eN (dX h₁ (λa s₂ h₂=>cR (ic ?_)) λ_ _ z=>z));obtain⟨WL,akw⟩:=a;obtain⟨hkw,WO,hC,hn,T,⟨oI,hf,hfc⟩,h₂⟩:=h₂;obtain rfl:akw=[]:=hkw;obtain⟨hp,g,d,tk,os⟩:=s₂;simp only[W0];refine cR (wpAny_keeperOf_exc hC (cR (Hw Fn hBn F T hC hn hi hf hfc WO λh' e hm=>dX (h₂ h' e hm) (λr s' ⟨z,dx,c1,c2,c3⟩=>⟨z,cR (eN (wpAny_point (de ⟨e,dx,rfl,c1,c2,c3⟩)))⟩) λ_ _ z=>z)))
end
def x0(a C:Addr)(h:Heap):Prop:=IX h a C none
def x1(a C:Addr)(h:Heap):Prop:=∃d,IX h a C (some d)
structure yF(K:qr)(C:Addr)(f:Str):Prop where
 sa:W.findIn K (.ref C) "__setattr__"=some (some (.builtin "object.__setattr__"))
 cd:∃cd own,W.clsIn K C=some cd/\cd.mro=List.map Value.ref own++Nr/\cd.hasDict=true
 tk:W.takerIn K C f=some none
variable {X:Cx}{WI:List (Addr × Obj)}{σ σ':St}{H H1:Hp}{s1:Sd}{a:Addr}
section
variable {f:Str}
def G1{A:Ar}{E:Vl->Sd->Prop}{u:Vl}{Q:Unit->Sd->Prop}(I:Inv X WI σ H s)(e:H a=some (.ext (x0 a C)))(st:yF X.K C f)(h:∀s',Inv X WI σ (upd H a (.ext (x1 a C))) s'->Q () s'):wpAny (model X.prog X.w) A (setAttr (.ref a) f u) Q E s:=by obtain⟨⟨t,sl,ho⟩,_,_⟩:=I.mP a _ e;obtain⟨cd,own,c1,c2,c3⟩:=st.cd;refine PV I.ny ⟨ho,rfl,rfl,trivial⟩ st.sa c1 c2 st.tk c3 λh' d tk k1 k2=>h _ ?_;exact I.write (x:=a) (e:=a) (by rw[e];exact True.intro) (.inl rfl) k1 ⟨_,k2⟩ ⟨⟨d,t,sl,k2⟩,⟨_,k2⟩,λh1 h2 ⟨d',t',Yk,z⟩ kk=>⟨d',t',Yk,kk _ z⟩⟩
def Inv.drop{φ:Heap->Prop}(I:Inv X WI σ (upd H1 a (.ext φ)) s)(I1:Inv X WI σ' H1 s1)(hn:H1 a=none):Inv X WI σ H1 s:=by
 refine⟨I.ok,I.os,I.bare,⟨I.base.keep,I.base.slot,I1.base.free,I.base.there,I1.base.nI,I1.base.nC,I1.base.nK⟩,I.loc,I.cell,I1.free,I1.mW,λp hp=>⟨(I.pin p hp).1,(I1.pin p hp).2.1,(I.pin p hp).2.2⟩,λb ob e=>?_,I.len⟩;have nb:b≠a:=λz=>by rw[z,hn]at e;cases e
 refine(I.mP b ob (by rw[qc nb];exact e)).nj (λ_ _ _ q=>q) (λb' q=>?_) λb' xs q=>?_
 .by_cases z:b'=a
  .rw[z,qg]at q;cases q
  .rwa [qc z]at q
 .by_cases z:b'=a
  .rw[z,qg]at q;cases q
  .rwa [qc z]at q
end
def L8(K:qr)(ta tv:TE)(f:Str):TS:=λD σ H=>tv σ H λ_ H1=>ta σ H1 λx H2=>∃a C,x=.ref a/\H2 a=some (.ext (x0 a C))/\yF K C f/\D.nx σ (upd H2 a (.ext (x1 a C)))
def Pu{X:Cx}{o value:Expr}{f:Str}{pos WQ:Pos}{ta tv:TE}(ha:PE X o ta)(hv:PE X value tv)(hs:swapsWith value (some (.Attribute o f WQ)) pos.line X.env=pure false:=by rfl):PS X (.Assign [.Attribute o f WQ] value pos) (L8 X.K ta tv f):=by intro WI s σ H D I h;refine iK (so (hv WI s σ H _ I h) λu s1 zz=>x5 zz λy H1 I1 ry q=>so (ha WI s1 σ H1 _ I1 q) λov s2 zz=>?_) hs;obtain⟨x,H2,I2,rx,a,C,ex,ea,st,q2⟩:=zz;subst ex;obtain rfl:ov=Value.ref a:=rx;exact G1 I2 ea st λs3 I3=>⟨σ,_,I3,q2⟩
def wj(K:qr)(f:Str):Sp:=λvs H Q _=>CO λe C y=>vs=[.ref e,y]/\H e=some (.ext (x0 e C))/\yF K C f/\Q .mI (upd H e (.ext (x1 e C)))
variable {qual:Str}{scope:Scope}{outer:List Env}{s0:Sd}{H0:Hp}{P:Pg}{mg:Str→Option Vl}{base:Heap}
section
def Nz{x qual y1 y2 fl:Str}{st:Stmt}{f:Addr}{fd:FuncData}(F:Pe K x qual st f fd)(S:sV [y1,y2] [y1,y2] (qa st)) (hb:∀(WR:Vl) (A:Ar) (outer:List Env) (s:Sd) (H:Hp) (E:XK),Co (vb (BI P w) P w K mg base [y1,y2] qual (qa st) f WR A outer s H E) (rM st) (L8 K (Hn 0) (Hn 1) fl)):xh P w K mg base (BI P w) 1 f fd [y1,y2] (wj K fl):=by
 obtain⟨oc,od,kV,Xm,pm,an,WR,ct,XF,rfl,lk,XZ⟩:=F.ex;refine K8 lk XZ S (λvs H Q E h=>?_) λA outer s H vs Q' E hr h=>⟨_,hb WR A outer s H E,?_⟩
 .obtain⟨e,C,y,rfl,_⟩:=h;rfl
 .obtain⟨e,C,y,rfl,h1,h2,q⟩:=h;exact⟨y,rfl,.ref e,rfl,e,C,rfl,h1,h2,q⟩
def IV(K:qr)(C fI:Addr):Prop:=
 ∃nm q N bs bm Yb hdct sn sub ab col dd k0 k1 k2 k3 k5,∃B Bn newId nid Xe zr:String,∃bmN,∃mN:Str->Option Vl,ExcBaseFacts Bn newId zr bmN/\Yb.contains (Value.type Bn)=true/\ExcBaseFacts B nid Xe Yb/\bm.contains (Value.type "BaseException")=true/\mN "__init__"=some (.ref fI)/\
  ∀h:Heap,K.In h->h.get? C=some (excClassObj nm q C N bs bm hdct sn sub ab col dd k0 k1 k2 k3 k5 newId)/\h.Ns N mN/\OwnTail h Yb bm/\∃oI,h.get? fI=some oI/\oI.cls=.type "function"
variable {N:List Str}{f:Addr}{cd:Vl}{E:XK}
def Ko{X:Cx}(hX:X=vb (BI P w) P w K mg base N qual scope f cd A outer s0 H0 E){C fI:Addr}{fdI:FuncData}{ps:List Str}{fl:Str}{k:Nat}{x:Str}{np WP pos:Pos}{e:Expr}{ta:TA}(hC:IV X.K C fI)(F:xh X.prog X.w X.K X.mg X.base (BI X.prog X.w) k fI fdI ps (wj X.K fl))(hr:rS (k+1) X.A)(hb:uK X.K fdI ps [])(st:yF X.K C fl) (hg:Gl X x) (hm:X.mg x=some (.ref C)) (ha:PA X [e] ta) (hs:starEach [e] X.env=[(false,eval e X.env)]:=by rfl) (W2:zG x:=by decide):
  PS X (.Raise (some (.Call (.Name x np) [e] [] WP)) none pos) (λ_ σ H=>ta σ H λvs H1=>(∃y,vs=[y])/\∀d,E (.ref C) (some d) H1):=by
 intro WI s σ H D I h;obtain⟨nm,q,N',bs,bm,Yb,hdct,sn,sub,ab,col,dd,k0,k1,k2,k3,k5,B,Bn,newId,nid,Xe,zr,bmN,mN,f1,f2,f3,f4,f5,YG⟩:=hC;have hcalm:X.A.handled=none:=I.ok.hd (by rw[hX];rfl);refine GI (nm:=nm) (q:=q) (N:=N') (bs:=bs) (hdct:=hdct) (sn:=sn) (sub:=sub) (ab:=ab) (col:=col) (dd:=dd) (k0:=k0) (k1:=k1) (k2:=k2) (k3:=k3) (k5:=k5) f1 f2 f3 f4 hcalm (by rw[hs];rfl) f5 (wV I hg hm ⟨rfl,?_⟩ W2);rw[hs];refine evalArgs_kwB rfl ?_;have Yh:=ha WP WI s σ H _ I h;rw[hs]at Yh;refine so Yh λus s1 ⟨vs,H1,I1,r1,⟨y,ey⟩,q1⟩=>?_;subst ey;obtain⟨u,rfl,ru⟩:=yq r1;refine wpAny_evalAll_nil ?_;obtain⟨c1,c2,c3,c4⟩:=YG s1.heap I1.ny;refine⟨rfl,by show 1<=sizeLine;rw[dF];decide,c1,c2,c3,c4,λh' e' md=>?_⟩;obtain⟨mk,mn,t,mt,_⟩:=md;have hn:H1 e'=none:=GR I1.mP mn;have I2:Inv X WI σ H1 {s1 with heap:=h'}:=I1.kept (t':=s1.toks) mk;have I3:Inv X WI σ (upd H1 e' (.ext (x0 e' C))) {s1 with heap:=h'}:=I2.adopt I1 mn hn ⟨⟨t,_,mt⟩,⟨_,mt⟩,λh1 h2 ⟨t',Yk,z⟩ kk=>⟨t',Yk,kk _ z⟩⟩;have r2:qz [V.ref e',y] [Value.ref e',u]:=.cons rfl (.cons ru .nil);have Yd:wj X.K fl [V.ref e',y] (upd H1 e' (.ext (x0 e' C))) (λv H2=>v=.mI/\H2=upd H1 e' (.ext (x1 e' C))) (λ_ _ _=>False):=⟨e',C,y,rfl,qg,st,rfl,Om⟩;have hl:([Value.ref e',u]:List Vl).length=ps.length:=by rw[<-r2.length];exact F.len _ _ _ _ Yd
 refine iz (gh (F.run _ X.stack _ _ ⟨[Value.ref e',u],[]⟩ [Value.ref e',u] _ _ _ (hr.make C [u] []) (I3.nZ.make C [u] []) (hb _ [Value.ref e',u] I3.ny hl) r2 Yd) λr s' Yl=>?_);cases r with
 | error ev=>obtain⟨_,_,_,_,_,_,z,_⟩:=Yl;exact z.elim
 | ok fw=>
  cases fw with
  | ret uv=>obtain⟨v,H',I4,rv,ev,eH⟩:=I3.after Yl;subst ev eH;obtain⟨⟨d,t',Yk,md⟩,_,_⟩:=I4.mP e' _ qg;have I5:=I4.drop I1 hn;refine⟨rv,some d,(YG s'.heap I4.ny).1,⟨t',Yk,md⟩,?_⟩;subst hX;have Xa:Un (vU outer) [] H0 H1 s0.heap s1.heap:=I1.base;exact S' I5 (tb:=none) ⟨_,_,md,rfl,rfl,rfl,(by show 1<6;decide),rfl,λT z=>by cases z⟩ (F5 Xa rfl mn) (λT z=>by cases z) hn (q1 d)
  | next=>exact False.elim Yl
  | brk=>exact False.elim Yl
  | cont=>exact False.elim Yl
end
end L2
namespace L3
open PySem PySem.Spec PyProof.Rows L2
variable {P:Pg}{w:Wo}{K:qr}{mg:Str→Option Vl}{base:Heap}{N:List Str}{qual:Str}{scope:Scope}{f:Addr}{cd:Vl}{A:Ar}{outer:List Env}{s0:Sd}{H0:Hp}{E:XK}{x:Str}{np WP pos:Pos}{e:Expr}{C fI:Addr}{fdI:FuncData}{ps:List Str}{fl:Str}{k:Nat}{R:Addr→Mp→Prop}{ta:xl}
def Pb(C:Addr)(R:Addr->Mp->Prop)(ta:xl):xk:=λ_ δ M=>ta δ M λds M1=>ds.length=1/\R C M1
def Ke(hC:IV K C fI)(F:xh P w K mg base (BI P w) k fI fdI ps (wj K fl))(hr:rS (k+1) (vb (BI P w) P w K mg base N qual scope f cd A outer s0 H0 E).A)(hb:uK K fdI ps [])(st:yF K C fl)(hi:W.findIn K (.ref C) "__init__"=some (some (.ref fI)))(hg:Gl (vb (BI P w) P w K mg base N qual scope f cd A outer s0 H0 E) x)(hm:mg x=some (.ref C))(hR:Tq K R E)(ha:A3 (vb (BI P w) P w K mg base N qual scope f cd A outer s0 H0 E) [e] ta) (hs:starEach [e] (vb (BI P w) P w K mg base N qual scope f cd A outer s0 H0 E).env=[(false,eval e (vb (BI P w) P w K mg base N qual scope f cd A outer s0 H0 E).env)]:=by rfl) (W2:zG x:=by decide):
  S3 (vb (BI P w) P w K mg base N qual scope f cd A outer s0 H0 E) (.Raise (some (.Call (.Name x np) [e] [] WP)) none pos) (Pb C R ta):=
 PS.mono (Ko rfl hC F hr hb st hg hm ha hs W2) λD' σ H ⟨δ,M,D,hs,hm,ht,_⟩=>⟨δ,M,_,hs,hm,ht,λvs H1 ds M1 hd WK e1 q1=>⟨by
  obtain⟨d,rfl⟩:∃d,ds=[d]:=match ds,q1.1 with|[d],_=>⟨d,rfl⟩
  obtain⟨v,rfl,_⟩:=se hd;exact⟨v,rfl⟩,λd=>hR C (some d) H1 M1 WK (λ_ _=>⟨fI,hi⟩) q1.2⟩⟩
variable {X:Cx}{b₀:Stmt}{Xy:List Stmt}{cn:Str}{cnp Yw epos:Pos}{Cc L:Addr}{te:Tt}{th:xk}
end L3
namespace L2
open PySem PySem.Spec PyProof.Rows
def ND{K:qr}{C C2 N fI:Addr}{nm q:Str}{bs sub:List Vl}{hdct ab:Bool}{sn:List Str}{col:Option Bool}{dd od1 od2 dd2:Option Addr}{k0 k1 k2 k3 k5:Option Vl}{oc1 oc2 c0:Vl}{es1 es2:Array DictEntry}{ep1 ep2:Nat}{sl1 sl2 VL:Array (Option Vl)}{cd2:ClassData}{oI:Obj} (l1:K.lookup C=some (excClassObj nm q C N bs (.ref C2::Nr) hdct sn sub ab col dd k0 k1 k2 k3 k5 "ValueError.__new__")) (n1:K.lookup N=some ⟨oc1,od1,.dict es1 ep1,sl1⟩) (s1:Cf es1=true) (i1:nsFind es1 "__init__"=some (.ref fI)) (l2:K.lookup C2=some ⟨c0,dd2,.cls cd2,VL⟩) (n2:K.lookup cd2.ns=some ⟨oc2,od2,.dict es2 ep2,sl2⟩) (s2:Cf es2=true) (i2:nsFind es2 "__init__"=none) (l3:K.lookup fI=some oI) (hf:W.isFn K (.ref fI)=true):IV K C fI:=by
 have hc:oI.cls=.type "function":=by have hf:=eY.mp hf;unfold W.typeIn at hf;simp only at hf;rw[l3]at hf;exact c9 hf
 refine⟨nm,q,N,bs,.ref C2::Nr,Nr,hdct,sn,sub,ab,col,dd,k0,k1,k2,k3,k5,"ValueError","ValueError","ValueError.__new__","ValueError.__new__","ValueError.__init__","ValueError.__init__",Nr,λn=>nsFind es1 n,kl,by decide+kernel,kl,?_,i1,λh X=>⟨X C _ l1,⟨_,es1,ep1,X N _ n1,rfl,Cq s1,λ_=>rfl⟩,.own (X C2 _ l2) ⟨_,es2,ep2,X _ _ n2,rfl,Cq s2,λ_=>rfl⟩ i2 .base,oI,X fI _ l3,hc⟩⟩;rw[iu];have:Nr.contains (.type "BaseException")=true:=by decide+kernel
 rw[this,kT]
def KP{K:qr}{C C2 N:Addr}{nm q f:Str}{bs sub:List Vl}{ab:Bool}{sn:List Str}{col:Option Bool}{dd:Option Addr}{k0 k1 k2 k3 k5:Option Vl}(l1:K.lookup C=some (excClassObj nm q C N bs (.ref C2::Nr) true sn sub ab col dd k0 k1 k2 k3 k5 "ValueError.__new__"))(sa:W.findIn K (.ref C) "__setattr__"=some (some (.builtin "object.__setattr__")))(tk:W.findIn K (.ref C) f=some none):yF K C f:=by refine⟨sa,⟨_,[C,C2],by unfold W.clsIn;rw[l1],rfl,rfl⟩,?_⟩;unfold W.takerIn;rw[tk];rfl
end L2
namespace L3
open PySem PySem.Spec PyProof.Rows L2
variable {X:Cx}{pos WL:Pos}{o e:Expr}{es:List Expr}{ta:T3}{t:xl}
structure FA where
 f:Addr
 d:FuncData
 p:List Str
structure DG(K:qr)(st:Stmt)(py qual:Str)(ps:List Str)(x:FA):Prop where
 pe:x.p=ps
 fn:Pe K py qual st x.f x.d
 b:uK K x.d x.p []
 ty:W.isFn K (.ref x.f)=true
structure TG(K:qr)(mg:Str->Option Vl)(st:Stmt)(py:Str)(ps:List Str)(x:FA):Prop extends DG K st py py ps x where
 mg:mg py=some (.ref x.f)
structure MG(K:qr)(C:Addr)(st:Stmt)(py qual:Str)(ps:List Str)(x:FA):Prop extends DG K st py qual ps x where
 at_:W.findIn K (.ref C) py=some (some (.ref x.f))
structure CG(K:qr)(mg:Str->Option Vl)(nm:Str)(C:Addr):Prop extends Cls K C where
 mg:mg nm=some (.ref C)
def DG.kp{K:qr}{st:Stmt}{py qual:Str}{ps:List Str}{x:FA}(h:DG K st py qual ps x):W.keepIn K (.ref x.f)=true:=h.fn.kp
def MG.m9{K:qr}{C:Addr}{st:Stmt}{py qual:Str}{ps:List Str}{x:FA}(h:MG K C st py qual ps x):vp K C py x.f:=⟨h.at_,h.ty,h.toDG.kp⟩
def yY(K:qr)(C:Addr)(fs:List Str):Prop:=∀f,fs.contains f=true->ud K C f
def tw{K:qr}{C:Addr}:yY K C []:=λf h=>by simp at h
def pO{K:qr}{C:Addr}{g:Str}{fs:List Str}(h:W.findIn K (.ref C) g=some none)(r:yY K C fs):yY K C (g::fs):=λf q=>by
 rw[iu,gP]at q;rcases q with q|q
 .rw[eq_of_beq q];exact h
 .exact r f q
abbrev Fq(P:Pg)(w:Wo)(K:qr)(mg:Str->Option Vl)(base:Heap)(k:Nat)(x:FA)(sp:rb):Prop:=SV P w K mg base k x.f x.d x.p sp
abbrev U7(P:Pg)(w:Wo)(K:qr)(mg:Str->Option Vl)(base:Heap)(k:Nat)(x:FA)(sp:Gp):Prop:=Q8 P w K mg base k x.f x.d x.p sp
def SE(N P:List Str)(sc:Scope):Bool:=sc.kind==.function&&(!sc.isCoroutine&&(!sc.isGenerator&&(decide N.Nodup&&(decide (N.take P.length=P)&&((P.all λx=>sc.names.lookup x==some .local||sc.names.lookup x==some .cell)&&sc.names.all λy=>!(y.2==.free))))))
def WE{N P:List Str}{sc:Scope}(h:SE N P sc=true):sV N P sc:=by
 unfold SE at h;simp only[dO,gD,eY,dY]at h;obtain⟨h1,h2,h3,h4,h5,h6,h7⟩:=h;refine⟨h1,h2,h3,h4,h5,λx hx=>?_,λy hy e=>?_⟩
 .have:=eA.mp h6 x hx
  simpa using this
 .have:=eA.mp h7 y hy;rw[e]at this;simp at this
variable {P:Pg}{w:Wo}{K:qr}{mg:Str→Option Vl}{base:Heap}
def U5{x qual:Str}{st:Stmt}{fa:FA}{N ps:List Str}{k:Nat}{sp:rb}(F:DG K st x qual ps fa)(S:sV N ps (qa st))(len:∀ds M Q,sp ds M Q->ds.length=ps.length) (W5:∀(WR:Vl) (A:Ar) (outer:List Env) (s:Sd) (H:Hp) (E:XK),rS k (A.deeper (envOfC qual (qa st) s.heap.objs.size fa.f WR))->
   ∃t,Hd (vb NH P w K mg base N qual (qa st) fa.f WR A outer s H E).oB (rM st) t/\∀ds M Q,sp ds M Q->t {nx:=λ_ M'=>∃WM,qm WM M'/\Q .mI WM,rt:=λd M'=>∃WM,qm WM M'/\Q d WM} (wA N ds) M):Fq P w K mg base (k+1) fa sp:=by
 unfold Fq;rw[F.pe];exact Ui F.fn S len W5
def Uw{x qual:Str}{st:Stmt}{fa:FA}{N ps:List Str}{k:Nat}{sp:Gp}(F:DG K st x qual ps fa)(S:sV N ps (qa st))(len:∀ds M Q R,sp ds M Q R->ds.length=ps.length) (W5:∀(WR:Vl) (A:Ar) (outer:List Env) (s:Sd) (H:Hp) (E:XK) (R:Addr->Mp->Prop),rS k (A.deeper (envOfC qual (qa st) s.heap.objs.size fa.f WR))->Tq K R E->
   ∃t,Hd (vb (BI P w) P w K mg base N qual (qa st) fa.f WR A outer s H E) (rM st) t/\∀ds M Q,sp ds M Q R->t {nx:=λ_ M'=>∃WM,qm WM M'/\Q .mI WM,rt:=λd M'=>∃WM,qm WM M'/\Q d WM} (wA N ds) M):U7 P w K mg base (k+1) fa sp:=by
 unfold U7;rw[F.pe];exact T1 F.fn S len W5
variable {k n:Nat}{f C:Addr}{fa:FA}{st:Stmt}{qual:Str}{ps:List Str}{sp:rb}{x m:Str}{p:Pos}
def pF(F:Fq X.prog X.w X.K X.mg X.base k fa sp)(hr:rS n X.A)(T:TG X.K X.mg st x ps fa)(ha:A3 X (e::es) t)(hn:k<=n:=by first|decide|omega)(hg:Gl X x:=by rfl)
  (W2:zG x:=by decide) (he:A9 X e es:=by rfl) (WY:CC X pos es:=by rfl):
  E3 X (.Call (.Name x p) (e::es) [] pos) (DT sp t):=PL F (hr.mono hn) hg T.mg T.toDG.kp T.b ha W2 he WY
def uF(F:Fq X.prog X.w X.K X.mg X.base k fa sp)(hr:rS n X.A)(c:CG X.K X.mg x C)(i:Mk X.K C fa.f)(T:DG X.K st m qual ps fa)(ha:A3 X (e::es) t)(hn:k+1<=n:=by first|decide|omega)(hg:Gl X x:=by rfl)
  (W2:zG x:=by decide) (he:A9 X e es:=by rfl) (WY:CC X pos es:=by rfl):
  E3 X (.Call (.Name x p) (e::es) [] pos) (QN C sp t):=O9 c.toCls i F (hr.mono hn) hg c.mg T.b ha W2 he WY
def pT{pl:Sem Bool}(he:E3 X o ta)(c:Cls X.K C)(T:MG X.K C st m qual ps fa)(F:Fq X.prog X.w X.K X.mg X.base k fa sp)(hr:rS n X.A)(ha:A3 X (e::es) t)(hn:k<=n:=by first|decide|omega)
  (W7:A9 X e es:=by rfl) (WY:CC X pos es:=by rfl)
  (ht:eval (.Call (.Attribute o m WL) (e::es) [] pos) X.env=(do
   let ov<-eval o X.env
   standAt WL.atName
   let(f,first)<-holding [ov] (getMethod ov m pl)
   callWith pos f first (backTo pos (starEach (e::es) X.env)) (backToKw pos (keywordEach [] X.env))):=by rfl):
  E3 X (.Call (.Attribute o m WL) (e::es) [] pos) (Ax m (λD s=>D=C/\s=sp) ta t):=
 EV (R:=λD s=>D=C/\s=sp) he (λD s ⟨e1,e2⟩=>by subst e1 e2;exact⟨c,_,_,_,T.m9,F,T.b⟩) (hr.mono hn) ha W7 WY ht
def vE{pl:Sem Bool}(he:E3 X o ta)(c:Cls X.K C)(T:MG X.K C st m qual ps fa)(F:Fq X.prog X.w X.K X.mg X.base k fa sp)(hr:rS n X.A)(hn:k<=n:=by first|decide|omega)
  (ht:eval (.Call (.Attribute o m WL) [] [] pos) X.env=(do
   let ov<-eval o X.env
   standAt WL.atName
   let(f,first)<-holding [ov] (getMethod ov m pl)
   callWith pos f first (backTo pos (starEach [] X.env)) (backToKw pos (keywordEach [] X.env))):=by rfl):
  E3 X (.Call (.Attribute o m WL) [] [] pos) (Ax m (λD s=>D=C/\s=sp) ta wY):=
 Ce (R:=λD s=>D=C/\s=sp) he (λD s ⟨e1,e2⟩=>by subst e1 e2;exact⟨c,_,_,_,T.m9,F,T.b⟩) (hr.mono hn) ht
def yE{pl:Sem Bool}(cm:LB X.K C m fa.f)(F:Fq X.prog X.w X.K X.mg X.base k fa sp)(hr:rS n X.A)(c:CG X.K X.mg x C)(T:DG X.K st m qual ps fa)(ha:A3 X (e::es) t)(hn:k<=n:=by first|decide|omega)(hg:Gl X x:=by rfl)
  (W2:zG x:=by decide) (W7:A9 X e es:=by rfl) (WY:CC X pos es:=by rfl)
  (ht:eval (.Call (.Attribute (.Name x p) m WL) (e::es) [] pos) X.env=(do
   let ov<-eval (.Name x p) X.env
   standAt WL.atName
   let(f,first)<-holding [ov] (getMethod ov m pl)
   callWith pos f first (backTo pos (starEach (e::es) X.env)) (backToKw pos (keywordEach [] X.env))):=by rfl):
  E3 X (.Call (.Attribute (.Name x p) m WL) (e::es) [] pos) (DT sp t):=O0 cm F (hr.mono hn) hg c.mg T.kp T.b ha W2 W7 WY ht
variable {h:Heap}{py:Str}{od an:Option Addr}{sl:Array (Option Vl)}{kv dc pm cd ct:Vl}
def JK{fd:FuncData}{oc:Vl}(l:K.lookup f=some ⟨oc,od,.func fd,sl⟩):W.keepIn K (.ref f)=true:=by unfold W.keepIn;simp only;rw[l]
def NU{fd:FuncData}(l:K.lookup f=some ⟨.type "function",od,.func fd,sl⟩):W.isFn K (.ref f)=true:=by unfold W.isFn W.typeIn;simp only;rw[l];rfl
abbrev mZ(py qual:Str)(st:Stmt)(ps:List Str):Prop:=∀(kV Xm pm:Vl) (an:Option Addr) (WR ct:Vl) (us:List Vl),us.length=ps.length->bindArgs (W.fnOf py qual (ul st) (rM st) (qa st) .none kV Xm pm an WR ct) ⟨us,[]⟩=pure (ps.zip us)
def QG(l:K.lookup f=some ⟨.type "function",od,.func (W.fnOf py qual (ul st) (rM st) (qa st) .none kv dc pm an cd ct),sl⟩)(k:W.codeIn K cd qual=true)(hb:mZ py qual st ps):
  DG K st py qual ps ⟨f,W.fnOf py qual (ul st) (rM st) (qa st) .none kv dc pm an cd ct,ps⟩:=⟨rfl,MB l k (JK l),(MB l k (JK l)).binds hb,NU l⟩
def ql(X:K.In h)(G:h.Ns mainGlobals mg)(a:W.nsIn K mainGlobals py=some (some (.ref f)))(l:K.lookup f=some ⟨.type "function",od,.func (W.fnOf py py (ul st) (rM st) (qa st) .none kv dc pm an cd ct),sl⟩)(k:W.codeIn K cd py=true)(hb:mZ py py st ps):
  TG K mg st py ps ⟨f,W.fnOf py py (ul st) (rM st) (qa st) .none kv dc pm an cd ct,ps⟩:=⟨QG l k hb,W.mg_of X G a⟩
def pY(a:W.findIn K (.ref C) py=some (some (.ref f)))(l:K.lookup f=some ⟨.type "function",od,.func (W.fnOf py qual (ul st) (rM st) (qa st) .none kv dc pm an cd ct),sl⟩)(k:W.codeIn K cd qual=true)(hb:mZ py qual st ps):
  MG K C st py qual ps ⟨f,W.fnOf py qual (ul st) (rM st) (qa st) .none kv dc pm an cd ct,ps⟩:=⟨QG l k hb,a⟩
def wb(X:K.In h)(G:h.Ns mainGlobals mg)(a:W.nsIn K mainGlobals py=some (some (.ref C)))(h1:W.plainGet K C Str.empty=true)(h2:W.hasDictIn K C=true)(h3:W.plainOver K C=true)(h4:W.findIn K (.ref C) "__setattr__"=some (some (.builtin "object.__setattr__"))):CG K mg py C:=⟨⟨h1,h2,h3,h4⟩,W.mg_of X G a⟩
def NM{x:Str}{a:Addr}{es:List DictEntry}{ep:Nat}{T:List (Str×List Str)}(h:mg x=some (.ref a))(s:(a==sysModules)=false)(l:K.lookup a=some ⟨.type "dict",none,.dict es.toArray ep,#[]⟩) (r:KTD.Rows (λ(ss:List Str) v=>∃t,v=Value.ref t/\uW K (λ_=>none) t (ss.map V.str)) es T):Nm K mg x T:=⟨a,_,_,_,h,s,l,⟨rfl,rfl,rfl⟩,rfl,by simpa using r⟩
def LH{P:Pg}{w:Wo}{base:Heap}{x qual y1 y2 fl:Str}{st:Stmt}{fa:FA}(F:DG K st x qual [y1,y2] fa)(S:sV [y1,y2] [y1,y2] (qa st)) (hb:∀(WR:Vl) (A:Ar) (outer:List Env) (s:Sd) (H:Hp) (E:XK),Co (vb (BI P w) P w K mg base [y1,y2] qual (qa st) fa.f WR A outer s H E) (rM st) (L8 K (Hn 0) (Hn 1) fl)):xh P w K mg base (BI P w) 1 fa.f fa.d fa.p (wj K fl):=by
 rw[F.pe];exact Nz F.fn S hb
def Tb(ds:List D)(M:Mp)(Q:DK):Prop:=match ds with
 | [.ref a]=>(oS M a).elim False λes=>(FT es).elim False λbs=>Q (.bl (bs.any id)) M
 | _=>False
def RS(hc:X.calm=true):C3 X (.builtin "any") Tb:=by
 intro WI s σ H vs us Q' I rv h;obtain⟨ds,M,Q,hd,hm,q,k⟩:=h;unfold Tb at q;split at q
 .rename_i a;obtain⟨v,rfl,hv⟩:=se hd;obtain⟨es,e0,q⟩:=qX q;obtain⟨bs,e1,q⟩:=qX q;cases hv.mG;obtain⟨u,rfl,ru⟩:=yq rv;cases ru;obtain⟨xs,h1,h2,_⟩:=qw hm e0;obtain⟨its,r,pl,hz⟩:=I.list h1;have ZQ:=Et e1 h2 r;subst ZQ;have W8:a≠s.heap.objs.size:=by obtain⟨o,_,e,_⟩:=pl;exact dB (dh e)
  refine call_any_walk (gT pl.isList ?_);refine⟨s.heap.objs.size,_,_,_,_,_,λi=>(bs[i]?).getD false,rfl,kg (A:=X.A.in1) (I.ok.hd hc) _ a W8 (bs.map Value.bool).toArray,⟨⟨_,dA _ rfl,rfl,rfl⟩,?_⟩,λi v s' Q E hP hQ=>?_,λh' tk hk=>?_⟩
  .obtain⟨o,n,e,c,d,q⟩:=pl;exact⟨o,cW _ e,c,n,q⟩
  .simp only[iJ,dq]at hP;cases e2:bs[i]? with
   | none=>rw[e2]at hP;cases hP
   | some b=>rw[e2]at hP;cases hP;have hQ:Q ((bs[i]?).getD false) s':=hQ;rw[e2]at hQ;exact fg hQ
  .have ea:(List.range (bs.map Value.bool).toArray.size).any (λi=>(bs[i]?).getD false)=bs.any id:=by
    rw[dg,cQ];rw[gi,gx,gx];constructor
    .rintro ⟨i,hi,z⟩
     have Yi:=gb.mp hi;rw[cU Yi]at z;exact⟨_,hW Yi,z⟩
    .rintro ⟨b,hb,z⟩
     obtain⟨i,hi,e⟩:=gL hb;refine⟨i,gb.mpr hi,?_⟩;rw[cU hi,e];exact z
   rw[ea];refine⟨.bl (bs.any id),H,?_,rfl,k _ _ _ _ .bl hm .refl q⟩;exact I.kept (h':=h') (t':=tk) λb o e=>hk b o (by simpa using dB (dh e)) (cW _ e)
 .exact q.elim
def Rn:bootBuiltins "any"=some (.builtin "any"):=by decide+kernel
end L3
namespace L3
open PySem PySem.Spec PyProof.Rows L2
def KB(i:Nat){X:Cx}{pos:Pos}{x:Str}(h1:X.N[i]?=some x:=by rfl)(h2:UF X.env.scope x:=by first|exact Or.inl rfl|exact Or.inr (Or.inl rfl)|exact Or.inr (Or.inr rfl))(h3:zG x:=by decide)(h4:(x==("__classdict__":Str))=false:=by decide):E3 X (.Name x pos) (v3 i):=QP i (pv i h1 h2 h3 h4)
variable {X:Cx}{pos:Pos}
def Wt{N:List Str}(h:decide N.Nodup=true):N.Nodup:=fN h
def pK(i:Nat){x:Str}{e:Expr}{te:T3}{WQ:Pos}{ps:List Str}{sc:Scope}(S:sV X.N ps sc)(he:E3 X e te)(hi:X.N[i]?=some x:=by rfl)(hx:KW X.env.scope x:=by first|exact Or.inl rfl|exact Or.inr rfl)(Xw:swapsWith e (some (.Name x WQ)) pos.line X.env=pure false:=by rfl)(hf:KS X x:=by first|exact .inl rfl|exact .inr rfl|assumption):S3 X (.Assign [.Name x WQ] e pos) (Gk te (ue i)):=Sn S.nd hi hx he Xw hf
def rW(i:Nat){x:Str}{ps:List Str}{sc:Scope}(S:sV X.N ps sc)(hi:X.N[i]?=some x:=by rfl)(hx:KW X.env.scope x:=by first|exact Or.inl rfl|exact Or.inr rfl)(hf:KS X x:=by first|exact .inl rfl|exact .inr rfl|assumption):G3 X (.Name x pos) (ue i):=Js S.nd hi hx hf
def qA(i:Nat){x:Str}(hN:decide X.N.Nodup=true:=by kernel_rfl)(hi:X.N[i]?=some x:=by rfl)(hx:KW X.env.scope x:=by first|exact Or.inl rfl|exact Or.inr rfl)(hf:KS X x:=by first|exact .inl rfl|exact .inr rfl|assumption):G3 X (.Name x pos) (ue i):=Js (Wt hN) hi hx hf
abbrev Sc(n:Nat)(N:List Str)(s:Stmt):=sV N (N.take n) (qa s)
def sk{n:Nat}{N:List Str}{s:Stmt}(h:SE N (N.take n) (qa s)=true:=by decide+kernel):Sc n N s:=WE h
def qb{X:Cx}{e0:Expr}{t0:T3}(h0:E3 X e0 t0)(g0:starEach [e0] X.env=(false,eval e0 X.env)::starEach [] X.env:=by rfl):A3 X [e0] (ve t0 wY):=(pX h0 sF g0)
def rP{X:Cx}{e0 e1:Expr}{t0 t1:T3}(h0:E3 X e0 t0)(h1:E3 X e1 t1)(g0:starEach [e0,e1] X.env=(false,eval e0 X.env)::starEach [e1] X.env:=by rfl)(g1:starEach [e1] X.env=(false,eval e1 X.env)::starEach [] X.env:=by rfl):A3 X [e0,e1] (ve t0 (ve t1 wY)):=(pX h0 (pX h1 sF g1) g0)
def ra{X:Cx}{e0 e1 e2:Expr}{t0 t1 t2:T3}(h0:E3 X e0 t0)(h1:E3 X e1 t1)(h2:E3 X e2 t2)(g0:starEach [e0,e1,e2] X.env=(false,eval e0 X.env)::starEach [e1,e2] X.env:=by rfl)(g1:starEach [e1,e2] X.env=(false,eval e1 X.env)::starEach [e2] X.env:=by rfl)(g2:starEach [e2] X.env=(false,eval e2 X.env)::starEach [] X.env:=by rfl):A3 X [e0,e1,e2] (ve t0 (ve t1 (ve t2 wY))):=(pX h0 (pX h1 (pX h2 sF g2) g1) g0)
abbrev v0:=@KB 0
abbrev U1:=@KB 1
abbrev U2:=@KB 2
abbrev U3:=@KB 3
abbrev v5:=@KB 5
abbrev v4:=@KB 4
abbrev v6:=@KB 6
abbrev v7:=@KB 7
abbrev v8:=@KB 8
abbrev v9:=@KB 9
abbrev Wr:=@KB 10
abbrev UQ:=@KB 11
abbrev VV:=@KB 12
variable {P:Pg}{w:Wo}{K:qr}{mg:Str→Option Vl}{base:Heap}
def fq{x qual:Str}{st:Stmt}{fa:FA}{N ps:List Str}{k:Nat}{sp:rb}(F:DG K st x qual ps fa)(S:sV N ps (qa st)) (hb:∀{WR:Vl} {A:Ar} {outer:List Env} {s:Sd} {H:Hp} {E:XK},rS k (A.deeper (envOfC qual (qa st) s.heap.objs.size fa.f WR))->(A.deeper (envOfC qual (qa st) s.heap.objs.size fa.f WR)).units+9<cLine->
   ∃t,Hd (vb NH P w K mg base N qual (qa st) fa.f WR A outer s H E).oB (rM st) t/\∀ds M Q,sp ds M Q->t {nx:=λ_ M'=>∃WM,qm WM M'/\Q .mI WM,rt:=λd M'=>∃WM,qm WM M'/\Q d WM} (wA N ds) M) (len:∀ds M Q,sp ds M Q->ds.length=ps.length:=by walk_at "l"):Fq P w K mg base (k+1) fa sp:=U5 F S len λ_ _ _ _ _ _ h=>hb h (V9 h)
def xQ{X:Cx}{scope:Scope}{ix:List (Option Nat)}{N':List Str}(h:Hr X.env.scope X.N scope ix N'=true:=by kernel_rfl):r6 X scope ix N':=Um h
end L3
namespace Z
open PySem PySem.Spec PyProof.Rows L2 L3
def qW(i:Nat):Stmt:=PySem.Challenge.pw_callboard_k52_beginnings_of_logs.main.body.getD i (.Pass ⟨0,0,0,0⟩)
abbrev tm(i j:Nat):Stmt:=OV (qW i) j
def Ag:Sc 1 ["answers"] (qW 1):=sk
def GS:Sc 2 ["call","word"] (qW 3):=sk
def Dk:Sc 2 ["call","phone"] (qW 4):=sk
def xP:Sc 2 ["call","event","word"] (qW 5):=sk
def xf:Sc 1 ["call","lists"] (qW 7):=sk
def BQ:Sc 1 ["board","calls"] (qW 8):=sk
def xy:Sc 3 ["plan","hour","log","board","event"] (qW 10):=sk
def B9:Sc 3 ["board","caller","target","wishes"] (qW 16):=sk
def tF:Sc 3 ["board","caller","target","free","members","place","in_turn"] (qW 17):=sk
def uT:Sc 3 ["board","caller","target","phones"] (qW 18):=sk
def zW:Sc 2 ["wanted","target"] (qW 19):=sk
def wk:Sc 4 ["board","caller","target","way","come_to","steps","fits","wanted"] (qW 20):=sk
def yD:Sc 2 ["board","phone"] (qW 22):=sk
def wg:Sc 3 ["board","phone","target","word"] (qW 23):=sk
def LN:Sc 3 ["word","phone","calls"] (qW 24):=sk
def tQ:Sc 4 ["board","word","phone","numbers","calls","due"] (qW 25):=sk
def yy:Sc 3 ["board","word","number"] (qW 26):=sk
def Ca:Sc 2 ["board","deed","word"] (qW 27):=sk
def tU:Sc 3 ["board","number","steps","last","target","fits"] (qW 28):=sk
def uB:Sc 4 ["board","number","target","phones","members","place"] (qW 29):=sk
def xo:Sc 3 ["board","number","target","talk","members"] (qW 30):=sk
def xO:Sc 3 ["board","number","end","word"] (qW 31):=sk
def vX:Sc 2 ["board","number","call","told","end","steps","last"] (qW 32):=sk
def zo:Sc 3 ["board","phone","target","number"] (qW 33):=sk
def Bp:Sc 3 ["board","phone","number","call"] (qW 34):=sk
def yl:Sc 2 ["board","call","wishes"] (qW 35):=sk
def Cm:Sc 3 ["board","number","fits","wish"] (qW 36):=sk
def tJ:Sc 1 ["board","number","call","fits"] (qW 37):=sk
def tE:Sc 2 ["board","deed","word","phone","number","call","kept","others"] (qW 38):=sk
def MU:Sc 2 ["board","deed","word"] (qW 39):=sk
def Ih:Sc 2 ["board","deed","word","begun"] (qW 40):=sk
def Hl:Sc 3 ["board","caller","target"] (qW 42):=sk
def BX:Sc 1 ["told","word"] (qW 53):=sk
def OD:Sc 2 ["holds","words"] (qW 68):=sk
def HL:Sc 1 ["text"] (qW 69):=sk
def CP:Sc 1 ["things"] (qW 70):=sk
def Fl:Sc 3 ["chosen","known","most"] (qW 71):=sk
def tY:Sc 1 ["phones","name","lines","rank"] (qW 72):=sk
def tX:Sc 2 ["groups","phone_names","name","manner","members"] (qW 73):=sk
def CH:Sc 4 ["kind","part","phone_names","names"] (qW 74):=sk
def tT:Sc 3 ["wish","phone_names","names","form","parts","kind","part"] (qW 75):=sk
def uO:Sc 3 ["wishes","phone_names","names","on","wish"] (qW 76):=sk
def vP:Sc 3 ["phones","groups","wishes","phone_names","names"] (qW 77):=sk
def KQ:Sc 2 ["_law_script","_law_k"] (qW 80):=sk
def GB:Sc 3 ["_law_cell","_law_factor","_law_many"] (qW 81):=sk
def uf:Sc 2 ["_law_seed","_law_which","_law_letters","_law_size","_law_place","_law_rest","_law_sign"] (qW 82):=sk
def xN:Sc 3 ["_law_row","_law_cell","_law_most","_law_first","_law_size"] (qW 83):=sk
def uJ:Sc 2 ["_law_seed","_law_most","_law_phones_here","_law_k","_law_lines"] (qW 84):=sk
def uI:Sc 2 ["_law_seed","_law_own","_law_groups_here","_law_g","_law_manner"] (qW 85):=sk
def tD:Sc 3 ["_law_cell","_law_own","_law_names","_law_a","_law_place","_law_b","_law_c","_law_pick","_law_first"] (qW 86):=sk
def sd:Sc 2 ["_law_script","_law_most","_law_seed","_law_phones_here","_law_own","_law_groups_here","_law_names","_law_wishes","_law_k","_law_cell"] (qW 87):=sk
def CN:Sc 1 ["_law_call"] (qW 88):=sk
def AF:Sc 2 ["_law_board","_law_states"] (qW 89):=sk
def rC:Sc 4 ["_law_board","_law_cell","_law_word_here","_law_states","_law_some_here","_law_k","_law_people_here","_law_a","_law_m"] (qW 90):=sk
def uA:Sc 4 ["_law_cell","_law_own","_law_names","_law_many","_law_a","_law_b","_law_k","_law_m","_law_some_here"] (qW 91):=sk
def rB:Sc 4 ["_law_board","_law_cell","_law_own","_law_names","_law_word_here","_law_states","_law_found","_law_a"] (qW 92):=sk
def GJ:Sc 1 ["_law_parts"] (qW 93):=sk
def F4:Sc 1 ["_law_script"] (qW 94):=sk
def vA:Sc 2 ["_law_board","_law_deed_here","_law_events"] (qW 95):=sk
def Ga:Sc 3 ["_law_board","_law_script","_law_k"] (qW 96):=sk
def uC:Sc 1 ["_law_script","_law_parts","_law_hour_here","_law_board","_law_shots","_law_k","_law_other","_law_shown","_law_event","_law_many","_law_places","_law_place","_law_found"] (qW 98):=sk
def Bs:Sc 2 ["self","word"] (tm 14 0):=sk
def C9:Sc 3 ["self","plan","hour"] (tm 6 0):=sk
def xB:Sc 2 ["self","event","word"] (tm 6 12):=sk
def Ed:Sc 4 ["self","phones","groups","wishes"] (tm 78 0):=sk
def ye:Sc 1 ["self"] (tm 78 2):=sk
def C8:Sc 1 ["self"] (tm 78 1):=sk
def D0:Sc 2 ["self","caller"] (tm 2 0):=sk
def zP:Sc 2 ["self","leg"] (tm 6 10):=sk
def xp:Sc 4 ["self","merged","kept","members","call"] (tm 6 11):=sk
def uZ:Sc 1 ["self","call"] (tm 6 9):=sk
def G0:Sc 2 ["self","told"] (tm 44 0):=sk
def EY:Sc 2 ["self","told"] (tm 45 0):=sk
def AH:Sc 2 ["self","told"] (tm 46 0):=sk
def CZ:Sc 2 ["self","told"] (tm 48 0):=sk
def Bt:Sc 2 ["self","told"] (tm 50 0):=sk
def Eo:Sc 2 ["self","told"] (tm 51 0):=sk
def Cn:Sc 2 ["self","told"] (tm 52 0):=sk
def zK:Sc 2 ["self","phone"] (tm 6 2):=sk
def yQ:Sc 2 ["self","phone"] (tm 2 5):=sk
def yj:Sc 2 ["self","phone"] (tm 2 4):=sk
def yO:Sc 2 ["self","phone"] (tm 2 8):=sk
def zN:Sc 2 ["self","phone"] (tm 6 3):=sk
def Fy:Sc 2 ["self","told"] (tm 43 0):=sk
def Cv:Sc 2 ["self","phone"] (tm 6 4):=sk
def zT:Sc 2 ["self","phone"] (tm 6 5):=sk
def Dc:Sc 2 ["self","phone"] (tm 6 1):=sk
def CV:Sc 2 ["self","phone"] (tm 78 3):=sk
def wO:Sc 2 ["self","phone"] (tm 2 7):=sk
def CK:Sc 2 ["self","phone"] (tm 2 6):=sk
def BL:Sc 2 ["self","call"] (tm 43 4):=sk
def zQ:Sc 2 ["self","call"] (tm 50 2):=sk
def Ee:Sc 1 ["self"] (tm 43 1):=sk
def yH:Sc 2 ["self","phone"] (tm 2 2):=sk
def CQ:Sc 2 ["self","phone"] (tm 2 3):=sk
def G4:Sc 2 ["self","phone"] (tm 2 1):=sk
def FF:Sc 1 ["self"] (tm 44 1):=sk
def C0:Sc 1 ["self"] (tm 45 1):=sk
def z9:Sc 1 ["self"] (tm 46 1):=sk
def Dj:Sc 1 ["self"] (tm 51 1):=sk
def Az:Sc 1 ["self"] (tm 52 1):=sk
def Gx:Sc 4 ["self","board","caller","target"] (tm 44 2):=sk
def Ew:Sc 4 ["self","board","caller","target"] (tm 45 2):=sk
def Cu:Sc 4 ["self","board","caller","target"] (tm 47 0):=sk
def CY:Sc 4 ["self","board","caller","target"] (tm 48 2):=sk
def Er:Sc 4 ["self","board","caller","target"] (tm 49 0):=sk
def Cg:Sc 4 ["self","board","caller","target"] (tm 50 1):=sk
def FC:Sc 4 ["self","board","caller","target"] (tm 51 2):=sk
def vj:Sc 4 ["self","board","caller","target","talk","members"] (tm 52 3):=sk
def Bu:Sc 2 ["self","name"] (tm 78 6):=sk
def zx:Sc 2 ["self","name"] (tm 78 5):=sk
def zq:Sc 2 ["self","hour"] (tm 48 1):=sk
def zb:Sc 1 ["self"] (tm 6 8):=sk
def zA:Sc 2 ["self","phone"] (tm 6 6):=sk
def vi:Sc 3 ["self","plan","members","rank"] (tm 52 2):=sk
def zm:Sc 3 ["self","caller","target"] (tm 6 7):=sk
def Ea:Sc 2 ["self","phone"] (tm 78 4):=sk
noncomputable def Kj:List (Str×List Str):=[("bar",["phone","names"]),("shut",["name","phones"]),("always",["name","name"]),("night",["name","name","hour","hour"]),("busy",["name","name"]),("silent",["name","name","turns"]),("wait",["phone"]),("breaks",["phone"])]
set_option genInjectivity false in
structure Ad where
 (P ad aQ aR aS L aT aU aV aW aX aY ae aZ a0 a1 a2 a3 a4 a5 a6 a7 af a8 a9 ba bb bc bd be Q R bf m ag ah S bg bh bi bj bk bl H i ai T bm bn bo bp bq br bs bt bu U bv bw bx aj I M k ak N al am bz bA bB an ao B ap aq ar au V av X aw Y F bC bD bE bF bG ax q ay l Z bH bI az aA A aB aC aD aE aF aG aH aI aJ aK aL aa bJ bK bL bM aM aN:FA)
 (e c C t u ab x n y v w o h b3 J:Addr)
structure Gl(K:qr)(mg:Str->Option Vl)(a:Ad):Prop where
 e:CG K mg "Call" a.e
 c:CG K mg "Board" a.c
 C:CG K mg "Wish" a.C
 t:CG K mg "Bar" a.t
 u:CG K mg "Shut" a.u
 ab:CG K mg "Forward" a.ab
 x:CG K mg "Always" a.x
 n:CG K mg "Night" a.n
 y:CG K mg "Busy" a.y
 v:CG K mg "Silent" a.v
 w:CG K mg "Wait" a.w
 o:CG K mg "Breaks" a.o
 h:CG K mg "Plan" a.h
 cP:mg "CallError"=some (.ref a.b3)
 bW:mg "NoDeed"=some (.ref a.J)
 P:TG K mg (qW 1) "place_of_true" ["answers"] a.P
 ad:TG K mg (qW 3) "end_call" ["call","word"] a.ad
 aQ:TG K mg (qW 4) "drop_phone" ["call","phone"] a.aQ
 aR:TG K mg (qW 5) "change_call" ["call","event"] a.aR
 aS:TG K mg (qW 7) "call_picture" ["call"] a.aS
 L:TG K mg (qW 8) "picture" ["board"] a.L
 aT:TG K mg (qW 10) "replayed" ["plan","hour","log"] a.aT
 aU:TG K mg (qW 16) "fitting" ["board","caller","target"] a.aU
 aV:TG K mg (qW 17) "rung_phones" ["board","caller","target"] a.aV
 aW:TG K mg (qW 18) "end_without_wish" ["board","caller","target"] a.aW
 aX:TG K mg (qW 19) "end_as_wanted" ["wanted","target"] a.aX
 aY:TG K mg (qW 20) "route" ["board","caller","target","way"] a.aY
 ae:TG K mg (qW 22) "word_for_idling" ["board","phone"] a.ae
 aZ:TG K mg (qW 23) "word_for_call" ["board","phone","target"] a.aZ
 a0:TG K mg (qW 24) "suits" ["word","phone","calls"] a.a0
 a1:TG K mg (qW 25) "word_for_numbers" ["board","word","phone","numbers"] a.a1
 a2:TG K mg (qW 26) "word_for_switch" ["board","word","number"] a.a2
 a3:TG K mg (qW 27) "refusal" ["board","deed"] a.a3
 a4:TG K mg (qW 28) "take_steps" ["board","number","steps"] a.a4
 a5:TG K mg (qW 29) "start_ringing" ["board","number","target","phones"] a.a5
 a6:TG K mg (qW 30) "break_in" ["board","number","target"] a.a6
 a7:TG K mg (qW 31) "come_to_end" ["board","number","end"] a.a7
 af:TG K mg (qW 32) "go_on" ["board","number"] a.af
 a8:TG K mg (qW 33) "make_call" ["board","phone","target"] a.a8
 a9:TG K mg (qW 34) "hang_up" ["board","phone","number"] a.a9
 ba:TG K mg (qW 35) "due_wishes" ["board","call"] a.ba
 bb:TG K mg (qW 36) "send_on" ["board","number","fits"] a.bb
 bc:TG K mg (qW 37) "let_turn_pass" ["board"] a.bc
 bd:TG K mg (qW 38) "event_of" ["board","deed"] a.bd
 be:TG K mg (qW 39) "act" ["board","deed"] a.be
 Q:TG K mg (qW 40) "do" ["board","deed"] a.Q
 R:TG K mg (qW 42) "is_busy" ["board","caller","target"] a.R
 bf:TG K mg (qW 53) "wish_of" ["told"] a.bf
 m:TG K mg (qW 68) "need" ["holds","words"] a.m
 ag:TG K mg (qW 69) "is_name" ["text"] a.ag
 ah:TG K mg (qW 70) "all_unlike" ["things"] a.ah
 S:TG K mg (qW 71) "is_choice" ["chosen","known","most"] a.S
 bg:TG K mg (qW 72) "check_phones" ["phones"] a.bg
 bh:TG K mg (qW 73) "check_groups" ["groups","phone_names"] a.bh
 bi:TG K mg (qW 74) "part_holds" ["kind","part","phone_names","names"] a.bi
 bj:TG K mg (qW 75) "check_wish" ["wish","phone_names","names"] a.bj
 bk:TG K mg (qW 76) "check_wishes" ["wishes","phone_names","names"] a.bk
 bl:TG K mg (qW 77) "check_plan" ["phones","groups","wishes"] a.bl
 H:TG K mg (qW 80) "_law_at" ["_law_script","_law_k"] a.H
 i:TG K mg (qW 81) "_law_draw" ["_law_cell","_law_factor","_law_many"] a.i
 ai:TG K mg (qW 82) "_law_word" ["_law_seed","_law_which"] a.ai
 T:TG K mg (qW 83) "_law_some" ["_law_row","_law_cell","_law_most"] a.T
 bm:TG K mg (qW 84) "_law_phones" ["_law_seed","_law_most"] a.bm
 bn:TG K mg (qW 85) "_law_groups" ["_law_seed","_law_own"] a.bn
 bo:TG K mg (qW 86) "_law_wish" ["_law_cell","_law_own","_law_names"] a.bo
 bp:TG K mg (qW 87) "_law_plan" ["_law_script","_law_most"] a.bp
 bq:TG K mg (qW 88) "_law_people" ["_law_call"] a.bq
 br:TG K mg (qW 89) "_law_of_state" ["_law_board","_law_states"] a.br
 bs:TG K mg (qW 90) "_law_on_call" ["_law_board","_law_cell","_law_word_here","_law_states"] a.bs
 bt:TG K mg (qW 91) "_law_any" ["_law_cell","_law_own","_law_names","_law_many"] a.bt
 bu:TG K mg (qW 92) "_law_deed" ["_law_board","_law_cell","_law_own","_law_names"] a.bu
 U:TG K mg (qW 93) "_law_made" ["_law_parts"] a.U
 bv:TG K mg (qW 94) "_law_hour" ["_law_script"] a.bv
 bw:TG K mg (qW 95) "_law_done" ["_law_board","_law_deed_here"] a.bw
 bx:TG K mg (qW 96) "_law_next" ["_law_board","_law_script","_law_k"] a.bx
 aj:TG K mg (qW 98) "law" ["_law_script"] a.aj
 I:MG K a.J (tm 14 0) "__init__" "NoDeed.__init__" ["self","word"] a.I
 M:MG K a.c (tm 6 0) "__init__" "Board.__init__" ["self","plan","hour"] a.M
 k:MG K a.c (tm 6 12) "apply" "Board.apply" ["self","event"] a.k
 ak:MG K a.h (tm 78 0) "__init__" "Plan.__init__" ["self","phones","groups","wishes"] a.ak
 N:MG K a.h (tm 78 2) "phone_names" "Plan.phone_names" ["self"] a.N
 al:MG K a.h (tm 78 1) "names" "Plan.names" ["self"] a.al
 am:MG K a.e (tm 2 0) "__init__" "Call.__init__" ["self","caller"] a.am
 bz:MG K a.c (tm 6 10) "add_leg" "Board.add_leg" ["self","leg"] a.bz
 bA:MG K a.c (tm 6 11) "merge" "Board.merge" ["self","merged","kept","members"] a.bA
 bB:MG K a.c (tm 6 9) "pass_turn" "Board.pass_turn" ["self"] a.bB
 an:MG K a.t (tm 44 0) "__init__" "Bar.__init__" ["self","told"] a.an
 ao:MG K a.u (tm 45 0) "__init__" "Shut.__init__" ["self","told"] a.ao
 B:MG K a.ab (tm 46 0) "__init__" "Forward.__init__" ["self","told"] a.B
 ap:MG K a.n (tm 48 0) "__init__" "Night.__init__" ["self","told"] a.ap
 aq:MG K a.v (tm 50 0) "__init__" "Silent.__init__" ["self","told"] a.aq
 ar:MG K a.w (tm 51 0) "__init__" "Wait.__init__" ["self","told"] a.ar
 au:MG K a.o (tm 52 0) "__init__" "Breaks.__init__" ["self","told"] a.au
 V:MG K a.c (tm 6 2) "is_free" "Board.is_free" ["self","phone"] a.V
 av:MG K a.e (tm 2 5) "waits_with" "Call.waits_with" ["self","phone"] a.av
 X:MG K a.e (tm 2 4) "is_tried_by" "Call.is_tried_by" ["self","phone"] a.X
 aw:MG K a.e (tm 2 8) "other_than" "Call.other_than" ["self","phone"] a.aw
 Y:MG K a.c (tm 6 3) "talk_of" "Board.talk_of" ["self","phone"] a.Y
 F:MG K a.C (tm 43 0) "__init__" "Wish.__init__" ["self","told"] a.F
 bC:MG K a.c (tm 6 4) "bound" "Board.bound" ["self","phone"] a.bC
 bD:MG K a.c (tm 6 5) "calling" "Board.calling" ["self","phone"] a.bD
 bE:MG K a.c (tm 6 1) "used" "Board.used" ["self","phone"] a.bE
 bF:MG K a.h (tm 78 3) "lines" "Plan.lines" ["self","phone"] a.bF
 bG:MG K a.e (tm 2 7) "can_be_left_by" "Call.can_be_left_by" ["self","phone"] a.bG
 ax:MG K a.e (tm 2 6) "pairs" "Call.pairs" ["self","phone"] a.ax
 q:MG K a.C (tm 43 4) "is_due" "Wish.is_due" ["self","call"] a.q
 ay:MG K a.v (tm 50 2) "is_due" "Silent.is_due" ["self","call"] a.ay
 l:MG K a.C (tm 43 1) "told" "Wish.told" ["self"] a.l
 Z:MG K a.e (tm 2 2) "talks_with" "Call.talks_with" ["self","phone"] a.Z
 bH:MG K a.e (tm 2 3) "binds" "Call.binds" ["self","phone"] a.bH
 bI:MG K a.e (tm 2 1) "has" "Call.has" ["self","phone"] a.bI
 az:MG K a.t (tm 44 1) "wants" "Bar.wants" ["self"] a.az
 aA:MG K a.u (tm 45 1) "wants" "Shut.wants" ["self"] a.aA
 A:MG K a.ab (tm 46 1) "wants" "Forward.wants" ["self"] a.A
 aB:MG K a.w (tm 51 1) "wants" "Wait.wants" ["self"] a.aB
 aC:MG K a.o (tm 52 1) "wants" "Breaks.wants" ["self"] a.aC
 aD:MG K a.t (tm 44 2) "fits" "Bar.fits" ["self","board","caller","target"] a.aD
 aE:MG K a.u (tm 45 2) "fits" "Shut.fits" ["self","board","caller","target"] a.aE
 aF:MG K a.x (tm 47 0) "fits" "Always.fits" ["self","board","caller","target"] a.aF
 aG:MG K a.n (tm 48 2) "fits" "Night.fits" ["self","board","caller","target"] a.aG
 aH:MG K a.y (tm 49 0) "fits" "Busy.fits" ["self","board","caller","target"] a.aH
 aI:MG K a.v (tm 50 1) "fits" "Silent.fits" ["self","board","caller","target"] a.aI
 aJ:MG K a.w (tm 51 2) "fits" "Wait.fits" ["self","board","caller","target"] a.aJ
 aK:MG K a.o (tm 52 3) "fits" "Breaks.fits" ["self","board","caller","target"] a.aK
 aL:MG K a.h (tm 78 6) "manner" "Plan.manner" ["self","name"] a.aL
 aa:MG K a.h (tm 78 5) "phones_of" "Plan.phones_of" ["self","name"] a.aa
 bJ:MG K a.n (tm 48 1) "has_hour" "Night.has_hour" ["self","hour"] a.bJ
 bK:MG K a.c (tm 6 8) "hour_now" "Board.hour_now" ["self"] a.bK
 bL:MG K a.c (tm 6 6) "waits_at" "Board.waits_at" ["self","phone"] a.bL
 bM:MG K a.o (tm 52 2) "outranks" "Breaks.outranks" ["self","plan","members"] a.bM
 aM:MG K a.c (tm 6 7) "ringable" "Board.ringable" ["self","caller","target"] a.aM
 aN:MG K a.h (tm 78 4) "rank" "Plan.rank" ["self","phone"] a.aN
 b4:IV K a.J a.I.f
 b5:yF K a.J "word"
 b6:W.exmOne K (.ref a.J) (.ref a.J)=some true
 bP:Mk K a.c a.M.f
 b7:Mk K a.h a.ak.f
 b8:Mk K a.e a.am.f
 b9:Mk K a.t a.an.f
 ca:Mk K a.u a.ao.f
 cb:Mk K a.x a.B.f
 cc:Mk K a.n a.ap.f
 cd:Mk K a.y a.B.f
 ce:Mk K a.v a.aq.f
 cf:Mk K a.w a.ar.f
 cg:Mk K a.o a.au.f
 ch:vp K a.t "is_due" a.q.f
 ci:vp K a.u "is_due" a.q.f
 cj:vp K a.x "is_due" a.q.f
 ck:vp K a.n "is_due" a.q.f
 cl:vp K a.y "is_due" a.q.f
 cm:vp K a.w "is_due" a.q.f
 cn:vp K a.o "is_due" a.q.f
 co:vp K a.t "told" a.l.f
 cp:vp K a.u "told" a.l.f
 cq:vp K a.x "told" a.l.f
 cr:vp K a.n "told" a.l.f
 cs:vp K a.y "told" a.l.f
 ct:vp K a.v "told" a.l.f
 cu:vp K a.w "told" a.l.f
 cv:vp K a.o "told" a.l.f
 cw:vp K a.x "wants" a.A.f
 cx:vp K a.n "wants" a.A.f
 cy:vp K a.y "wants" a.A.f
 cz:vp K a.v "wants" a.A.f
 aO:LB K a.C "__init__" a.F.f
 bX:LB K a.ab "__init__" a.B.f
 E:yY K a.c ["plan","hour","turn","calls","legs","nexts","on","log"]
 ac:yY K a.h ["phones","groups","wishes","on","phone_rows","group_rows"]
 j:yY K a.e ["state","caller","way","at","members","holder","since","word"]
 bQ:yY K a.t ["form","phone","targets"]
 bR:yY K a.u ["form","target","callers"]
 bS:yY K a.x ["form","target","goal"]
 aP:yY K a.n ["form","target","goal","first","last"]
 bT:yY K a.y ["form","target","goal"]
 bN:yY K a.v ["form","target","goal","turns"]
 bY:yY K a.w ["form","phone"]
 bZ:yY K a.o ["form","phone"]
 r:mg "list"=none
 g:mg "len"=none
 O:mg "range"=none
 b0:mg "min"=none
 z:mg "tuple"=none
 cA:mg "sorted"=none
 bU:mg "dict"=none
 bO:mg "all"=none
 bV:mg "enumerate"=none
 cB:mg "set"=none
 cC:mg "zip"=none
 cD:mg "any"=none
 cE:KD K mg "MOST_PHONES" (.int 8)
 cF:KD K mg "MOST_LINES" (.int 3)
 cG:KD K mg "MOST_RANK" (.int 9)
 cH:KD K mg "MOST_GROUPS" (.int 3)
 cI:KD K mg "MANNERS" (.tup ((["all","turns"]:List Str).map D.str))
 cJ:KD K mg "MOST_MEMBERS" (.int 4)
 cK:KD K mg "MOST_WISHES" (.int 16)
 cL:KD K mg "MOST_SIGNS" (.int 6)
 cM:KD K mg "LETTERS" (.str "abcdefghijklmnopqrstuvwxyz")
 b1:Nm K mg "FORMS" Kj
 b2:KD K mg "MOST_LISTED" (.int 6)
 cN:KD K mg "LAST_HOUR" (.int 23)
 cO:KD K mg "MOST_TURNS" (.int 9)
noncomputable def qo(c f m:Int):Int:=(c % 2147483647+5)*f % 2147483629 / 89 % m
def qQ{c f m:Int}(h:0<m):0<=qo c f m:=eL _ (by omega)
def qG{c f m:Int}(h:0<m):qo c f m<m:=eI _ h
def JL:rb:=λds M Q=>CO λc f m=>ds=[.int c,.int f,.int m]/\0<m/\Q (.int (qo c f m)) M
noncomputable def uu:Str:="abcdefghijklmnopqrstuvwxyz"
noncomputable def uc(i:Int):Str:=⟨#[97+i.toNat]⟩
noncomputable def size(s:Int):Int:=1+s % 6
noncomputable def uh(s:Int):Int:=s / 6 % size s
noncomputable def xK(s v:Int):Str:=yG (uc (s / 36 % 26)) (uh s)++uc ((s / 936+v) % 26)++yG (uc (s / 36 % 26)) (size s - 1 - uh s)
def Ph:rb:=λds M Q=>Bq λs v=>ds=[.int s,.int v]/\Q (.str (xK s v)) M
noncomputable def cell(ns:List Int)(i:Int):Int:=if 0<=i/\i<ns.length then ns.getD i.toNat 0 else 0
def Td:rb:=λds M Q=>Bq λns i=>ds=[.rl (ns.map D.int),.int i]/\Q (.int (cell ns i)) M
def GM(c:Int):0<size c:=by unfold size;have:=eL c (show(6:Int)≠0 by decide);omega
def IL(c:Int):size c<=6:=by unfold size;have:=eI c (show(0:Int)<6 by decide);omega
def GF(i n:Int):(yG (uc i) n).length=n.toNat:=by show((List.replicate n.toNat (uc i).cps).foldl (·++·) #[]:Array Nat).size=n.toNat;rw[IR];show n.toNat*1=n.toNat;omega
def Al:uu.length<=sizeLine:=by decide+kernel
variable {P:Pg}{w:Wo}{K:qr}{mg:Str→Option Vl}{base:Heap}{a:Ad}
def qE(G:Gl K mg a):Fq P w K mg base 1 a.i JL:=by
 refine fq G.i.toDG GB (λr u=>⟨_,(pj (pD (pV (pV (pV (pV (pV (pV v0 pk) pk) U1) pk) pk) U2))),?_⟩)
 rintro ds M Q ⟨c,f,m,rfl,hm,q⟩
 refine⟨by decide,.inl ?_,by decide,⟨by decide,by decide⟩,hm,M,.refl,q⟩;have h1:0<=c % 2147483647:=eL _ (by decide);have h2:c % 2147483647<2147483647:=eI _ (by decide);exact⟨by omega,by omega⟩
def DA{i:Int}(h0:0<=i)(h1:i<26):wn uu.cps.toList i=some (97+i.toNat):=by
 obtain⟨n,rfl⟩:=d9 h0;have hn:n<26:=by omega
 have key:∀n:_root_.Fin 26,wn uu.cps.toList ((n.val:Nat):Int)=some (97+n.val):=by decide+kernel
 exact key ⟨n,hn⟩
def Jt(G:Gl K mg a):Fq P w K mg base 1 a.ai Ph:=by
 refine fq G.ai.toDG uf (λr u=>⟨_,(pb (pK 2 uf pq)
 (pb (pK 3 uf (pV pk (pV v0 pk)))
 (pb (pK 4 uf (pV (pV v0 pk) U3))
 (pb (pK 5 uf (pI U2 (pV (pV v0 pk) pk)))
 (pb (pK 6 uf (pI U2 (pV (pV (pV v0 pk) U1) pk)))
 (pj (pD (pV (pV (pV v5 v4) v6) (pV v5 (pV (pV U3 pk) v4)))))))))),?_⟩)
 rintro ds M Q ⟨c,v,rfl,q⟩
 have hs:=GM c;have hs6:=IL c;have hp0:0<=uh c:=eL _ (by omega);have Yc:uh c<size c:=eI _ hs;have l1:=GF (c / 36 % 26) (uh c);have l2:=GF (c / 36 % 26) (size c - 1 - uh c);have hz:=dF;refine⟨by decide,⟨by decide,by decide⟩,hs,⟨by decide,by decide⟩,by decide,Al,i' (DA (eL _ (by decide)) (eI _ (by decide))) ?_⟩;refine⟨⟨by decide,by decide⟩,by decide,Al,i' (DA (eL _ (by decide)) (eI _ (by decide))) ?_⟩;refine⟨⟨?_,?_,?_⟩,?_,⟨?_,?_,?_⟩,?_,M,.refl,q⟩
 .show uh c<4096;omega
 .show -4096<uh c;omega
 .show(1:Nat)<4096;decide
 .show(yG (uc (c / 36 % 26)) (uh c)).length+1<=sizeLine;omega
 .show size c - 1 - uh c<4096;omega
 .show -4096<size c - 1 - uh c;omega
 .show(1:Nat)<4096;decide
 .show(yG (uc (c / 36 % 26)) (uh c)++uc ((c / 936+v) % 26)).length+(yG (uc (c / 36 % 26)) (size c - 1 - uh c)).length<=sizeLine;rw[PySem.size_cat];have:(uc ((c / 936+v) % 26)).length=1:=rfl;omega
def Gw(G:Gl K mg a):Fq P w K mg base 1 a.H Td:=by
 refine fq G.H.toDG KQ (λr u=>⟨_,(pb (pP (GW u pk U1 (pQ qu rfl G.g qp (qb v0)))
 (pj (pD (pI v0 U1)))
 pH)
 (pj (pD pk))),?_⟩)
 rintro ds M Q ⟨ns,i,rfl,q⟩
 refine qF (λh0=>?_) (λh0=>?_)
 .have h0:0<=i:=fN h0;refine qF (λh1=>?_) (λh1=>?_)
  .have h1:i<((ns.map D.int).length:Int):=fN h1;rw[cQ]at h1;have hi:i.toNat<ns.length:=by omega
   have e:wn (ns.map D.int) i=some (D.int (ns.getD i.toNat 0)):=by
    obtain⟨n,rfl⟩:=d9 h0;have hn:n<ns.length:=by omega
    refine ua ?_;rw[dq,cU hn];simp[hn]
   refine i' e ⟨M,.refl,?_⟩;have:cell ns i=ns.getD i.toNat 0:=by unfold cell;rw[cX ⟨h0,h1⟩]
   rw[<-this];exact q
  .have h1:¬i<((ns.map D.int).length:Int):=λz=>h1 (dQ z);rw[cQ]at h1;refine⟨M,.refl,?_⟩;have:cell ns i=0:=by unfold cell;rw[cV (λz=>h1 z.2)]
   rw[<-this];exact q
 .have h0:¬0<=i:=λz=>h0 (dQ z);refine⟨M,.refl,?_⟩;have:cell ns i=0:=by unfold cell;rw[cV (λz=>h0 z.1)]
  rw[<-this];exact q
inductive Wi where
 | bar (x:Str) (ns:List Str)|shut (x:Str) (ns:List Str)|always (x y:Str)|night (x y:Str) (f l:Int)|busy (x y:Str)|silent (x y:Str) (n:Int)|wait (x:Str)|breaks (x:Str)
abbrev names(ns:List Str):D:=.tup (ns.map D.str)
noncomputable def Wi.told:Wi->List D
 | .bar x ns=>[.str "bar",.str x,names ns]
 | .shut x ns=>[.str "shut",.str x,names ns]
 | .always x y=>[.str "always",.str x,.str y]
 | .night x y f l=>[.str "night",.str x,.str y,.int f,.int l]
 | .busy x y=>[.str "busy",.str x,.str y]
 | .silent x y n=>[.str "silent",.str x,.str y,.int n]
 | .wait x=>[.str "wait",.str x]
 | .breaks x=>[.str "breaks",.str x]
noncomputable def Wi.cls(a:Ad):Wi->Addr
 | .bar _ _=>a.t
 | .shut _ _=>a.u
 | .always _ _=>a.x
 | .night _ _ _ _=>a.n
 | .busy _ _=>a.y
 | .silent _ _ _=>a.v
 | .wait _=>a.w
 | .breaks _=>a.o
noncomputable def Wi.more:Wi->List (Str×D)
 | .bar x ns=>[("phone",.str x),("targets",names ns)]
 | .shut x ns=>[("target",.str x),("callers",names ns)]
 | .always x y=>[("target",.str x),("goal",.str y)]
 | .night x y f l=>[("target",.str x),("goal",.str y),("first",.int f),("last",.int l)]
 | .busy x y=>[("target",.str x),("goal",.str y)]
 | .silent x y n=>[("target",.str x),("goal",.str y),("turns",.int n)]
 | .wait x=>[("phone",.str x)]
 | .breaks x=>[("phone",.str x)]
noncomputable def Wi.nG(v:Wi):List (Str×D):=("form",.tup v.told)::v.more
abbrev B2(ns:List Str)(i:Int):Str:=ns.getD i.toNat Str.empty
noncomputable def wX(row:List Str)(c m:Int):Nat:=(1+qo c 40692 (if (row.length:Int)<m then(row.length:Int)else m)).toNat
noncomputable def Ti(row:List Str)(c:Int)(j:Nat):Str:=B2 row ((qo c 69621 row.length+(0+(j:Nat))) % row.length)
noncomputable def vG(row:List Str)(c m:Int):List Str:=(List.range (wX row c m)).map (Ti row c)
def OS:rb:=λds M Q=>CF λr c m row=>ds=[.ref r,.int c,.int m]/\oS M r=some (row.map D.str)/\row≠[]/\0<m/\row.length<=64/\Q (names (vG row c m)) M
def Jk{row:List Str}(h:row≠[])(x:Int):wn (row.map D.str) (x % row.length)=some (D.str (B2 row (x % row.length))):=by
 have hl:0<row.length:=fu.mpr h;have h0:0<=x % row.length:=eL _ (by omega);have h1:x % row.length<row.length:=eI _ (by omega);obtain⟨n,hn⟩:=d9 h0;rw[hn]at h1 ⊢;have YF:n<row.length:=by omega
 refine ua ?_;rw[dq,cU YF];simp[B2,YF]
def xW(G:Gl K mg a):Fq P w K mg base 2 a.T OS:=by
 refine fq G.T.toDG xN (λr u=>⟨_,(pb (pK 3 xN (pF (qE G) r G.i (ra U1 pk (pQ qu rfl G.g qp (qb v0)))))
 (pb (pK 4 xN (pV pk (pF (qE G) r G.i (ra U1 pk (pQ (Lv rfl) rfl G.b0 Ll (rP U2 (pQ qu rfl G.g qp (qb v0))))))))
 (pj (pD (pW sj rfl G.z sf (qb (qD rfl (xQ (ix:=[none,some 0,some 3]) (N':=["_law_j","_law_row","_law_first"])) (uY rfl G.O (qb v4)) (qA 0) rH (pI U1 (pV (pV U2 v0) (pQ qu rfl G.g qp (qb U1))))))))))),?_⟩)
 rintro ds M Q ⟨r,c,m,row,rfl,hl,W8,hm,h64,q⟩
 have WO:0<row.length:=fu.mpr W8;have hz:=dF;have el:((row.map D.str).length:Int)=row.length:=by rw[cQ]
 refine i' hl ⟨c,69621,_,rfl,by rw[el];omega,?_⟩;refine i' hl ⟨c,40692,_,rfl,by rw[el];split<;>omega,?_⟩;rw[el];have d0:=qQ (c:=c) (f:=40692) (m:=if (row.length:Int)<m then(row.length:Int)else m) (by split<;>omega);have d1:=qG (c:=c) (f:=40692) (m:=if (row.length:Int)<m then(row.length:Int)else m) (by split<;>omega);have d2:qo c 40692 (if (row.length:Int)<m then(row.length:Int)else m)<row.length+1:=by refine Int.lt_of_lt_of_le d1 ?_;split<;>omega
 refine⟨rfl,⟨?_,?_⟩,rq (f:=λd=>match d with|.int j=>D.str (B2 row ((qo c 69621 row.length+j) % row.length))|_=>.mI) trivial _ [] _ ?_ (λd hd k hk=>?_) λp hp=>?_⟩
 .show -(2 ^ 62)<=1+qo c 40692 (if (row.length:Int)<m then(row.length:Int)else m);omega
 .show 1+qo c 40692 (if (row.length:Int)<m then(row.length:Int)else m)<2 ^ 62;omega
 .rw[cQ,d6];show 0+wX row c m<=sizeLine;unfold wX;omega
 .obtain⟨j,_,rfl⟩:=dw.mp hd;refine i' hl ⟨by rw[el];omega,i' hl ?_⟩;rw[el];exact i' (Jk W8 _) hk
 .refine i' (x:=(vG row c m).map D.str) ?_ ⟨M,.new hp,q⟩;unfold oS;rw[pN];show some ([]++((List.range (wX row c m)).map λi=>D.int (0+(i:Nat))).map _)=_;rw[dW,dU];unfold vG;rw[dU];rfl
noncomputable def vZ(c:Int)(own all:List Str):Wi:=
 let x:=B2 own (qo c 16807 own.length);let pl:=qo c 39373 all.length;let y:=B2 all pl;let z:=B2 all ((pl+1+qo c 742938285 ((all.length:Int) - 1)) % all.length);let k:=qo c 1226874159 12
 if k=0 then .bar x (vG all c 3)
 else if k=1 then .shut y (vG own c 3)
 else if k=2 then .always y z
 else if k<5 then .night y z (qo c 22695477 24) ((qo c 22695477 24+1+qo c 48271 23) % 24)
 else if k<7 then .busy y z
 else if k<9 then .silent y z ([1,1,2,3,9].getD (qo c 950706376 5).toNat 0)
 else if k=9 then .wait x
 else .breaks x
def Of:rb:=λds M Q=>F8 λc o n own all=>ds=[.int c,.ref o,.ref n]/\oS M o=some (own.map D.str)/\oS M n=some (all.map D.str)/\own≠[]/\2<=all.length/\own.length<=64/\all.length<=64/\Q (.tup (vZ c own all).told) M
def Hv{row:List Str}{x:Int}(h0:0<=x)(h1:x<row.length):wn (row.map D.str) x=some (D.str (B2 row x)):=by
 obtain⟨n,rfl⟩:=d9 h0;have YF:n<row.length:=by omega
 refine ua ?_;rw[dq,cU YF];simp[B2,YF]
def PU(G:Gl K mg a):Fq P w K mg base 3 a.bo Of:=by
 refine fq G.bo.toDG tD (λr u=>⟨_,(pb (pK 3 tD (pI U1 (pF (qE G) r G.i (ra v0 pk (pQ qu rfl G.g qp (qb U1))))))
 (pb (pK 4 tD (pF (qE G) r G.i (ra v0 pk (pQ qu rfl G.g qp (qb U2)))))
 (pb (pK 5 tD (pI U2 v4))
 (pb (pK 6 tD (pI U2 (pV (pV (pV v4 pk) (pF (qE G) r G.i (ra v0 pk (pV (pQ qu rfl G.g qp (qb U2)) pk)))) (pQ qu rfl G.g qp (qb U2)))))
 (pb (pK 7 tD (pF (qE G) r G.i (ra v0 pk pk)))
 (pb (pP (pG u v7 pk)
 (pj (pD (pM (ra pq U3 (pF (xW G) r G.T (ra U2 v0 pk))))))
 pH)
 (pb (pP (pG u v7 pk)
 (pj (pD (pM (ra pq v5 (pF (xW G) r G.T (ra U1 v0 pk))))))
 pH)
 (pb (pP (pG u v7 pk)
 (pj (pD (pM (ra pq v5 v6))))
 pH)
 (pb (pP (pG u v7 pk)
 (pb (pK 8 tD (pF (qE G) r G.i (ra v0 pk pk)))
 (pj (pD (pM (pX pq (pX v5 (ra v6 v8 (pV (pV (pV v8 pk) (pF (qE G) r G.i (ra v0 pk pk))) pk))))))))
 pH)
 (pb (pP (pG u v7 pk)
 (pj (pD (pM (ra pq v5 v6))))
 pH)
 (pb (pP (pG u v7 pk)
 (pj (pD (pM (pX pq (ra v5 v6 (pI (pM (pX pk (pX pk (ra pk pk pk)))) (pF (qE G) r G.i (ra v0 pk pk))))))))
 pH)
 (pb (pP (pG u v7 pk)
 (pj (pD (pM (rP pq U3))))
 pH)
 (pj (pD (pM (rP pq U3)))))))))))))))),?_⟩)
 rintro ds M Q ⟨c,o,n,own,all,rfl,ho,hn,W8,h2,l1,l2,q⟩
 have WO:0<own.length:=fu.mpr W8;have hne2:all≠[]:=λz=>by rw[z]at h2;simp at h2
 have e1:((own.map D.str).length:Int)=own.length:=by rw[cQ]
 have e2:((all.map D.str).length:Int)=all.length:=by rw[cQ]
 have p1:(0:Int)<own.length:=by omega
 have p2:(0:Int)<all.length:=by omega
 have p3:(0:Int)<(all.length:Int) - 1:=by omega
 refine i' ho ⟨c,_,_,rfl,by rw[e1];exact p1,?_⟩;rw[e1];refine i' ho (i' (Hv (qQ p1) (qG p1)) ?_);refine i' hn ⟨c,_,_,rfl,by rw[e2];exact p2,?_⟩;rw[e2];refine i' hn (i' (Hv (qQ p2) (qG p2)) ?_);refine i' hn ⟨c,_,_,rfl,by rw[e2];exact p3,?_⟩;rw[e2];refine i' hn ⟨by rw[e2];exact p2,?_⟩;rw[e2];refine i' hn (i' (Jk hne2 _) ?_);refine⟨c,_,_,rfl,by decide,?_⟩;have WN:∀t:List D,(vZ c own all).told=t->∃WM,qm WM M/\Q (.tup t) WM:=λt e=>⟨M,.refl,e ▸ q⟩;have k0:0<=qo c 1226874159 12:=qQ (by decide);refine qF (λh=>?_) (λh=>?_)
 .have h:qo c 1226874159 12=0:=by simpa using h
  refine⟨n,c,3,all,rfl,hn,hne2,by decide,l2,oZ rfl,WN _ ?_⟩;simp only[vZ,cX h,Wi.told]
 have h:¬qo c 1226874159 12=0:=by simpa using h
 refine qF (λg=>?_) (λg=>?_)
 .have g:qo c 1226874159 12=1:=by simpa using g
  refine⟨o,c,3,own,rfl,ho,W8,by decide,l1,oZ rfl,WN _ ?_⟩;simp only[vZ,cV h,cX g,Wi.told]
 have g:¬qo c 1226874159 12=1:=by simpa using g
 refine qF (λi=>?_) (λi=>?_)
 .have i:qo c 1226874159 12=2:=by simpa using i
  refine⟨oZ rfl,WN _ ?_⟩;simp only[vZ,cV h,cV g,cX i,Wi.told]
 have i:¬qo c 1226874159 12=2:=by simpa using i
 refine qF (λj=>?_) (λj=>?_)
 .have j:qo c 1226874159 12<5:=fN j;refine⟨c,_,_,rfl,by decide,c,_,_,rfl,by decide,by decide,oZ rfl,WN _ ?_⟩;simp only[vZ,cV h,cV g,cV i,cX j,Wi.told]
 have j:¬qo c 1226874159 12<5:=λz=>j (dQ z);refine qF (λl=>?_) (λl=>?_)
 .have l:qo c 1226874159 12<7:=fN l;refine⟨oZ rfl,WN _ ?_⟩;simp only[vZ,cV h,cV g,cV i,cV j,cX l,Wi.told]
 have l:¬qo c 1226874159 12<7:=λz=>l (dQ z);refine qF (λm=>?_) (λm=>?_)
 .have m:qo c 1226874159 12<9:=fN m;have d0:0<=qo c 950706376 5:=qQ (by decide);have d1:qo c 950706376 5<5:=qG (by decide);have e:wn [D.int 1,.int 1,.int 2,.int 3,.int 9] (qo c 950706376 5)=some (D.int ([1,1,2,3,9].getD (qo c 950706376 5).toNat 0)):=by
   obtain⟨t,ht⟩:=d9 d0;rw[ht]at d1 ⊢;have:t<5:=by omega
   match t,this with
   | 0,_=>rfl
   | 1,_=>rfl
   | 2,_=>rfl
   | 3,_=>rfl
   | 4,_=>rfl
  refine⟨oZ rfl,c,_,_,rfl,by decide,i' e ⟨oZ rfl,WN _ ?_⟩⟩;simp only[vZ,cV h,cV g,cV i,cV j,cV l,cX m,Wi.told]
 have m:¬qo c 1226874159 12<9:=λz=>m (dQ z);refine qF (λr=>?_) (λr=>?_)
 .have r:qo c 1226874159 12=9:=by simpa using r
  refine⟨oZ rfl,WN _ ?_⟩;simp only[vZ,cV h,cV g,cV i,cV j,cV l,cV m,cX r,Wi.told]
 have r:¬qo c 1226874159 12=9:=by simpa using r
 refine⟨oZ rfl,WN _ ?_⟩;simp only[vZ,cV h,cV g,cV i,cV j,cV l,cV m,cV r,Wi.told]
def Np(K:qr):rb:=λds M Q=>CO λp d C=>ds=[.ref p,d]/\M p=some (.ins C [])/\ud K C "form"/\Q .mI (pB M p (.ins C [("form",d)]))
def Lg(K:qr):rb:=λds M Q=>F8 λp t x y C=>ds=[.ref p,.tup t]/\wn t 1=some x/\wn t 2=some y/\M p=some (.ins C [])/\ud K C "form"/\ud K C "target"/\ud K C "goal"/\Q .mI (pB M p (.ins C [("form",.tup t),("target",x),("goal",y)]))
def xV(a:Ad)(k:Wi->Prop):rb:=λds M Q=>Bq λp v=>ds=[.ref p,.tup (Wi.told v)]/\k v/\M p=some (.ins (v.cls a) [])/\Q .mI (pB M p (.ins (v.cls a) v.nG))
def xM(G:Gl K mg a):Fq P w K mg base 1 a.F (Np K):=by
 refine fq G.F.toDG Fy (λr u=>⟨_,(pj (pZ v0 U1)),?_⟩)
 rintro ds M Q ⟨p,d,C,rfl,hp,na,q⟩
 exact pf hp ⟨na,by decide,_,.refl,q⟩
def zg(G:Gl K mg a):Fq P w K mg base 2 a.B (Lg K):=by
 refine fq G.B.toDG AH (λr u=>⟨_,(pb (pL (yE G.aO (xM G) r G.C G.F.toDG (rP v0 U1)))
 (pb (pZ v0 (pI U1 pk))
 (pj (pZ v0 (pI U1 pk))))),?_⟩)
 rintro ds M Q ⟨p,t,x,y,C,rfl,e1,e2,hp,n1,n2,n3,q⟩
 refine⟨p,_,C,rfl,hp,n1,i' e1 (pf pN ⟨n2,by show 1<1000;decide,?_⟩)⟩;refine i' e2 (pf pN ⟨n3,by show 2<1000;decide,_,?_,q⟩);rw[rF,rF];exact .refl
def RQ(G:Gl K mg a):Fq P w K mg base 2 a.an (xV a λv=>∃x ns,v=.bar x ns):=by
 refine fq G.an.toDG G0 (λr u=>⟨_,(pb (pL (yE G.aO (xM G) r G.C G.F.toDG (rP v0 U1)))
 (pb (pZ v0 (pI U1 pk))
 (pj (pZ v0 (pI U1 pk))))),?_⟩)
 rintro ds M Q ⟨p,v,rfl,⟨x,ns,rfl⟩,hp,q⟩
 refine⟨p,_,_,rfl,hp,(G.bQ "form" rfl),pf pN ⟨(G.bQ "phone" rfl),by show 1<1000;decide,?_⟩⟩;refine pf pN ⟨(G.bQ "targets" rfl),by show 2<1000;decide,_,?_,q⟩;rw[rF,rF];exact .refl
def Pn(G:Gl K mg a):Fq P w K mg base 2 a.ao (xV a λv=>∃x ns,v=.shut x ns):=by
 refine fq G.ao.toDG EY (λr u=>⟨_,(pb (pL (yE G.aO (xM G) r G.C G.F.toDG (rP v0 U1)))
 (pb (pZ v0 (pI U1 pk))
 (pj (pZ v0 (pI U1 pk))))),?_⟩)
 rintro ds M Q ⟨p,v,rfl,⟨x,ns,rfl⟩,hp,q⟩
 refine⟨p,_,_,rfl,hp,(G.bR "form" rfl),pf pN ⟨(G.bR "target" rfl),by show 1<1000;decide,?_⟩⟩;refine pf pN ⟨(G.bR "callers" rfl),by show 2<1000;decide,_,?_,q⟩;rw[rF,rF];exact .refl
def MX(G:Gl K mg a):Fq P w K mg base 3 a.ap (xV a λv=>∃x y f l,v=.night x y f l):=by
 refine fq G.ap.toDG CZ (λr u=>⟨_,(pb (pL (yE G.bX (zg G) r G.ab G.B.toDG (rP v0 U1)))
 (pb (pZ v0 (pI U1 pk))
 (pj (pZ v0 (pI U1 pk))))),?_⟩)
 rintro ds M Q ⟨p,v,rfl,⟨x,y,f,l,rfl⟩,hp,q⟩
 refine⟨p,_,_,_,_,rfl,rfl,rfl,hp,(G.aP "form" rfl),(G.aP "target" rfl),(G.aP "goal" rfl),pf pN ⟨(G.aP "first" rfl),by show 3<1000;decide,?_⟩⟩;refine pf pN ⟨(G.aP "last" rfl),by show 4<1000;decide,_,?_,q⟩;rw[rF,rF];exact .refl
def KH(G:Gl K mg a):Fq P w K mg base 3 a.aq (xV a λv=>∃x y n,v=.silent x y n):=by
 refine fq G.aq.toDG Bt (λr u=>⟨_,(pb (pL (yE G.bX (zg G) r G.ab G.B.toDG (rP v0 U1)))
 (pj (pZ v0 (pI U1 pk)))),?_⟩)
 rintro ds M Q ⟨p,v,rfl,⟨x,y,n,rfl⟩,hp,q⟩
 refine⟨p,_,_,_,_,rfl,rfl,rfl,hp,(G.bN "form" rfl),(G.bN "target" rfl),(G.bN "goal" rfl),pf pN ⟨(G.bN "turns" rfl),by show 3<1000;decide,_,?_,q⟩⟩;rw[rF];exact .refl
def PP(G:Gl K mg a):Fq P w K mg base 2 a.ar (xV a λv=>∃x,v=.wait x):=by
 refine fq G.ar.toDG Eo (λr u=>⟨_,(pb (pL (yE G.aO (xM G) r G.C G.F.toDG (rP v0 U1)))
 (pj (pZ v0 (pI U1 pk)))),?_⟩)
 rintro ds M Q ⟨p,v,rfl,⟨x,rfl⟩,hp,q⟩
 refine⟨p,_,_,rfl,hp,(G.bY "form" rfl),pf pN ⟨(G.bY "phone" rfl),by show 1<1000;decide,_,?_,q⟩⟩;rw[rF];exact .refl
def Kw(G:Gl K mg a):Fq P w K mg base 2 a.au (xV a λv=>∃x,v=.breaks x):=by
 refine fq G.au.toDG Cn (λr u=>⟨_,(pb (pL (yE G.aO (xM G) r G.C G.F.toDG (rP v0 U1)))
 (pj (pZ v0 (pI U1 pk)))),?_⟩)
 rintro ds M Q ⟨p,v,rfl,⟨x,rfl⟩,hp,q⟩
 refine⟨p,_,_,rfl,hp,(G.bZ "form" rfl),pf pN ⟨(G.bZ "phone" rfl),by show 1<1000;decide,_,?_,q⟩⟩;rw[rF];exact .refl
def Ir(a:Ad):rb:=λds M Q=>∃v:Wi,ds=[.tup v.told]/\∀p,M p=none->Q (.ref p) (pB M p (.ins (v.cls a) v.nG))
def IG(a:Ad):rb:=λds M Q=>Bq λp (v:Wi)=>ds=[.ref p]/\M p=some (.ins (v.cls a) v.nG)/\Q (.tup v.told) M
def Ip:rb:=λds M Q=>∃p,ds=[.ref p]/\Q (.tup [.str "end"]) M
def Lm:rb:=λds M Q=>∃p,ds=[.ref p]/\Q (.tup [.str "break"]) M
def QC:rb:=λds M Q=>CF λp C fs y=>ds=[.ref p]/\M p=some (.ins C fs)/\fs.lookup ("goal":Str)=some y/\Q (.tup [.str "to",y]) M
def QO:rb:=λds M Q=>CF λp C fs y=>ds=[.ref p]/\M p=some (.ins C fs)/\fs.lookup ("phone":Str)=some y/\Q (.tup [.str "wait",y]) M
def L0(a:Ad):Addr->rb->Prop:=λC sp=>(∃v:Wi,C=v.cls a)/\sp=IG a
def Jq(a:Ad):Addr->rb->Prop:=λC sp=>((C=a.t\/C=a.u)/\sp=Ip)\/((C=a.x\/C=a.n\/C=a.y\/C=a.v)/\sp=QC)\/(C=a.w/\sp=QO)\/(C=a.o/\sp=Lm)
def Ic(G:Gl K mg a):Fq P w K mg base 5 a.bf (Ir a):=by
 refine fq G.bf.toDG BX (λr u=>⟨_,(pb (pK 1 BX (pI v0 pk))
 (pb (pP (pG u U1 pq)
 (pj (pD (uF (RQ G) r G.t G.b9 G.an.toDG (qb v0))))
 pH)
 (pb (pP (pG u U1 pq)
 (pj (pD (uF (Pn G) r G.u G.ca G.ao.toDG (qb v0))))
 pH)
 (pb (pP (pG u U1 pq)
 (pj (pD (uF (zg G) r G.x G.cb G.B.toDG (qb v0))))
 pH)
 (pb (pP (pG u U1 pq)
 (pj (pD (uF (MX G) r G.n G.cc G.ap.toDG (qb v0))))
 pH)
 (pb (pP (pG u U1 pq)
 (pj (pD (uF (zg G) r G.y G.cd G.B.toDG (qb v0))))
 pH)
 (pb (pP (pG u U1 pq)
 (pj (pD (uF (KH G) r G.v G.ce G.aq.toDG (qb v0))))
 pH)
 (pb (pP (pG u U1 pq)
 (pj (pD (uF (PP G) r G.w G.cf G.ar.toDG (qb v0))))
 pH)
 (pb (pP (pG u U1 pq)
 (pj (pD (uF (Kw G) r G.o G.cg G.au.toDG (qb v0))))
 pH)
 (pj FO)))))))))),?_⟩)
 rintro ds M Q ⟨v,rfl,q⟩
 have WN:∀(x:Addr) (c0 c1:uG) (C:Addr) (fs:List (Str×D)),M x=none->Q (.ref x) (pB M x c1)->∃WM,qm WM (pB (pB M x c0) x c1)/\Q (.ref x) WM:=λx c0 c1 C fs hx q=>⟨_,by rw[rF];exact .refl,q⟩;cases v with
 | bar x ns=>exact λp hp=>⟨p,.bar x ns,rfl,⟨_,_,rfl⟩,pN,rfl,WN p _ _ 0 [] hp (q p hp)⟩
 | shut x ns=>exact λp hp=>⟨p,.shut x ns,rfl,⟨_,_,rfl⟩,pN,rfl,WN p _ _ 0 [] hp (q p hp)⟩
 | always x y=>exact λp hp=>⟨p,_,_,_,_,rfl,rfl,rfl,pN,(G.bS "form" rfl),(G.bS "target" rfl),(G.bS "goal" rfl),rfl,WN p _ _ 0 [] hp (q p hp)⟩
 | night x y f l=>exact λp hp=>⟨p,.night x y f l,rfl,⟨_,_,_,_,rfl⟩,pN,rfl,WN p _ _ 0 [] hp (q p hp)⟩
 | busy x y=>exact λp hp=>⟨p,_,_,_,_,rfl,rfl,rfl,pN,(G.bT "form" rfl),(G.bT "target" rfl),(G.bT "goal" rfl),rfl,WN p _ _ 0 [] hp (q p hp)⟩
 | silent x y n=>exact λp hp=>⟨p,.silent x y n,rfl,⟨_,_,_,rfl⟩,pN,rfl,WN p _ _ 0 [] hp (q p hp)⟩
 | wait x=>exact λp hp=>⟨p,.wait x,rfl,⟨_,rfl⟩,pN,rfl,WN p _ _ 0 [] hp (q p hp)⟩
 | breaks x=>exact λp hp=>⟨p,.breaks x,rfl,⟨_,rfl⟩,pN,rfl,WN p _ _ 0 [] hp (q p hp)⟩
def Po(G:Gl K mg a):Fq P w K mg base 1 a.l (IG a):=by
 refine fq G.l.toDG Ee (λr u=>⟨_,(pj (pD (pA v0))),?_⟩)
 rintro ds M Q ⟨p,v,rfl,hp,q⟩
 exact pf hp (i' rfl ⟨M,.refl,q⟩)
def Pf(G:Gl K mg a):Fq P w K mg base 1 a.az Ip:=by
 refine fq G.az.toDG FF (λr u=>⟨_,(pj (pD (pM (qb pq)))),?_⟩)
 rintro ds M Q ⟨p,rfl,q⟩
 exact⟨oZ rfl,M,.refl,q⟩
def Mf(G:Gl K mg a):Fq P w K mg base 1 a.aA Ip:=by
 refine fq G.aA.toDG C0 (λr u=>⟨_,(pj (pD (pM (qb pq)))),?_⟩)
 rintro ds M Q ⟨p,rfl,q⟩
 exact⟨oZ rfl,M,.refl,q⟩
def vD(G:Gl K mg a):Fq P w K mg base 1 a.A QC:=by
 refine fq G.A.toDG z9 (λr u=>⟨_,(pj (pD (pM (rP pq (pA v0))))),?_⟩)
 rintro ds M Q ⟨p,C,fs,y,rfl,hp,e,q⟩
 exact pf hp (i' e ⟨oZ rfl,M,.refl,q⟩)
def Mc(G:Gl K mg a):Fq P w K mg base 1 a.aB QO:=by
 refine fq G.aB.toDG Dj (λr u=>⟨_,(pj (pD (pM (rP pq (pA v0))))),?_⟩)
 rintro ds M Q ⟨p,C,fs,y,rfl,hp,e,q⟩
 exact pf hp (i' e ⟨oZ rfl,M,.refl,q⟩)
def Ii(G:Gl K mg a):Fq P w K mg base 1 a.aC Lm:=by
 refine fq G.aC.toDG Az (λr u=>⟨_,(pj (pD (pM (qb pq)))),?_⟩)
 rintro ds M Q ⟨p,rfl,q⟩
 exact⟨oZ rfl,M,.refl,q⟩
def Rk(G:Gl K mg a):∀C sp,L0 a C sp->xR P w K mg base 1 "told" C (NJ K sp):=by
 rintro C sp ⟨⟨v,rfl⟩,rfl⟩
 have F:=Po (P:=P) (w:=w) (base:=base) G;cases v with
 | bar _ _=>exact⟨G.t.toCls,_,_,_,G.co,F,G.l.b⟩
 | shut _ _=>exact⟨G.u.toCls,_,_,_,G.cp,F,G.l.b⟩
 | always _ _=>exact⟨G.x.toCls,_,_,_,G.cq,F,G.l.b⟩
 | night _ _ _ _=>exact⟨G.n.toCls,_,_,_,G.cr,F,G.l.b⟩
 | busy _ _=>exact⟨G.y.toCls,_,_,_,G.cs,F,G.l.b⟩
 | silent _ _ _=>exact⟨G.v.toCls,_,_,_,G.ct,F,G.l.b⟩
 | wait _=>exact⟨G.w.toCls,_,_,_,G.cu,F,G.l.b⟩
 | breaks _=>exact⟨G.o.toCls,_,_,_,G.cv,F,G.l.b⟩
def P5(G:Gl K mg a):∀C sp,Jq a C sp->xR P w K mg base 1 "wants" C (NJ K sp):=by
 rintro C sp (⟨rfl|rfl,rfl⟩|⟨rfl|rfl|rfl|rfl,rfl⟩|⟨rfl,rfl⟩|⟨rfl,rfl⟩)
 .exact⟨G.t.toCls,_,_,_,G.az.m9,Pf G,G.az.b⟩
 .exact⟨G.u.toCls,_,_,_,G.aA.m9,Mf G,G.aA.b⟩
 .exact⟨G.x.toCls,_,_,_,G.cw,vD G,G.A.b⟩
 .exact⟨G.n.toCls,_,_,_,G.cx,vD G,G.A.b⟩
 .exact⟨G.y.toCls,_,_,_,G.cy,vD G,G.A.b⟩
 .exact⟨G.v.toCls,_,_,_,G.cz,vD G,G.A.b⟩
 .exact⟨G.w.toCls,_,_,_,G.aB.m9,Mc G,G.aB.b⟩
 .exact⟨G.o.toCls,_,_,_,G.aC.m9,Ii G,G.aC.b⟩
noncomputable def ui(x:Str):Bool:=decide ((1:Int)<=x.length)&&(decide ((x.length:Int)<=6)&&x.cps.toList.all λc=>Dg ⟨#[c]⟩ uu)
def Il:rb:=λds M Q=>∃x:Str,ds=[.str x]/\x.length<=1000/\Q (.bl (ui x)) M
def Jf:rb:=λds M Q=>∃w,ds=[.bl true,w]/\Q .mI M
noncomputable def ww(ss:List Str):Bool:=((sQ ss).length:Int)==(ss.length:Int)
def Q0(M:Mp)(x:D)(ss:List Str):Prop:=x=.tup (ss.map D.str)\/∃a,x=.ref a/\oS M a=some (ss.map D.str)
def Kb:rb:=λds M Q=>Bq λx ss=>ds=[x]/\Q0 M x ss/\ss.length<4000/\Q (.bl (ww ss)) M
def zC{α:Type}(f:α->Bool)(l:List α):(l.map f).all id=l.all f:=by rw[jC];rfl
def sr(x:Str)(ss:List Str):inD (.str x) (ss.map D.str)=ss.any (·==x):=by unfold inD;rw[jI];rfl
theorem qx:∀ss:List Str,(ss.map D.str).all uQ=true
 | []=>rfl
 | _::r=>by rw[dP,eO,qx r];rfl
noncomputable def sy(cs ks:List Str)(m:Int):Bool:=decide ((1:Int)<=cs.length)&&(decide ((cs.length:Int)<=m)&&(ww cs&&cs.all λc=>ks.any (·==c)))
def J3:rb:=λds M Q=>CF λcs ks k m=>ds=[.tup (cs.map D.str),.ref k,.int m]/\oS M k=some (ks.map D.str)/\cs.length<4000/\Q (.bl (sy cs ks m)) M
def Cb(G:Gl K mg a):Fq P w K mg base 1 a.ag Il:=by
 refine fq G.ag.toDG HL (λr u=>⟨_,(pj (pD (tj (uo u pk (pQ qu rfl G.g qp (qb v0)) (sG rfl G.cL)) (sO (pQ (E5 rfl) rfl G.bO Fw (qb (qD rfl (xQ (ix:=[none]) (N':=["sign"])) (qC v0) (qA 0) rH (qh u v0 (sG rfl G.cM))))))))),?_⟩)
 rintro ds M Q ⟨x,rfl,hl,q⟩
 have hz:=dF;refine⟨by omega,qF (λh1=>?_) (λh1=>?_)⟩
 .refine qF (λh2=>?_) (λh2=>?_)
  .refine rq (f:=λd=>match d with|.str z=>D.bl (Dg z uu)|_=>.mI) trivial _ [] _ ?_ (λd hd k hk=>?_) λp hp=>?_
   .rw[cQ];have:x.cps.toList.length=x.length:=by simp[Str.length]
    simp only[dE];omega
   .obtain⟨c,_,rfl⟩:=dw.mp hd;exact hk
   .refine i' pC ?_;have e:([]++(x.cps.toList.map λc=>D.str ⟨#[c]⟩).map λd=>match d with|.str z=>D.bl (Dg z uu)|_=>.mI)=x.cps.toList.map λc=>D.bl (Dg ⟨#[c]⟩ uu):=by rw[dW,dU];rfl
    rw[e];refine i' (xZ (λc=>Dg ⟨#[c]⟩ uu) x.cps.toList) ⟨M,.new hp,?_⟩;rw[zC];have:ui x=x.cps.toList.all λc=>Dg ⟨#[c]⟩ uu:=by unfold ui;rw[h1,h2];rfl
    rw[<-this];exact q
  .refine⟨M,.refl,?_⟩;have:ui x=false:=by
    unfold ui;have h2:decide ((x.length:Int)<=6)=false:=by simpa using h2
    rw[h2];simp
   rw[<-this];exact q
 .refine⟨M,.refl,?_⟩;have:ui x=false:=by
   unfold ui;have h1:decide ((1:Int)<=x.length)=false:=by simpa using h1
   rw[h1];rfl
  rw[<-this];exact q
def sN(G:Gl K mg a):Fq P w K mg base 1 a.m Jf:=by
 refine fq G.m.toDG OD (λr u=>⟨_,(pj (pP (yM (vK v0))
 (pj FO)
 pH)),?_⟩)
 rintro ds M Q ⟨x,rfl,q⟩
 exact⟨M,.refl,q⟩
def Dv(G:Gl K mg a):Fq P w K mg base 1 a.ah Kb:=by
 refine fq G.ah.toDG CP (λr u=>⟨_,(pj (pD (qh u (J0 rfl v0 rfl G.g rfl G.cB qp SA) (pQ qu rfl G.g qp (qb v0))))),?_⟩)
 rintro ds M Q ⟨x,ss,rfl,hx,hl,q⟩
 have key:((ss.map D.str).length:Int)=ss.length:=by rw[cQ]
 rcases hx with rfl|⟨b,rfl,hb⟩
 .refine i' (L3.BS ss) ⟨hl,M,.refl,?_⟩;rw[key];exact q
 .refine i' hb (i' (L3.BS ss) ⟨hl,i' hb ⟨M,.refl,?_⟩⟩);rw[key];exact q
def zS(G:Gl K mg a):Fq P w K mg base 2 a.S J3:=by
 refine fq G.S.toDG Fl (λr u=>⟨_,(pj (pD (tj (uo u pk (pQ qu rfl G.g qp (qb v0)) U2) (tj (pF (Dv G) r G.ah (qb v0)) (sO (pQ (E5 rfl) rfl G.bO Fw (qb (qD rfl (xQ (ix:=[none,some 1]) (N':=["name","known"])) (qC v0) (qA 0) rH (qh u v0 U1))))))))),?_⟩)
 rintro ds M Q ⟨cs,ks,k,m,rfl,hk,hl,q⟩
 have hz:=dF;have key:((cs.map D.str).length:Int)=cs.length:=by rw[cQ]
 have ZU:∀b:Bool,sy cs ks m=b->∃WM,qm WM M/\Q (.bl b) WM:=λb e=>⟨M,.refl,e ▸ q⟩;refine qF (λh1=>?_) (λh1=>?_)
 .have h1:decide ((1:Int)<=cs.length)=true:=by rw[<-key];exact h1
  refine qF (λh2=>?_) (λh2=>?_)
  .have h2:decide ((cs.length:Int)<=m)=true:=by rw[<-key];exact h2
   refine⟨_,cs,rfl,.inl rfl,hl,qF (λh3=>?_) (λh3=>?_)⟩
   .refine rq (f:=λd=>match d with|.str z=>D.bl (ks.any (·==z))|_=>.mI) trivial _ [] _ ?_ (λd hd k0 hk0=>?_) λp hp=>?_
    .rw[cQ];simp only[dE];omega
    .obtain⟨c,_,rfl⟩:=dw.mp hd;refine i' hk ⟨rfl,qx ks,?_⟩;show k0 (.bl (inD (.str c) (ks.map D.str))) M;rw[sr];exact hk0
    .refine i' pC ?_;have e:([]++(cs.map D.str).map λd=>match d with|.str z=>D.bl (ks.any (·==z))|_=>.mI)=cs.map λc=>D.bl (ks.any (·==c)):=by rw[dW,dU];rfl
     rw[e];refine i' (xZ (λc=>ks.any (·==c)) cs) ⟨M,.new hp,?_⟩;rw[zC];have:sy cs ks m=cs.all λc=>ks.any (·==c):=by unfold sy;rw[h1,h2,h3];rfl
     rw[<-this];exact q
   .refine ZU _ ?_;unfold sy;have h3:ww cs=false:=by simpa using h3
    rw[h3];simp
  .refine ZU _ ?_;unfold sy;have h2:decide ((cs.length:Int)<=m)=false:=by
    rw[<-key]
    simpa using h2
   rw[h2];simp
 .refine ZU _ ?_;unfold sy;have h1:decide ((1:Int)<=cs.length)=false:=by
   rw[<-key]
   simpa using h1
  rw[h1];rfl
abbrev uD:=Str×Int×Int
abbrev uj:=Str×Str×List Str
abbrev vc:=Bool×Wi
noncomputable def qI(p:uD):D:=.tup [.str p.1,.int p.2.1,.int p.2.2]
noncomputable def qO(g:uj):D:=.tup [.str g.1,.str g.2.1,names g.2.2]
noncomputable def uU(w:vc):D:=.tup [.bl w.1,.tup w.2.told]
structure EG(p:uD):Prop where
 len:p.1.length<=1000
 nm:ui p.1=true
 l1:1<=p.2.1
 l2:p.2.1<=3
 r1:0<=p.2.2
 r2:p.2.2<=9
structure Fj(pn:List Str)(g:uj):Prop where
 len:g.1.length<=1000
 nm:ui g.1=true
 man:g.2.1="all"\/g.2.1="turns"
 oZ:g.2.2.length<4000
 mem:sy g.2.2 pn 4=true
def xq(ss:List Str)(x:Str):Prop:=ss.any (·==x)=true
def Bz(pn nm:List Str):Wi->Prop
 | .bar x ns=>xq pn x/\ns.length<4000/\sy ns nm 6=true
 | .shut x ns=>xq nm x/\ns.length<4000/\sy ns pn 6=true
 | .always x y=>xq nm x/\xq nm y/\x≠y
 | .night x y f l=>xq nm x/\xq nm y/\x≠y/\(0<=f/\f<=23)/\(0<=l/\l<=23)/\f≠l
 | .busy x y=>xq nm x/\xq nm y/\x≠y
 | .silent x y n=>xq nm x/\xq nm y/\x≠y/\1<=n/\n<=9
 | .wait x=>xq pn x
 | .breaks x=>xq pn x
inductive xu(pn nm:List Str):Str->D->Prop
 | mX (x:Str) (h:xq pn x):xu pn nm "phone" (.str x)
 | name (x:Str) (h:xq nm x):xu pn nm "name" (.str x)
 | mH (cs:List Str) (l:cs.length<4000) (h:sy cs pn 6=true):xu pn nm "phones" (names cs)
 | names (cs:List Str) (l:cs.length<4000) (h:sy cs nm 6=true):xu pn nm "names" (names cs)
 | hour (i:Int) (h0:0<=i) (h1:i<=23):xu pn nm "hour" (.int i)
 | turns (i:Int) (h0:1<=i) (h1:i<=9):xu pn nm "turns" (.int i)
def IH:rb:=λds M Q=>IE λk d pl nl (pn nm:List Str)=>ds=[.str k,d,.ref pl,.ref nl]/\oS M pl=some (pn.map D.str)/\oS M nl=some (nm.map D.str)/\xu pn nm k d/\Q (.bl true) M
def AU:rb:=λds M Q=>Bq λr (ps:List uD)=>ds=[.ref r]/\oS M r=some (ps.map qI)/\1<=ps.length/\ps.length<=8/\(∀p∈ps,EG p)/\Q .mI M
def AD:rb:=λds M Q=>CF λr (gs:List uj) pl (pn:List Str)=>ds=[.ref r,.ref pl]/\oS M r=some (gs.map qO)/\oS M pl=some (pn.map D.str)/\gs.length<=3/\(∀g∈gs,Fj pn g)/\Q .mI M
def CT:rb:=λds M Q=>F8 λv pl nl (pn nm:List Str)=>ds=[.tup (Wi.told v),.ref pl,.ref nl]/\oS M pl=some (pn.map D.str)/\oS M nl=some (nm.map D.str)/\Bz pn nm v/\Q .mI M
def AB:rb:=λds M Q=>IE λr (ws:List vc) pl nl (pn nm:List Str)=>ds=[.ref r,.ref pl,.ref nl]/\oS M r=some (ws.map uU)/\oS M pl=some (pn.map D.str)/\oS M nl=some (nm.map D.str)/\ws.length<=16/\(∀w∈ws,Bz pn nm w.2)/\Q .mI M
def V6{ss:List Str}{x:Str}(h:xq ss x):inD (.str x) (ss.map D.str)=true:=by rw[sr];exact h
def NV(G:Gl K mg a):Fq P w K mg base 3 a.bi IH:=by
 refine fq G.bi.toDG CH (λr u=>⟨_,(pb (pP (pG u v0 pq)
 (pj (pD (qh u U1 U2)))
 pH)
 (pb (pP (pG u v0 pq)
 (pj (pD (qh u U1 U3)))
 pH)
 (pb (pP (pG u v0 pq)
 (pj (pD (pF (zS G) r G.S (ra U1 U2 (sG rfl G.b2)))))
 pH)
 (pb (pP (pG u v0 pq)
 (pj (pD (pF (zS G) r G.S (ra U1 U3 (sG rfl G.b2)))))
 pH)
 (pb (pP (pG u v0 pq)
 (pj (pD (uo u pk U1 (sG rfl G.cN))))
 pH)
 (pj (pD (uo u pk U1 (sG rfl G.cO))))))))),?_⟩)
 rintro ds M Q ⟨k,d,pl,nl,pn,nm,rfl,hp,hn,ok,q⟩
 cases ok with
 | mX x h=>refine i' hp ⟨rfl,qx pn,M,.refl,?_⟩;show Q (.bl (inD (.str x) (pn.map D.str))) M;rw[V6 h];exact q
 | name x h=>refine i' hn ⟨rfl,qx nm,M,.refl,?_⟩;show Q (.bl (inD (.str x) (nm.map D.str))) M;rw[V6 h];exact q
 | mH cs l h=>exact⟨cs,pn,pl,6,rfl,hp,l,M,.refl,by rw[h];exact q⟩
 | names cs l h=>exact⟨cs,nm,nl,6,rfl,hn,l,M,.refl,by rw[h];exact q⟩
 | hour i h0 h1=>refine AC (c:=decide (0<=i)) (dQ h0) ⟨M,.refl,?_⟩;show Q (.bl (decide (i<=23))) M;rw[dQ h1];exact q
 | turns i h0 h1=>refine AC (c:=decide (1<=i)) (dQ h0) ⟨M,.refl,?_⟩;show Q (.bl (decide (i<=9))) M;rw[dQ h1];exact q
def AW(G:Gl K mg a):Fq P w K mg base 2 a.bg AU:=by
 refine fq G.bg.toDG tY (λr u=>⟨_,(pb (pL (pF (sN G) r G.m (rP (uo u pk (pQ qu rfl G.g qp (qb v0)) (sG rfl G.cE)) pq)))
 (pj (uk eW rfl (qC v0) (uL (n:=3) rfl (qB (rW 1 tY) (qB (rW 2 tY) (qB (rW 3 tY) tZ))))
 (pb (pL (pF (sN G) r G.m (rP (pF (Cb G) r G.ag (qb U1)) pq)))
 (pb (pL (pF (sN G) r G.m (rP (uo u pk U2 (sG rfl G.cF)) pq)))
 (pj (pL (pF (sN G) r G.m (rP (uo u pk U3 (sG rfl G.cG)) pq))))))))),?_⟩)
 rintro ds M Q ⟨r,ps,rfl,Xq,h1,h8,mP,q⟩
 have el:((ps.map qI).length:Int)=ps.length:=by rw[cQ]
 refine i' Xq (AC (c:=decide ((1:Int)<=(ps.map qI).length)) (dQ (by omega)) ⟨_,by rw[dQ (show((ps.map qI).length:Int)<=8 by omega)],i' Xq ?_⟩);refine Bh (λδ M'=>M=M'/\∃x y z,δ=[some (.ref r),x,y,z]) (λδ M' j=>by rw[<-j.1];exact Xq) _ _ _ ⟨rfl,none,none,none,rfl⟩ ?_ ?_
 .rintro d hd δ M' ⟨rfl,x,y,z,rfl⟩ nx WU
  obtain⟨p,hp,rfl⟩:=dw.mp hd;have o:=mP p hp;refine⟨rfl,⟨p.1,rfl,o.len,_,by rw[o.nm],?_⟩⟩;refine AC (c:=decide ((1:Int)<=p.2.1)) (dQ o.l1) ⟨_,by rw[dQ (show p.2.1<=3 from o.l2)],?_⟩;refine AC (c:=decide ((0:Int)<=p.2.2)) (dQ o.r1) ⟨_,by rw[dQ (show p.2.2<=9 from o.r2)],?_⟩;exact WU _ _ ⟨rfl,_,_,_,rfl⟩
 .rintro δ M' ⟨rfl,x,y,z,rfl⟩
  exact⟨M,.refl,q⟩
def AN(G:Gl K mg a):Fq P w K mg base 3 a.bh AD:=by
 refine fq G.bh.toDG tX (λr u=>⟨_,(pb (pL (pF (sN G) r G.m (rP (qh u (pQ qu rfl G.g qp (qb v0)) (sG rfl G.cH)) pq)))
 (pj (uk eW rfl (qC v0) (uL (n:=3) rfl (qB (rW 2 tX) (qB (rW 3 tX) (qB (rW 4 tX) tZ))))
 (pb (pL (pF (sN G) r G.m (rP (pF (Cb G) r G.ag (qb U2)) pq)))
 (pb (pL (pF (sN G) r G.m (rP (qh u U3 (sG rfl G.cI)) pq)))
 (pj (pL (pF (sN G) r G.m (rP (pF (zS G) r G.S (ra v4 U1 (sG rfl G.cJ))) pq))))))))),?_⟩)
 rintro ds M Q ⟨r,gs,pl,pn,rfl,Xq,hp,h3,mP,q⟩
 have el:((gs.map qO).length:Int)=gs.length:=by rw[cQ]
 refine i' Xq ⟨_,by rw[dQ (show((gs.map qO).length:Int)<=3 by omega)],i' Xq ?_⟩;refine Bh (λδ M'=>M=M'/\∃x y z,δ=[some (.ref r),some (.ref pl),x,y,z]) (λδ M' j=>by rw[<-j.1];exact Xq) _ _ _ ⟨rfl,none,none,none,rfl⟩ ?_ ?_
 .rintro d hd δ M' ⟨rfl,x,y,z,rfl⟩ nx WU
  obtain⟨g,hg,rfl⟩:=dw.mp hd;have o:=mP g hg;refine⟨rfl,⟨g.1,rfl,o.len,_,by rw[o.nm],?_⟩⟩;have hm:inD (.str g.2.1) [.str "all",.str "turns"]=true:=by rcases o.man with e|e<;>(rw[e];rfl)
  refine⟨rfl,rfl,.str "a group's manner is all or turns",eG (λb=>[D.bl b,D.str "a group's manner is all or turns"]) hm,?_⟩;refine⟨g.2.2,pn,pl,4,rfl,hp,o.oZ,_,by rw[o.mem],?_⟩;exact WU _ _ ⟨rfl,_,_,_,rfl⟩
 .rintro δ M' ⟨rfl,x,y,z,rfl⟩
  exact⟨M,.refl,q⟩
def De(G:Gl K mg a):Fq P w K mg base 4 a.bj CT:=by
 refine fq G.bj.toDG tT (λr u=>⟨_,(pb (pL (pF (sN G) r G.m (rP (KY G.b1 rfl (pI v0 pk)) pq)))
 (pb (pK 3 tT (Kl G.b1 rfl (pI v0 pk)))
 (pb (pK 4 tT (rR v0 (sL pk) sP))
 (pb (pL (pF (sN G) r G.m (rP (qh u (pQ qu rfl G.g qp (qb v4)) (pQ qu rfl G.g qp (qb U3))) pq)))
 (pb (uk eW rfl (Sx rfl G.cC (rP U3 v4)) (uL (n:=2) rfl (qB (rW 5 tT) (qB (rW 6 tT) tZ)))
 (pj (pL (pF (sN G) r G.m (rP (pF (NV G) r G.bi (pX v5 (ra v6 U1 U2))) pq)))))
 (pb (pP (pG u (rR U3 sP (sL pk)) (pM (rP pq pq)))
 (pj (pL (pF (sN G) r G.m (rP (qh u (pI v4 pk) (pI v4 pk)) pq))))
 pH)
 (pj (pP (pG u (rR U3 (sL pk) sP) (pM (rP pq pq)))
 (pj (pL (pF (sN G) r G.m (rP (qh u (pI v4 pk) (pI v4 pk)) pq))))
 pH)))))))),?_⟩)
 rintro ds M Q ⟨v,pl,nl,pn,nm,rfl,hp,hn,ok,q⟩
 have part:∀{k:Str} {d:D} {C:DK},xu pn nm k d->C (.bl true) M->IH [.str k,d,.ref pl,.ref nl] M C:=λo c=>⟨_,_,pl,nl,pn,nm,rfl,hp,hn,o,c⟩;have need:∀{x:D} {C:DK},C .mI M->Jf [.bl true,x] M C:=λc=>⟨_,rfl,c⟩;have ne:∀{x y:Str},x≠y->(!(x==y))=true:=λh=>by simpa using h
 have nei:∀{x y:Int},x≠y->(!(x==y))=true:=λh=>by simpa using h
 have WN:∃WM,qm WM M/\Q .mI WM:=⟨M,.refl,q⟩;cases v with
 | bar x ns=>obtain⟨h1,h2,h3⟩:=ok;refine⟨_,rfl,_,rfl,?_⟩;refine⟨rfl,_,_,pl,nl,pn,nm,rfl,hp,hn,.mX x h1,_,rfl,trivial,⟨rfl,_,_,pl,nl,pn,nm,rfl,hp,hn,.names ns h2 h3,_,rfl,trivial,?_⟩⟩;exact⟨oZ rfl,oZ rfl,WN⟩
 | shut x ns=>obtain⟨h1,h2,h3⟩:=ok;refine⟨_,rfl,_,rfl,?_⟩;refine⟨rfl,_,_,pl,nl,pn,nm,rfl,hp,hn,.name x h1,_,rfl,trivial,⟨rfl,_,_,pl,nl,pn,nm,rfl,hp,hn,.mH ns h2 h3,_,rfl,trivial,?_⟩⟩;exact⟨oZ rfl,oZ rfl,WN⟩
 | always x y=>obtain⟨h1,h2,h3⟩:=ok;refine⟨_,rfl,_,rfl,?_⟩;refine⟨rfl,_,_,pl,nl,pn,nm,rfl,hp,hn,.name x h1,_,rfl,trivial,⟨rfl,_,_,pl,nl,pn,nm,rfl,hp,hn,.name y h2,_,rfl,trivial,?_⟩⟩;refine⟨oZ rfl,⟨_,by rw[ne h3],?_⟩⟩;exact⟨oZ rfl,WN⟩
 | night x y f l=>obtain⟨h1,h2,h3,h4,h5,h6⟩:=ok;refine⟨_,rfl,_,rfl,?_⟩;refine⟨rfl,_,_,pl,nl,pn,nm,rfl,hp,hn,.name x h1,_,rfl,trivial,⟨rfl,_,_,pl,nl,pn,nm,rfl,hp,hn,.name y h2,_,rfl,trivial,⟨rfl,_,_,pl,nl,pn,nm,rfl,hp,hn,.hour f h4.1 h4.2,_,rfl,trivial,⟨rfl,_,_,pl,nl,pn,nm,rfl,hp,hn,.hour l h5.1 h5.2,_,rfl,trivial,?_⟩⟩⟩⟩;refine⟨oZ rfl,⟨_,by rw[ne h3],?_⟩⟩;refine⟨oZ rfl,⟨_,by rw[nei h6],?_⟩⟩;exact WN
 | busy x y=>obtain⟨h1,h2,h3⟩:=ok;refine⟨_,rfl,_,rfl,?_⟩;refine⟨rfl,_,_,pl,nl,pn,nm,rfl,hp,hn,.name x h1,_,rfl,trivial,⟨rfl,_,_,pl,nl,pn,nm,rfl,hp,hn,.name y h2,_,rfl,trivial,?_⟩⟩;refine⟨oZ rfl,⟨_,by rw[ne h3],?_⟩⟩;exact⟨oZ rfl,WN⟩
 | silent x y n=>obtain⟨h1,h2,h3,h4,h5⟩:=ok;refine⟨_,rfl,_,rfl,?_⟩;refine⟨rfl,_,_,pl,nl,pn,nm,rfl,hp,hn,.name x h1,_,rfl,trivial,⟨rfl,_,_,pl,nl,pn,nm,rfl,hp,hn,.name y h2,_,rfl,trivial,⟨rfl,_,_,pl,nl,pn,nm,rfl,hp,hn,.turns n h4 h5,_,rfl,trivial,?_⟩⟩⟩;refine⟨oZ rfl,⟨_,by rw[ne h3],?_⟩⟩;exact⟨oZ rfl,WN⟩
 | wait x=>refine⟨_,rfl,_,rfl,?_⟩;refine⟨rfl,_,_,pl,nl,pn,nm,rfl,hp,hn,.mX x ok,_,rfl,trivial,?_⟩;exact⟨oZ rfl,oZ rfl,WN⟩
 | breaks x=>refine⟨_,rfl,_,rfl,?_⟩;refine⟨rfl,_,_,pl,nl,pn,nm,rfl,hp,hn,.mX x ok,_,rfl,trivial,?_⟩;exact⟨oZ rfl,oZ rfl,WN⟩
def A0(G:Gl K mg a):Fq P w K mg base 5 a.bk AB:=by
 refine fq G.bk.toDG uO (λr u=>⟨_,(pb (pL (pF (sN G) r G.m (rP (qh u (pQ qu rfl G.g qp (qb v0)) (sG rfl G.cK)) pq)))
 (pj (uk eW rfl (qC v0) (uL (n:=2) rfl (qB (rW 3 uO) (qB (rW 4 uO) tZ)))
 (pj (pL (pF (De G) r G.bj (ra v4 U1 U2))))))),?_⟩)
 rintro ds M Q ⟨r,ws,pl,nl,pn,nm,rfl,Xq,hp,hn,h16,mP,q⟩
 have el:((ws.map uU).length:Int)=ws.length:=by rw[cQ]
 refine i' Xq ⟨_,by rw[dQ (show((ws.map uU).length:Int)<=16 by omega)],i' Xq ?_⟩;refine Bh (λδ M'=>M=M'/\∃x y,δ=[some (.ref r),some (.ref pl),some (.ref nl),x,y]) (λδ M' j=>by rw[<-j.1];exact Xq) _ _ _ ⟨rfl,none,none,rfl⟩ ?_ ?_
 .rintro d hd δ M' ⟨rfl,x,y,rfl⟩ nx WU
  obtain⟨v,hv,rfl⟩:=dw.mp hd;exact⟨rfl,⟨v.2,pl,nl,pn,nm,rfl,hp,hn,mP v hv,WU _ _ ⟨rfl,_,_,rfl⟩⟩⟩
 .rintro δ M' ⟨rfl,x,y,rfl⟩
  exact⟨M,.refl,q⟩
structure pE where
 mH:List uD
 groups:List uj
 mF:List vc
noncomputable def pE.pn(l:pE):List Str:=l.mH.map (·.1)
noncomputable def pE.gn(l:pE):List Str:=l.groups.map (·.1)
noncomputable def pE.nm(l:pE):List Str:=l.pn++l.gn
structure qY(l:pE):Prop where
 p1:1<=l.mH.length
 p8:l.mH.length<=8
 po:∀p∈l.mH,EG p
 g3:l.groups.length<=3
 go:∀g∈l.groups,Fj l.pn g
 nd:l.nm.Nodup
 w16:l.mF.length<=16
 wo:∀w∈l.mF,Bz l.pn l.nm w.2
def DC{ss:List Str}(h:ss.Nodup):ww ss=true:=by unfold ww;rw[HD ss h];simp
def Dd:rb:=λds M Q=>CF λr1 r2 r3 (l:pE)=>ds=[.ref r1,.ref r2,.ref r3]/\oS M r1=some (l.mH.map qI)/\oS M r2=some (l.groups.map qO)/\oS M r3=some (l.mF.map uU)/\qY l/\Q .mI M
noncomputable def C1:D->D
 | .tup (x::_)=>x
 | _=>.mI
def yU(ps:List uD):(ps.map qI).map C1=(ps.map (·.1)).map D.str:=by rw[dU,dU];rfl
def yT(ps:List uj):(ps.map qO).map C1=(ps.map (·.1)).map D.str:=by rw[dU,dU];rfl
def CS(G:Gl K mg a):Fq P w K mg base 6 a.bl Dd:=by
 refine fq G.bl.toDG vP (λr u=>⟨_,(pb (pL (pF (AW G) r G.bg (qb v0)))
 (pb (vg (i:=3) vP.nd rfl (Or.inl rfl) rfl (xQ (ix:=[none]) (N':=["phone"])) (qC v0) (qA 0) rH (pI v0 pk))
 (pb (pL (pF (AN G) r G.bh (rP U1 U3)))
 (pb (pK 4 vP (pV U3 (qD rfl (xQ (ix:=[none]) (N':=["group"])) (qC U1) (qA 0) rH (pI v0 pk))))
 (pb (pL (pF (sN G) r G.m (rP (pF (Dv G) r G.ah (qb v4)) pq)))
 (pj (pL (pF (A0 G) r G.bk (ra U2 U3 v4))))))))),?_⟩)
 rintro ds M Q ⟨r1,r2,r3,l,rfl,h1,h2,h3,ok,q⟩
 have hz:=dF;have l1:=ok.p8;have l2:=ok.g3;refine⟨r1,l.mH,rfl,h1,ok.p1,ok.p8,ok.po,i' h1 ?_⟩;refine rq (f:=C1) h1 _ [] _ (by rw[cQ];simp only[dE];omega) (λd hd k hk=>?_) λp hp=>?_
 .obtain⟨x,_,rfl⟩:=dw.mp hd;exact hk
 rw[dW,yU];have s1:=qm.new (c:=.lst ((l.mH.map (·.1)).map D.str)) hp;have lp:oS (pB M p (.lst ((l.mH.map (·.1)).map D.str))) p=some (l.pn.map D.str):=pC;generalize pB M p (.lst ((l.mH.map (·.1)).map D.str))=M1 at s1 lp ⊢;refine⟨r2,l.groups,p,l.pn,rfl,s1.lst h2,lp,ok.g3,ok.go,?_⟩;refine i' (s1.lst h2) (rq (f:=C1) (s1.lst h2) _ [] _ (by rw[cQ];simp only[dE];omega) (λd hd k hk=>?_) λp2 WT=>?_)
 .obtain⟨x,_,rfl⟩:=dw.mp hd;exact hk
 rw[dW,yT];have s2:=qm.new (c:=.lst ((l.groups.map (·.1)).map D.str)) WT;refine i' (s2.lst lp) (i' pC ⟨?_,λp3 hp3=>?_⟩)
 .rw[cQ,cQ,cQ];show(l.mH.map (·.1)).length+_<=_;rw[cQ];omega
 have en:l.pn.map D.str++(l.groups.map (·.1)).map D.str=l.nm.map D.str:=by unfold pE.nm;rw[dH];rfl
 rw[en];have s3:=s2.trans (qm.new (c:=.lst (l.nm.map D.str)) hp3);have l3:=@pC (pB M1 p2 (.lst ((l.groups.map (·.1)).map D.str))) p3 (l.nm.map D.str);generalize pB (pB M1 p2 (.lst ((l.groups.map (·.1)).map D.str))) p3 (.lst (l.nm.map D.str))=M3 at s3 l3 ⊢;have ln:l.nm.length<4000:=by unfold pE.nm pE.pn pE.gn;rw[cT,cQ,cQ];omega
 refine⟨_,l.nm,rfl,.inr ⟨p3,rfl,l3⟩,ln,_,by rw[DC ok.nd],?_⟩;exact⟨r3,l.mF,p,p3,l.pn,l.nm,rfl,s3.lst (s1.lst h3),s3.lst lp,l3,ok.w16,ok.wo,M,s1.trans s3,q⟩
noncomputable def Qo(ph gr ws on pr gd:Addr):List (Str×D):=[("phones",.ref ph),("groups",.ref gr),("wishes",.ref ws),("on",.ref on),("phone_rows",.ref pr),("group_rows",.ref gd)]
noncomputable def Sv(l:pE):List (qV×D):=l.mH.map λp=>(Sum.inr p.1,qI p)
noncomputable def HR(l:pE):List (qV×D):=l.groups.map λg=>(Sum.inr g.1,qO g)
def sI(a:Ad)(M:Mp)(rs:List Addr)(ws:List vc):Prop:=rs.length=ws.length/\∀(i:Nat) (r:Addr) (v:vc),rs[i]?=some r->ws[i]?=some v->M r=some (.ins (v.2.cls a) v.2.nG)
def sT(a:Ad)(M:Mp)(p:Addr)(l:pE):Prop:=SS λph gr ws on pr gd (rs:List Addr)=>M p=some (.ins a.h (Qo ph gr ws on pr gd))/\oS M ph=some (l.mH.map qI)/\oS M gr=some (l.groups.map qO)/\
 oS M ws=some (rs.map D.ref)/\oS M on=some (l.mF.map λw=>D.bl w.1)/\y9 M pr=some (Sv l)/\y9 M gd=some (HR l)/\sI a M rs l.mF
def sI.keep{a:Ad}{M M':Mp}{p:Addr}{rs:List Addr}{ws:List vc}(h:sI a M rs ws)(k:rT p M M')(n:∀r∈rs,r≠p):sI a M' rs ws:=⟨h.1,λi r v e1 e2=>k r _ (n r (fi e1)) (h.2 i r v e1 e2)⟩
def sI.sub{a:Ad}{M M':Mp}{rs:List Addr}{ws:List vc}(h:sI a M rs ws)(k:qm M M'):sI a M' rs ws:=⟨h.1,λi r v e1 e2=>k r _ (h.2 i r v e1 e2)⟩
def sT.sub{a:Ad}{M M':Mp}{p:Addr}{l:pE}(h:sT a M p l)(s:qm M M'):sT a M' p l:=by obtain⟨ph,gr,ws,on,pr,gd,rs,h1,h2,h3,h4,h5,h6,h7,h8⟩:=h;exact⟨ph,gr,ws,on,pr,gd,rs,s _ _ h1,s.lst h2,s.lst h3,s.lst h4,s.lst h5,s.dk h6,s.dk h7,h8.sub s⟩
def PN(a:Ad):rb:=λds M Q=>F8 λp r1 r2 r3 (l:pE)=>ds=[.ref p,.ref r1,.ref r2,.ref r3]/\M p=some (.ins a.h [])/\oS M r1=some (l.mH.map qI)/\oS M r2=some (l.groups.map qO)/\oS M r3=some (l.mF.map uU)/\qY l/\
 ∀M',rT p M M'->sT a M' p l->(∀WM,(∀b c,(b=p\/M b=none)->M' b=some c->WM b=some c)->sT a WM p l)->Q .mI M'
def rE{M N:Mp}{p x:Addr}{c:uG}(k:rT p M N)(hp:N p=some c)(h:N x=none):M x=none:=by
 cases e:M x with
 | none=>rfl
 | some d=>
  have n:x≠p:=λz=>by rw[z,hp]at h;cases h
  rw[k x d n e]at h;cases h
def xT{M:Mp}{a:Addr}{es:List (qV×D)}(h:y9 M a=some es):M a=some (.dk es):=by
 unfold y9 at h;split at h
 .rename_i e;rw[e];cases h;rfl
 .cases h
theorem wQ{α:Type}(f:α->Str)(g:α->D):∀l:List α,wF (l.map λx=>D.tup [.str (f x),g x])=some (l.map λx=>(Sum.inr (f x),g x))
 | []=>rfl
 | x::r=>by show(wF (r.map λx=>D.tup [.str (f x),g x])).map ((Sum.inr (f x),g x)::·)=_;rw[wQ f g r];rfl
def J2{ss:List Str}(h:ss.Nodup):(ss.map λx=>(Sum.inr x:qV)).Nodup:=by
 induction ss with
 | nil=>exact eD
 | cons x r ih=>obtain⟨h1,h2⟩:=dM.mp h;rw[dP];refine dM.mpr ⟨λz=>h1 ?_,ih h2⟩;obtain⟨y,hy,e⟩:=dw.mp z;cases e;exact hy
def yz{α:Type}{f:α->Str}{g:α->D}{l:List α}(h:(l.map f).Nodup):((l.map λx=>((Sum.inr (f x):qV),g x)).map (·.1)).Nodup:=by rw[dU];have:=J2 h;rw[dU]at this;exact this
noncomputable def Bd(d:D):D:=.tup [C1 d,d]
noncomputable def Wf:D->D
 | .tup (x::_)=>x
 | _=>.mI
def RU(ws:List vc):(ws.map uU).map Wf=ws.map λw=>D.bl w.1:=by rw[dU];rfl
def Gr(ps:List uD):(ps.map qI).map Bd=ps.map λp=>D.tup [.str p.1,qI p]:=by rw[dU];rfl
def GQ(ps:List uj):(ps.map qO).map Bd=ps.map λp=>D.tup [.str p.1,qO p]:=by rw[dU];rfl
def sI.snoc{a:Ad}{M:Mp}{rs:List Addr}{ws:List vc}{r:Addr}{v:vc}(h:sI a M rs ws)(n:M r=none):sI a (pB M r (.ins (v.2.cls a) v.2.nG)) (rs++[r]) (ws++[v]):=by
 refine⟨by rw[cT,cT,h.1];rfl,λi r' v' e1 e2=>?_⟩;by_cases hi:i<rs.length
 .rw[eJ hi]at e1;rw[eJ (by rw[<-h.1];exact hi)]at e2;have:=h.2 i r' v' e1 e2;rw[tW (SY this n)];exact this
 .have Yi:i=rs.length:=by have:=(cS.mp e1).1;rw[cT,dG]at this;omega
  subst Yi;rw[eF (cZ _)]at e1;rw[h.1,eF (cZ _)]at e2;simp only[gI,iC,jm]at e1 e2;subst e1 e2;exact pN
def Qa(G:Gl K mg a):Fq P w K mg base 7 a.ak (PN a):=by
 refine fq G.ak.toDG Ed (λr u=>⟨_,(pb (pL (pF (CS G) r G.bl (ra U1 U2 U3)))
 (pb (pZ v0 (pW su rfl G.r sv (qb U1)))
 (pb (pZ v0 (pW su rfl G.r sv (qb U2)))
 (pb (pZ v0 (qD rfl (xQ (ix:=[none,none]) (N':=["on","wish"])) (qC U3) (uL (n:=2) rfl (qB (qA 0) (qB (qA 1) tZ))) rH (pF (Ic G) r G.bf (qb U1))))
 (pb (pZ v0 (qD rfl (xQ (ix:=[none,none]) (N':=["on","wish"])) (qC U3) (uL (n:=2) rfl (qB (qA 0) (qB (qA 1) tZ))) rH v0))
 (pb (pZ v0 (pW (Ek rfl) rfl G.bU D8 (qb (qD rfl (xQ (ix:=[none]) (N':=["phone"])) (qC U1) (qA 0) rH (pM (rP (pI v0 pk) v0))))))
 (pj (pZ v0 (pW (Ek rfl) rfl G.bU D8 (qb (qD rfl (xQ (ix:=[none]) (N':=["group"])) (qC U2) (qA 0) rH (pM (rP (pI v0 pk) v0))))))))))))),?_⟩)
 rintro ds M Q ⟨p,r1,r2,r3,l,rfl,hp,h1,h2,h3,ok,q⟩
 have hz:=dF;have l1:=ok.p8;have l2:=ok.g3;have l3:=ok.w16;refine⟨r1,r2,r3,l,rfl,h1,h2,h3,ok,?_⟩;refine i' h1 λph hph=>?_;obtain⟨n1,e1,k1,c1,p1⟩:=sX (fs':=[("phones",.ref ph)]) (c:=.lst (l.mH.map qI)) hp hph;refine pf e1 ⟨(G.ac "phones" rfl),by show 0<1000;decide,?_⟩;show uw _ _ _ _ (pB (pB M ph (.lst (l.mH.map qI))) p (.ins a.h [("phones",.ref ph)]));generalize pB (pB M ph (.lst (l.mH.map qI))) p (.ins a.h [("phones",.ref ph)])=N1 at k1 c1 p1 ⊢;have Xp:=k1.lst (pS h1 hp) h1;have h2':=k1.lst (pS h2 hp) h2;have Zl:=k1.lst (pS h3 hp) h3;have f1:oS N1 ph=some (l.mH.map qI):=rG c1;refine i' h2' λgr hgr=>?_;obtain⟨n2,e2,k2,c2,p2⟩:=sX (fs':=[("phones",.ref ph),("groups",.ref gr)]) (c:=.lst (l.groups.map qO)) p1 hgr;refine pf e2 ⟨(G.ac "groups" rfl),by show 1<1000;decide,?_⟩;show uw _ _ _ _ (pB (pB N1 gr (.lst (l.groups.map qO))) p (.ins a.h [("phones",.ref ph),("groups",.ref gr)]));generalize pB (pB N1 gr (.lst (l.groups.map qO))) p (.ins a.h [("phones",.ref ph),("groups",.ref gr)])=N2 at k2 c2 p2 ⊢;have g1:=k2.lst (pS Xp p1) Xp;have g2:=k2.lst (pS h2' p1) h2';have g3:=k2.lst (pS Zl p1) Zl;have f2:=k2.lst (pS f1 p1) f1;have f3:oS N2 gr=some (l.groups.map qO):=rG c2;have kk2:=k1.trans k2;have m2:M gr=none:=rE k1 p1 hgr;clear Xp h2' Zl f1 c1 c2 k1 k2 e1 e2;refine i' g3 ?_;refine wK (l.mF.map uU) (λpre acc δ Mx=>(∃x y,δ=[x,y])/\qm N2 Mx/\∃rs:List Addr,acc=rs.map D.ref/\(∀r∈rs,N2 r=none)/\sI a Mx rs (l.mF.take pre.length)) (λpre acc δ Mx j=>j.2.1.lst g3) _ [] [] _ _ rfl (by rw[cQ];simp only[dE];omega) ⟨⟨none,none,rfl⟩,.refl,[],rfl,λr hr=>absurd hr (dz),rfl,λi r v e=>by simp at e⟩ ?_ ?_
 .rintro pre d post e acc δ Mx ⟨⟨x,y,rfl⟩,sx,rs,rfl,fr,wa⟩ k hk
  obtain⟨v,hv,rfl⟩:∃v,l.mF[pre.length]?=some v/\d=uU v:=by
   have:(l.mF.map uU)[pre.length]?=some d:=by rw[<-e];simp
   rw[dq]at this;cases z:l.mF[pre.length]? with
   | none=>rw[z]at this;cases this
   | some v=>rw[z]at this;exact⟨v,rfl,(c9 this).symm⟩
  refine⟨rfl,⟨v.2,rfl,λr hr=>hk _ _ _ ⟨⟨_,_,rfl⟩,sx.trans (.new hr),rs++[r],?_,λr' hr'=>?_,?_⟩⟩⟩
  .rw[dH];rfl
  .rcases dR.mp hr' with z|z
   .exact fr r' z
   .rw[df.mp z];exact sx.none hr
  .rw[cT,dG,gU,hv];exact wa.snoc hr
 rintro acc δ Mx ⟨⟨x,y,rfl⟩,sx,rs,rfl,fr,wa⟩ ws hws
 have wa:sI a Mx rs l.mF:=by rw[cQ,e9]at wa;exact wa
 obtain⟨n3,e3,k3,c3,p3⟩:=sX (fs':=[("phones",.ref ph),("groups",.ref gr),("wishes",.ref ws)]) (c:=.lst (rs.map D.ref)) (sx _ _ p2) hws;refine pf e3 ⟨(G.ac "wishes" rfl),by show 2<1000;decide,?_⟩;show uw _ _ _ _ (pB (pB Mx ws (.lst (rs.map D.ref))) p (.ins a.h [("phones",.ref ph),("groups",.ref gr),("wishes",.ref ws)]));generalize pB (pB Mx ws (.lst (rs.map D.ref))) p (.ins a.h [("phones",.ref ph),("groups",.ref gr),("wishes",.ref ws)])=N3 at k3 c3 p3 ⊢;have px:=sx _ _ p2;have i1:=k3.lst (pS (sx.lst g1) px) (sx.lst g1);have i2:=k3.lst (pS (sx.lst g2) px) (sx.lst g2);have i3:=k3.lst (pS (sx.lst g3) px) (sx.lst g3);have f4:=k3.lst (pS (sx.lst f2) px) (sx.lst f2);have f5:=k3.lst (pS (sx.lst f3) px) (sx.lst f3);have f6:oS N3 ws=some (rs.map D.ref):=rG c3;have rp:∀r∈rs,r≠p:=λr hr z=>by have:=fr r hr;rw[z,p2]at this;cases this
 have w3:=wa.keep k3 rp;have kk3:=(kk2.trans sx.keep).trans k3;have m3:M ws=none:=rE (kk2.trans sx.keep) px hws;have mr:∀r∈rs,M r=none:=λr hr=>rE kk2 p2 (fr r hr);clear g1 g2 g3 f2 f3 c3 k3 e3 wa px kk2;refine i' i3 (BY (f:=Wf) (λδ=>∃x y,δ=[x,y]) i3 _ [] _ ⟨none,none,rfl⟩ (by rw[cQ];simp only[dE];omega) (λd hd δ hj k hk=>?_) λon ZV=>?_)
 .obtain⟨x,y,rfl⟩:=hj;obtain⟨v,_,rfl⟩:=dw.mp hd;exact⟨rfl,hk _ ⟨_,_,rfl⟩⟩
 rw[dW,RU];obtain⟨n4,e4,k4,c4,p4⟩:=sX (fs':=[("phones",.ref ph),("groups",.ref gr),("wishes",.ref ws),("on",.ref on)]) (c:=.lst (l.mF.map λw=>D.bl w.1)) p3 ZV;refine pf e4 ⟨(G.ac "on" rfl),by show 3<1000;decide,?_⟩;show uw _ _ _ _ (pB (pB N3 on (.lst (l.mF.map λw=>D.bl w.1))) p (.ins a.h [("phones",.ref ph),("groups",.ref gr),("wishes",.ref ws),("on",.ref on)]));generalize pB (pB N3 on (.lst (l.mF.map λw=>D.bl w.1))) p (.ins a.h [("phones",.ref ph),("groups",.ref gr),("wishes",.ref ws),("on",.ref on)])=N4 at k4 c4 p4 ⊢;have j1:=k4.lst (pS i1 p3) i1;have j2:=k4.lst (pS i2 p3) i2;have f7:=k4.lst (pS f4 p3) f4;have f8:=k4.lst (pS f5 p3) f5;have f9:=k4.lst (pS f6 p3) f6;have fa:oS N4 on=some (l.mF.map λw=>D.bl w.1):=rG c4;have w4:=w3.keep k4 rp;have YM:=kk3.trans k4;have m4:M on=none:=rE kk3 p3 ZV;clear i1 i2 i3 f4 f5 f6 c4 k4 e4 w3 kk3;refine i' j1 (rq (f:=Bd) j1 _ [] _ (by rw[cQ];simp only[dE];omega) (λd hd k hk=>?_) λq1 Xr=>?_)
 .obtain⟨v,_,rfl⟩:=dw.mp hd;exact⟨oZ rfl,hk⟩
 rw[dW,Gr];have Zm:=qm.new (c:=.lst (l.mH.map λp=>D.tup [.str p.1,qI p])) Xr;refine i' pC (i' (wQ (λp:uD=>p.1) qI l.mH) ⟨yz (iw (List.sublist_append_left _ _) ok.nd),λpr hpr=>?_⟩);obtain⟨n5,e5,k5,c5,p5⟩:=sX (fs':=[("phones",.ref ph),("groups",.ref gr),("wishes",.ref ws),("on",.ref on),("phone_rows",.ref pr)]) (c:=.dk (l.mH.map λx=>(Sum.inr x.1,qI x))) (Zm _ _ p4) hpr;refine pf e5 ⟨(G.ac "phone_rows" rfl),by show 4<1000;decide,?_⟩;have k5:=Zm.keep.trans k5;have Yx:vT "phone_rows" (.ref pr) [("phones",.ref ph),("groups",.ref gr),("wishes",.ref ws),("on",.ref on)]=([("phones",.ref ph),("groups",.ref gr),("wishes",.ref ws),("on",.ref on),("phone_rows",.ref pr)]:List (Str×D)):=rfl;rw[Yx];generalize pB (pB (pB N4 q1 (.lst (l.mH.map λp=>D.tup [.str p.1,qI p]))) pr (.dk (l.mH.map λx=>(Sum.inr x.1,qI x)))) p (.ins a.h [("phones",.ref ph),("groups",.ref gr),("wishes",.ref ws),("on",.ref on),("phone_rows",.ref pr)])=N5 at k5 c5 p5 ⊢;have mm:=k5.lst (pS j2 p4) j2;have fb:=k5.lst (pS f7 p4) f7;have fc:=k5.lst (pS f8 p4) f8;have fd:=k5.lst (pS f9 p4) f9;have fe:=k5.lst (pS fa p4) fa;have ff:y9 N5 pr=some (Sv l):=BN c5;have w5:=w4.keep k5 rp;have YN:=YM.trans k5;have m5:M pr=none:=rE (YM.trans Zm.keep) (Zm _ _ p4) hpr;clear j1 j2 f7 f8 f9 fa c5 k5 e5 w4 YM;refine i' mm (rq (f:=Bd) mm _ [] _ (by rw[cQ];simp only[dE];omega) (λd hd k hk=>?_) λq2 Yf=>?_)
 .obtain⟨v,_,rfl⟩:=dw.mp hd;exact⟨oZ rfl,hk⟩
 rw[dW,GQ];have sq2:=qm.new (c:=.lst (l.groups.map λg=>D.tup [.str g.1,qO g])) Yf;refine i' pC (i' (wQ (λp:uj=>p.1) qO l.groups) ⟨yz (iw (jr _ _) ok.nd),λgd hgd=>?_⟩);obtain⟨n6,e6,k6,c6,p6⟩:=sX (fs':=Qo ph gr ws on pr gd) (c:=.dk (HR l)) (sq2 _ _ p5) hgd;have k6:=sq2.keep.trans k6;refine pf e6 ⟨(G.ac "group_rows" rfl),by show 5<1000;decide,_,.refl,?_⟩;have m6:M gd=none:=rE (YN.trans sq2.keep) (sq2 _ _ p5) hgd;have w6:=w5.keep k6 rp;have y1:=k6.lst (pS fb p5) fb;have y2:=k6.lst (pS fc p5) fc;have y3:=k6.lst (pS fd p5) fd;have y4:=k6.lst (pS fe p5) fe;have y5:=k6.dk (Cd ff p5) ff;refine q _ (YN.trans k6) ⟨ph,gr,ws,on,pr,gd,rs,p6,y1,y2,y3,y4,y5,BN c6,w6⟩ λWM hs=>?_;exact⟨ph,gr,ws,on,pr,gd,rs,hs _ _ (.inl rfl) p6,rG (hs _ _ (.inr hph) (pR y1)),rG (hs _ _ (.inr m2) (pR y2)),rG (hs _ _ (.inr m3) (pR y3)),rG (hs _ _ (.inr m4) (pR y4)),BN (hs _ _ (.inr m5) (xT y5)),BN (hs _ _ (.inr m6) c6),w6.1,λi r v e1 e2=>hs _ _ (.inr (mr r (fi e1))) (w6.2 i r v e1 e2)⟩
theorem ya{α:Type}(f:α->Str)(g:α->D)(k:Str):∀l:List α,vq (l.map λx=>((Sum.inr (f x):qV),g x)) (Sum.inr k)=(l.find? λx=>decide (f x=k)).map g
 | []=>rfl
 | x::r=>by
  have ih:=ya f g k r;unfold vq at ih ⊢;rw[dP,fF,fF];by_cases h:f x=k
  .have h':decide ((Sum.inr (f x):qV)=Sum.inr k)=true:=dQ (by rw[h]);simp[h]
  .have h':¬(Sum.inr (f x):qV)=Sum.inr k:=λz=>h (jT z);simp only[h,h',decide_false];exact ih
noncomputable def pE.mX(l:pE)(x:Str):Option uD:=l.mH.find? λp=>decide (p.1=x)
noncomputable def pE.group(l:pE)(x:Str):Option uj:=l.groups.find? λg=>decide (g.1=x)
noncomputable def pE.mE(l:pE)(x:Str):List Str:=(l.group x).elim [x] λg=>g.2.2
noncomputable def pE.mM(l:pE)(x:Str):Str:=(l.group x).elim "one" λg=>g.2.1
def Gb(l:pE)(x:Str):vq (Sv l) (Sum.inr x)=(l.mX x).map qI:=ya (λp:uD=>p.1) qI x l.mH
def we(l:pE)(x:Str):vq (HR l) (Sum.inr x)=(l.group x).map qO:=ya (λp:uj=>p.1) qO x l.groups
def yR(a:Ad):rb:=λds M Q=>Bq λp (l:pE)=>ds=[.ref p]/\sT a M p l/\l.mH.length<=100/\∀q,M q=none->Q (.ref q) (pB M q (.lst (l.pn.map D.str)))
def Ej(a:Ad):rb:=λds M Q=>Bq λp (l:pE)=>ds=[.ref p]/\sT a M p l/\l.mH.length<=100/\l.groups.length<=100/\∀q,M q=none->Q (.ref q) (pB M q (.lst (l.nm.map D.str)))
def Fo(a:Ad):rb:=λds M Q=>CF λp x v (l:pE)=>ds=[.ref p,.str x]/\sT a M p l/\l.mX x=some v/\Q (.int v.2.1) M
def FZ(a:Ad):rb:=λds M Q=>CF λp x v (l:pE)=>ds=[.ref p,.str x]/\sT a M p l/\l.mX x=some v/\Q (.int v.2.2) M
def Af(a:Ad):rb:=λds M Q=>CO λp x (l:pE)=>ds=[.ref p,.str x]/\sT a M p l/\∀q,M q=none->Q (.ref q) (pB M q (.lst ((l.mE x).map D.str)))
def C7(a:Ad):rb:=λds M Q=>CO λp x (l:pE)=>ds=[.ref p,.str x]/\sT a M p l/\Q (.str (l.mM x)) M
def sA(G:Gl K mg a):Fq P w K mg base 1 a.N (yR a):=by
 refine fq G.N.toDG ye (λr u=>⟨_,(pj (pD (qD rfl (xQ (ix:=[none]) (N':=["phone"])) (qC (pA v0)) (qA 0) rH (pI v0 pk)))),?_⟩)
 rintro ds M Q ⟨p,l,rfl,hp,hl,q⟩
 have hz:=dF;obtain⟨ph,gr,ws,on,pr,gd,rs,h1,h2,h3,h4,h5,h6,h7,h8⟩:=hp;refine pf h1 (i' rfl (i' h2 ?_));refine rq (f:=C1) h2 _ [] _ (by rw[cQ];simp only[dE];omega) (λd hd k hk=>?_) λq1 Xr=>?_
 .obtain⟨x,_,rfl⟩:=dw.mp hd;exact hk
 rw[dW,yU];exact⟨_,.refl,q q1 Xr⟩
def yr(G:Gl K mg a):Fq P w K mg base 2 a.al (Ej a):=by
 refine fq G.al.toDG C8 (λr u=>⟨_,(pj (pD (pV (vE v0 G.h.toCls G.N (sA G) r) (qD rfl (xQ (ix:=[none]) (N':=["group"])) (qC (pA v0)) (qA 0) rH (pI v0 pk))))),?_⟩)
 rintro ds M Q ⟨p,l,rfl,hp,hl,hl2,q⟩
 have hz:=dF;have WY:=hp;obtain⟨ph,gr,ws,on,pr,gd,rs,h1,h2,h3,h4,h5,h6,h7,h8⟩:=hp;refine pf h1 ⟨rfl,_,⟨rfl,rfl⟩,p,l,rfl,WY,hl,λq1 Xr=>?_⟩;have s1:=qm.new (c:=.lst (l.pn.map D.str)) Xr;have e1:=@pC M q1 (l.pn.map D.str);generalize pB M q1 (.lst (l.pn.map D.str))=M1 at s1 e1 ⊢;have Zl:=s1.lst h3;refine pf (s1 _ _ h1) (i' rfl (i' Zl ?_));refine rq (f:=C1) Zl _ [] _ (by rw[cQ];simp only[dE];omega) (λd hd k hk=>?_) λq2 Yf=>?_
 .obtain⟨x,_,rfl⟩:=dw.mp hd;exact hk
 rw[dW,yT];have s2:=qm.new (c:=.lst ((l.groups.map (·.1)).map D.str)) Yf;refine i' (s2.lst e1) (i' pC ⟨?_,λq3 hq3=>?_⟩)
 .rw[cQ,cQ,cQ];show(l.mH.map (·.1)).length+_<=_;rw[cQ];omega
 have en:l.pn.map D.str++(l.groups.map (·.1)).map D.str=l.nm.map D.str:=by unfold pE.nm;rw[dH];rfl
 rw[en];exact⟨_,(s1.trans s2).upd,q q3 ((s1.trans s2).none hq3)⟩
def Di(G:Gl K mg a):Fq P w K mg base 1 a.bF (Fo a):=by
 refine fq G.bF.toDG CV (λr u=>⟨_,(pj (pD (pI (zd u (pA v0) U1) pk))),?_⟩)
 rintro ds M Q ⟨p,x,v,l,rfl,hp,hv,q⟩
 obtain⟨ph,gr,ws,on,pr,gd,rs,h1,h2,h3,h4,h5,h6,h7,h8⟩:=hp;exact pf h1 (i' rfl (i' rfl (i' h6 (i' (x:=qI v) (by rw[Gb,hv];rfl) ⟨M,.refl,q⟩))))
def zv(G:Gl K mg a):Fq P w K mg base 1 a.aN (FZ a):=by
 refine fq G.aN.toDG Ea (λr u=>⟨_,(pj (pD (pI (zd u (pA v0) U1) pk))),?_⟩)
 rintro ds M Q ⟨p,x,v,l,rfl,hp,hv,q⟩
 obtain⟨ph,gr,ws,on,pr,gd,rs,h1,h2,h3,h4,h5,h6,h7,h8⟩:=hp;exact pf h1 (i' rfl (i' rfl (i' h6 (i' (x:=qI v) (by rw[Gb,hv];rfl) ⟨M,.refl,q⟩))))
def uq(G:Gl K mg a):Fq P w K mg base 1 a.aa (Af a):=by
 refine fq G.aa.toDG zx (λr u=>⟨_,(pb (pP (LL u U1 (pA v0))
 (pj (pD (pW su rfl G.r sv (qb (pI (zd u (pA v0) U1) pk)))))
 pH)
 (pj (pD (qJ (qb U1))))),?_⟩)
 rintro ds M Q ⟨p,x,l,rfl,hp,q⟩
 obtain⟨ph,gr,ws,on,pr,gd,rs,h1,h2,h3,h4,h5,h6,h7,h8⟩:=hp;refine pf h1 (i' rfl (i' h7 ?_));cases e:l.group x with
 | none=>refine NA (c:=(vq (HR l) (Sum.inr x)).isSome) (by rw[we,e];rfl) ⟨oZ rfl,λq1 Xr=>⟨_,.refl,?_⟩⟩;have:=q q1 Xr;unfold pE.mE at this;rw[e]at this;exact this
 | some g=>refine AC (c:=(vq (HR l) (Sum.inr x)).isSome) (by rw[we,e];rfl) (pf h1 (i' rfl (i' rfl (i' h7 (i' (x:=qO g) (by rw[we,e];rfl) λq1 Xr=>⟨_,.refl,?_⟩)))));have:=q q1 Xr;unfold pE.mE at this;rw[e]at this;exact this
def xA(G:Gl K mg a):Fq P w K mg base 1 a.aL (C7 a):=by
 refine fq G.aL.toDG Bu (λr u=>⟨_,(pb (pP (LL u U1 (pA v0))
 (pj (pD (pI (zd u (pA v0) U1) pk)))
 pH)
 (pj (pD pq))),?_⟩)
 rintro ds M Q ⟨p,x,l,rfl,hp,q⟩
 obtain⟨ph,gr,ws,on,pr,gd,rs,h1,h2,h3,h4,h5,h6,h7,h8⟩:=hp;refine pf h1 (i' rfl (i' h7 ?_));cases e:l.group x with
 | none=>refine NA (c:=(vq (HR l) (Sum.inr x)).isSome) (by rw[we,e];rfl) ⟨M,.refl,?_⟩;unfold pE.mM at q;rw[e]at q;exact q
 | some g=>refine AC (c:=(vq (HR l) (Sum.inr x)).isSome) (by rw[we,e];rfl) (pf h1 (i' rfl (i' rfl (i' h7 (i' (x:=qO g) (by rw[we,e];rfl) ⟨M,.refl,?_⟩)))));unfold pE.mM at q;rw[e]at q;exact q
noncomputable def Od:List Int:=[1,1,2,2,3]
noncomputable def Qc:List Int:=[0,1,1,2,5,9]
noncomputable def Ol:List Str:=["all","turns"]
noncomputable def GC(t:List Int)(i:Int):Int:=t.getD i.toNat 0
noncomputable def vN(s:Int)(i:Nat):uD:=(xK s (0+(i:Nat)),GC Od (qo (s+17*(0+(i:Nat))*(0+(i:Nat))) 16807 5),GC Qc (qo (s+17*(0+(i:Nat))*(0+(i:Nat))) 39373 6))
noncomputable def rL(s m:Int):Nat:=(2+qo s 48271 (m - 1)).toNat
noncomputable def qv(s m:Int):List uD:=(List.range (rL s m)).map (vN s)
noncomputable def Ai(s:Int)(own:List Str)(i:Nat):uj:=(xK s (8+(0+(i:Nat))),B2 Ol (qo (s+5*(0+(i:Nat))) 742938285 2),vG own (s+11*(0+(i:Nat))) 4)
noncomputable def vt(s:Int):Nat:=(qo s 69621 3).toNat
noncomputable def qU(s:Int)(own:List Str):List uj:=(List.range (vt s)).map (Ai s own)
def Gq{ts:List Int}{i:Int}(h0:0<=i)(h1:i<ts.length):wn (ts.map D.int) i=some (D.int (GC ts i)):=by
 obtain⟨n,rfl⟩:=d9 h0;have YF:n<ts.length:=by omega
 refine ua ?_;rw[dq,cU YF];simp[GC,YF]
def BG{n:Nat}{pre post:List D}{d:D}(e:pre++d::post=(List.range n).map λi=>D.int (0+(i:Nat))):d=.int (0+(pre.length:Nat))/\pre.length<n:=by
 have h:((List.range n).map λi=>D.int (0+(i:Nat)))[pre.length]?=some d:=by rw[<-e];simp
 have hl:pre.length<n:=by
  have:=(cS.mp h).1
  simpa using this
 rw[dq,iU hl]at h;exact⟨(c9 h).symm,hl⟩
def Cw{α β:Type}(f:Nat->α)(g:α->β)(n:Nat):((List.range n).map f).map g++[g (f n)]=((List.range (n+1)).map f).map g:=by rw[iQ,dH,dH];rfl
def HW:rb:=λds M Q=>Bq λs m=>ds=[.int s,.int m]/\2<=m/\m<=100/\∀q,M q=none->Q (.ref q) (pB M q (.lst ((qv s m).map qI)))
def HF:rb:=λds M Q=>CO λs o own=>ds=[.int s,.ref o]/\oS M o=some (own.map D.str)/\own≠[]/\own.length<=64/\∀q,M q=none->Q (.ref q) (pB M q (.lst ((qU s own).map qO)))
def yW{s m:Int}(h2:2<=m)(h:m<=100):rL s m<=100/\2<=rL s m:=by have d0:=qQ (c:=s) (f:=48271) (m:=m - 1) (by omega);have d1:=qG (c:=s) (f:=48271) (m:=m - 1) (by omega);unfold rL;omega
def wM{s:Int}:vt s<=3:=by have d0:=qQ (c:=s) (f:=69621) (m:=3) (by decide);have d1:=qG (c:=s) (f:=69621) (m:=3) (by decide);unfold vt;omega
def H9(G:Gl K mg a):Fq P w K mg base 2 a.bm HW:=by
 refine fq G.bm.toDG uJ (λr u=>⟨_,(pb (pK 2 uJ (qJ sF))
 (pb (uk eW rfl (uY rfl G.O (qb (pV pk (pF (qE G) r G.i (ra v0 pk (pV U1 pk)))))) (rW 3 uJ)
 (pb (pK 4 uJ (pI (pM (pX pk (pX pk (ra pk pk pk)))) (pF (qE G) r G.i (ra (pV v0 (pV (pV pk U3) U3)) pk pk))))
 (pj (pL (qZ U2 (qb (pM (ra (pF (Jt G) r G.ai (rP v0 U3)) v4 (pI (pM (pX pk (pX pk (pX pk (ra pk pk pk))))) (pF (qE G) r G.i (ra (pV v0 (pV (pV pk U3) U3)) pk pk)))))))))))
 (pj (pD U2)))),?_⟩)
 rintro ds M Q ⟨s,m,rfl,h2,h100,q⟩
 have hz:=dF;have d0:=qQ (c:=s) (f:=48271) (m:=m - 1) (by omega);have d1:=qG (c:=s) (f:=48271) (m:=m - 1) (by omega);have nl:=(yW (s:=s) h2 h100).1;refine⟨oZ rfl,λr hr=>⟨s,_,_,rfl,by show 0<m - 1;omega,rfl,⟨?_,?_⟩,?_⟩⟩
 .show -(2 ^ 62)<=2+qo s 48271 (m - 1);omega
 .show 2+qo s 48271 (m - 1)<2 ^ 62;omega
 refine vk ((List.range (rL s m)).map λi=>D.int (0+(i:Nat))) (λpre δ M'=>M'=pB M r (.lst (((List.range pre.length).map (vN s)).map qI))/\∃x y,δ=[some (.int s),some (.int m),some (.ref r),x,y]) (λ_ _ _ _=>trivial) _ [] _ _ rfl ⟨rfl,none,none,rfl⟩ ?_ ?_
 .rintro pre d post e δ M' ⟨rfl,x,y,rfl⟩ nx WU
  obtain⟨rfl,WW⟩:=BG e;generalize hi:pre.length=i at WW WU ⊢;have cm:C6 (17*(0+(i:Int))) (0+(i:Int)):=.inr ⟨by omega,by omega⟩;have c17:C6 17 (0+(i:Int)):=.inl ⟨by decide,by decide⟩;have t5:wn [D.int 1,.int 1,.int 2,.int 2,.int 3] (qo (s+17*(0+(i:Int))*(0+(i:Int))) 16807 5)=some (.int (vN s i).2.1):=Gq (ts:=Od) (qQ (by decide)) (qG (by decide));have t6:wn [D.int 0,.int 1,.int 1,.int 2,.int 5,.int 9] (qo (s+17*(0+(i:Int))*(0+(i:Int))) 39373 6)=some (.int (vN s i).2.2):=Gq (ts:=Qc) (qQ (by decide)) (qG (by decide));refine⟨oZ rfl,c17,cm,_,_,_,rfl,by decide,i' t5 ?_⟩;refine⟨by show(oS _ r).isSome=true;rw[pC];rfl,s,_,rfl,oZ rfl,c17,cm,_,_,_,rfl,by decide,i' t6 ⟨oZ rfl,i' pC ⟨?_,?_⟩⟩⟩
  .rw[cQ,cQ,d6];omega
  .refine WU _ _ ⟨?_,_,_,rfl⟩;rw[rF,cT,hi];show pB M r (.lst (_++[qI (vN s i)]))=_;rw[Cw];rfl
 .rintro δ M' ⟨rfl,x,y,rfl⟩
  refine⟨_,.refl,?_⟩;rw[cQ,d6];exact q r hr
def HC(G:Gl K mg a):Fq P w K mg base 3 a.bn HF:=by
 refine fq G.bn.toDG uI (λr u=>⟨_,(pb (pK 2 uI (qJ sF))
 (pb (uk eW rfl (uY rfl G.O (qb (pF (qE G) r G.i (ra v0 pk pk)))) (rW 3 uI)
 (pb (pK 4 uI (pI (pM (rP pq pq)) (pF (qE G) r G.i (ra (pV v0 (pV pk U3)) pk pk))))
 (pj (pL (qZ U2 (qb (pM (ra (pF (Jt G) r G.ai (rP v0 (pV pk U3))) v4 (pF (xW G) r G.T (ra U1 (pV v0 (pV pk U3)) pk))))))))))
 (pj (pD U2)))),?_⟩)
 rintro ds M Q ⟨s,o,own,rfl,ho,W8,h64,q⟩
 have hz:=dF;have d0:=qQ (c:=s) (f:=69621) (m:=3) (by decide);have d1:=qG (c:=s) (f:=69621) (m:=3) (by decide);have nl:=wM (s:=s);refine⟨oZ rfl,λr hr=>⟨s,_,_,rfl,by decide,rfl,⟨?_,?_⟩,?_⟩⟩
 .show -(2 ^ 62)<=qo s 69621 3;omega
 .show qo s 69621 3<2 ^ 62;omega
 have nor:o≠r:=λz=>by rw[z]at ho;unfold oS at ho;rw[hr]at ho;cases ho
 refine vk ((List.range (vt s)).map λi=>D.int (0+(i:Nat))) (λpre δ M'=>M'=pB M r (.lst (((List.range pre.length).map (Ai s own)).map qO))/\∃x y,δ=[some (.int s),some (.ref o),some (.ref r),x,y]) (λ_ _ _ _=>trivial) _ [] _ _ rfl ⟨rfl,none,none,rfl⟩ ?_ ?_
 .rintro pre d post e δ M' ⟨rfl,x,y,rfl⟩ nx WU
  obtain⟨rfl,WW⟩:=BG e;generalize hi:pre.length=i at WW WU ⊢;have c5:C6 5 (0+(i:Int)):=.inl ⟨by decide,by decide⟩;have c11:C6 11 (0+(i:Int)):=.inl ⟨by decide,by decide⟩;have tm:wn [D.str "all",.str "turns"] (qo (s+5*(0+(i:Int))) 742938285 2)=some (.str (Ai s own i).2.1):=Hv (row:=Ol) (qQ (by decide)) (qG (by decide));have Xn:oS (pB M r (.lst (((List.range i).map (Ai s own)).map qO))) o=some (own.map D.str):=by unfold oS;rw[tW nor];exact ho
  refine⟨oZ rfl,c5,_,_,_,rfl,by decide,i' tm ?_⟩;refine⟨by show(oS _ r).isSome=true;rw[pC];rfl,s,_,rfl,c11,o,_,_,own,rfl,Xn,W8,by decide,h64,oZ rfl,i' pC ⟨?_,?_⟩⟩
  .rw[cQ,cQ,d6];omega
  .refine WU _ _ ⟨?_,_,_,rfl⟩;rw[rF,cT,hi];show pB M r (.lst (_++[qO (Ai s own i)]))=_;rw[Cw];rfl
 .rintro δ M' ⟨rfl,x,y,rfl⟩
  refine⟨_,.refl,?_⟩;rw[cQ,d6];exact q r hr
noncomputable def I0(ns:List Int)(own nm:List Str)(i:Nat):vc:=(decide (0<qo (cell ns (1+(0+(i:Nat)))+31*(0+(i:Nat))*(0+(i:Nat))) 22695477 6),vZ (cell ns (1+(0+(i:Nat)))+31*(0+(i:Nat))*(0+(i:Nat))) own nm)
noncomputable def wR(s:Int):Nat:=(qo s 950706376 11).toNat
noncomputable def Cr(ns:List Int)(m:Int):pE:=
 let s:=cell ns 0;let own:=(qv s m).map (·.1);let gs:=qU s own
 ⟨qv s m,gs,(List.range (wR s)).map (I0 ns own (own++gs.map (·.1)))⟩
def K1:rb:=λds M Q=>Bq λns m=>ds=[.rl (ns.map D.int),.int m]/\2<=m/\m<=8/\∀r1 r2 r3 M',qm M M'->oS M' r1=some ((Cr ns m).mH.map qI)->oS M' r2=some ((Cr ns m).groups.map qO)->oS M' r3=some ((Cr ns m).mF.map uU)->Q (.tup [.ref r1,.ref r2,.ref r3]) M'
def NB(G:Gl K mg a):Fq P w K mg base 4 a.bp K1:=by
 refine fq G.bp.toDG sd (λr u=>⟨_,(pb (pK 2 sd (pF (Gw G) r G.H (rP v0 pk)))
 (pb (pK 3 sd (pF (H9 G) r G.bm (rP U2 U1)))
 (pb (vg (i:=4) sd.nd rfl (Or.inl rfl) rfl (xQ (ix:=[none]) (N':=["_law_phone"])) (qC U3) (qA 0) rH (pI v0 pk))
 (pb (pK 5 sd (pF (HC G) r G.bn (rP U2 v4)))
 (pb (pK 6 sd (pV v4 (qD rfl (xQ (ix:=[none]) (N':=["_law_group"])) (qC v5) (qA 0) rH (pI v0 pk))))
 (pb (pK 7 sd (qJ sF))
 (pb (uk eW rfl (uY rfl G.O (qb (pF (qE G) r G.i (ra U2 pk pk)))) (rW 8 sd)
 (pb (pK 9 sd (pV (pF (Gw G) r G.H (rP v0 (pV pk v8))) (pV (pV pk v8) v8)))
 (pj (pL (qZ v7 (qb (pM (rP (qh u (pF (qE G) r G.i (ra v9 pk pk)) pk) (pF (PU G) r G.bo (ra v9 v4 v6))))))))))
 (pj (pD (pM (ra U3 v5 v7))))))))))),?_⟩)
 rintro ds M Q ⟨ns,m,rfl,h2,h8,q⟩
 have hz:=dF;have pl:=yW (s:=cell ns 0) h2 (by omega);have p8:rL (cell ns 0) m<=8:=by have d1:=qG (c:=cell ns 0) (f:=48271) (m:=m - 1) (by omega);unfold rL;omega
 have gl:=wM (s:=cell ns 0);have lp:(qv (cell ns 0) m).length=rL (cell ns 0) m:=by unfold qv;rw[cQ,d6]
 refine⟨ns,0,rfl,cell ns 0,m,rfl,h2,by omega,λr1 Xq=>?_⟩;have s1:=qm.new (c:=.lst ((qv (cell ns 0) m).map qI)) Xq;have a1:=@pC M r1 ((qv (cell ns 0) m).map qI);generalize pB M r1 (.lst ((qv (cell ns 0) m).map qI))=M1 at s1 a1 ⊢;refine i' a1 (rq (f:=C1) a1 _ [] _ (by rw[cQ];simp only[dE];omega) (λd hd k hk=>?_) λo ho=>?_)
 .obtain⟨x,_,rfl⟩:=dw.mp hd;exact hk
 rw[dW,yU];have s2:=s1.trans (qm.new (c:=.lst (((qv (cell ns 0) m).map (·.1)).map D.str)) ho);have b1:=(qm.new (c:=.lst (((qv (cell ns 0) m).map (·.1)).map D.str)) ho).lst a1;have bo:=@pC M1 o (((qv (cell ns 0) m).map (·.1)).map D.str);generalize pB M1 o (.lst (((qv (cell ns 0) m).map (·.1)).map D.str))=M2 at s2 b1 bo ⊢;have ol:((qv (cell ns 0) m).map (·.1)).length=rL (cell ns 0) m:=by rw[cQ,lp]
 have one:(qv (cell ns 0) m).map (·.1)≠[]:=λz=>by rw[z]at ol;have:0=rL (cell ns 0) m:=ol;omega
 have WY:Cr ns m=⟨qv (cell ns 0) m,qU (cell ns 0) ((qv (cell ns 0) m).map (·.1)),(List.range (wR (cell ns 0))).map (I0 ns ((qv (cell ns 0) m).map (·.1)) ((qv (cell ns 0) m).map (·.1)++(qU (cell ns 0) ((qv (cell ns 0) m).map (·.1))).map (·.1)))⟩:=rfl;rw[WY]at q;generalize (qv (cell ns 0) m).map (·.1)=own at bo ol one q ⊢;refine⟨cell ns 0,o,own,rfl,bo,one,by omega,λr2 Yy=>?_⟩;have t3:=qm.new (c:=.lst ((qU (cell ns 0) own).map qO)) Yy;have c2:=@pC M2 r2 ((qU (cell ns 0) own).map qO);have c1:=t3.lst b1;have co:=t3.lst bo;have s3:=s2.trans t3;generalize pB M2 r2 (.lst ((qU (cell ns 0) own).map qO))=M3 at s3 c1 c2 co ⊢;have gll:(qU (cell ns 0) own).length=vt (cell ns 0):=by unfold qU;rw[cQ,d6]
 refine i' c2 (rq (f:=C1) c2 _ [] _ (by rw[cQ];simp only[dE];omega) (λd hd k hk=>?_) λx4 hx4=>?_)
 .obtain⟨x,_,rfl⟩:=dw.mp hd;exact hk
 rw[dW,yT];have t4:=qm.new (c:=.lst (((qU (cell ns 0) own).map (·.1)).map D.str)) hx4;refine i' (t4.lst co) (i' pC ⟨?_,λn hn=>?_⟩)
 .rw[cQ,cQ,cQ];omega
 have en:own.map D.str++((qU (cell ns 0) own).map (·.1)).map D.str=(own++(qU (cell ns 0) own).map (·.1)).map D.str:=by rw[dH]
 rw[en];have nl:(own++(qU (cell ns 0) own).map (·.1)).length=rL (cell ns 0) m+vt (cell ns 0):=by rw[cT,cQ,ol,gll]
 have t5:=t4.trans (qm.new (c:=.lst ((own++(qU (cell ns 0) own).map (·.1)).map D.str)) hn);have en5:=@pC (pB M3 x4 (.lst (((qU (cell ns 0) own).map (·.1)).map D.str))) n ((own++(qU (cell ns 0) own).map (·.1)).map D.str);have e1:=t5.lst c1;have e2:=t5.lst c2;have eo:=t5.lst co;have s5:=s3.trans t5;generalize pB (pB M3 x4 (.lst (((qU (cell ns 0) own).map (·.1)).map D.str))) n (.lst ((own++(qU (cell ns 0) own).map (·.1)).map D.str))=M5 at s5 e1 e2 eo en5 ⊢;generalize own++(qU (cell ns 0) own).map (·.1)=nm at en5 nl q ⊢;have d0:=qQ (c:=cell ns 0) (f:=950706376) (m:=11) (by decide);have d1:=qG (c:=cell ns 0) (f:=950706376) (m:=11) (by decide);refine⟨oZ rfl,λr3 Zn=>⟨_,_,_,rfl,by decide,rfl,⟨?_,?_⟩,?_⟩⟩
 .show -(2 ^ 62)<=qo (cell ns 0) 950706376 11;omega
 .show qo (cell ns 0) 950706376 11<2 ^ 62;omega
 have t6:=qm.new (c:=.lst []) Zn;have g3:=@pC M5 r3 [];have no:o≠r3:=λz=>by have:=pR eo;rw[z,Zn]at this;cases this
 have nn:n≠r3:=λz=>by have:=pR en5;rw[z,Zn]at this;cases this
 have n1:r1≠r3:=λz=>by have:=pR e1;rw[z,Zn]at this;cases this
 have n2:r2≠r3:=λz=>by have:=pR e2;rw[z,Zn]at this;cases this
 have f1:=t6.lst e1;have f2:=t6.lst e2;have fo:=t6.lst eo;have fn:=t6.lst en5;have k6:qm M (pB M5 r3 (.lst [])):=s5.trans t6;have nr:M r3=none:=s5.none Zn;generalize pB M5 r3 (.lst [])=M6 at f1 f2 fo fn k6 g3 ⊢;have wl:wR (cell ns 0)<=10:=by unfold wR;omega
 refine vk ((List.range (wR (cell ns 0))).map λi=>D.int (0+(i:Nat))) (λpre δ M'=>rT r3 M6 M'/\oS M' r3=some (((List.range pre.length).map (I0 ns own nm)).map uU)/\∃x y,δ=[some (.rl (ns.map D.int)),some (.int m),some (.int (cell ns 0)),some (.ref r1),some (.ref o),some (.ref r2),some (.ref n),some (.ref r3),x,y]) (λp δ M' j=>trivial) _ [] _ _ rfl ⟨λ_ _ _ h=>h,g3,none,none,rfl⟩ ?_ ?_
 .rintro pre d post e δ M' ⟨kp,lr,x,y,rfl⟩ nx WU
  obtain⟨rfl,WW⟩:=BG e;generalize hi:pre.length=i at WW WU lr ⊢;have c31:C6 31 (0+(i:Int)):=.inl ⟨by decide,by decide⟩;have cm:C6 (31*(0+(i:Int))) (0+(i:Int)):=.inr ⟨by omega,by omega⟩;refine⟨ns,_,rfl,c31,cm,?_⟩;refine⟨by show(oS M' r3).isSome=true;rw[lr];rfl,_,_,_,rfl,by decide,_,o,n,own,nm,rfl,kp.lst no fo,kp.lst nn fn,one,by omega,by omega,by omega,oZ rfl,i' lr ⟨?_,?_⟩⟩
  .rw[cQ,cQ,d6];omega
  .refine WU _ _ ⟨kp.trans .put,?_,_,_,rfl⟩;rw[pC,cT,hi];show some (_++[uU (I0 ns own nm i)])=_;rw[Cw];rfl
 .rintro δ M' ⟨kp,lr,x,y,rfl⟩
  rw[cQ,d6]at lr;exact⟨oZ rfl,M',.refl,q r1 r2 r3 M' (λb c h=>kp b c (λz=>by rw[z,nr]at h;cases h) (k6 b c h)) (kp.lst n1 f1) (kp.lst n2 f2) lr⟩
theorem Bk(x:Array Nat):∀(n:Nat) (acc:Array Nat),((List.replicate n x).foldl (·++·) acc).toList=acc.toList++(List.replicate n x.toList).flatten
 | 0,acc=>by simp
 | n+1,acc=>by rw[eC,fS,Bk x n (acc++x),eC,fM,iW,fh]
theorem Gs(c:Nat):∀n:Nat,(List.replicate n [c]).flatten=List.replicate n c
 | 0=>rfl
 | n+1=>by rw[eC,fM,Gs c n,eC];rfl
def DU(i n:Int):(yG (uc i) n).cps.toList=List.replicate n.toNat (97+i.toNat):=by show((List.replicate n.toNat (uc i).cps).foldl (·++·) #[]:Array Nat).toList=_;rw[Bk];show[]++(List.replicate n.toNat [97+i.toNat]).flatten=_;rw[dW,Gs]
def yc(s v:Int):(xK s v).cps.toList=List.replicate (uh s).toNat (97+(s / 36 % 26).toNat)++(97+((s / 936+v) % 26).toNat)::List.replicate (size s - 1 - uh s).toNat (97+(s / 36 % 26).toNat):=by show((yG (uc (s / 36 % 26)) (uh s)).cps++(uc ((s / 936+v) % 26)).cps++(yG (uc (s / 36 % 26)) (size s - 1 - uh s)).cps).toList=_;rw[iW,iW,DU,DU];show _++[97+((s / 936+v) % 26).toNat]++_=_;rw[fh];rfl
def BP(s v:Int):1<=(xK s v).length/\(xK s v).length<=6:=by
 have e:(xK s v).length=(xK s v).cps.toList.length:=by simp[Str.length]
 rw[e,yc,cT,dZ,iI,iI];have h1:=GM s;have h2:=IL s;have h3:0<=uh s:=eL _ (by omega);have h4:uh s<size s:=eI _ h1;omega
def Lk{i:Int}(h0:0<=i)(h1:i<26):Dg ⟨#[97+i.toNat]⟩ uu=true:=by
 obtain⟨n,rfl⟩:=d9 h0;have hn:n<26:=by omega
 have key:∀n:_root_.Fin 26,Dg ⟨#[97+n.val]⟩ uu=true:=by decide+kernel
 exact key ⟨n,hn⟩
def Do(s v:Int):ui (xK s v)=true:=by
 obtain⟨h1,h2⟩:=BP s v;unfold ui;rw[dQ (show(1:Int)<=(xK s v).length by omega),dQ (show((xK s v).length:Int)<=6 by omega),eE,eE,eA];intro c hc;rw[yc]at hc;have k1:=Lk (eL (s / 36) (show(26:Int)≠0 by decide)) (eI (s / 36) (by decide));have k2:=Lk (eL (s / 936+v) (show(26:Int)≠0 by decide)) (eI (s / 936+v) (by decide));rcases dR.mp hc with z|z
 .rw[jJ z];exact k1
 .rcases cY.mp z with z|z
  .rw[z];exact k2
  .rw[jJ z];exact k1
def BM{s u v:Int}(hu:0<=u)(hu':u<26)(hv:0<=v)(hv':v<26)(e:xK s u=xK s v):u=v:=by
 have e':(xK s u).cps.toList=(xK s v).cps.toList:=by rw[e]
 rw[yc,yc]at e';have:=(List.append_cancel_left e');have:=(gk this).1;have a1:=eL (s / 936+u) (show(26:Int)≠0 by decide);have a2:=eL (s / 936+v) (show(26:Int)≠0 by decide);have h:(s / 936+u) % 26=(s / 936+v) % 26:=by omega
 omega
def EJ{ss:List Str}{x:Str}(h:x∈ss):xq ss x:=gx.mpr ⟨x,h,by simp⟩
def Be{row:List Str}{i:Int}(h0:0<=i)(h1:i<row.length):B2 row i∈row:=by
 obtain⟨n,rfl⟩:=d9 h0;have hn:n<row.length:=by omega
 have:B2 row (n:Int)=row[n]:=by simp[B2,hn]
 rw[this];exact hW hn
def Jl{row:List Str}{i j:Int}(nd:row.Nodup)(h0:0<=i)(h1:i<row.length)(g0:0<=j)(g1:j<row.length)(e:B2 row i=B2 row j):i=j:=by
 obtain⟨n,rfl⟩:=d9 h0;obtain⟨k,rfl⟩:=d9 g0;have hn:n<row.length:=by omega
 have hk:k<row.length:=by omega
 have e1:B2 row (n:Int)=row[n]:=by simp[B2,hn]
 have e2:B2 row (k:Int)=row[k]:=by simp[B2,hk]
 rw[e1,e2]at e;have pw:=js.mp nd;rcases Nat.lt_trichotomy n k with z|z|z
 .exact absurd e (pw n k hn hk z)
 .rw[z]
 .exact absurd e.symm (pw k n hk hn z)
def zR{α:Type}(f:Nat->α)(n:Nat)(h:∀i j,i<n->j<n->f i=f j->i=j):((List.range n).map f).Nodup:=by refine js.mpr λi j hi hj WW e=>?_;rw[cQ,d6]at hi hj;rw[lT,lT,kU,kU]at e;have:=h i j hi hj e;omega
def Ck{row:List Str}{c m:Int}(hr:row≠[])(hm:0<m):1<=wX row c m/\(wX row c m:Int)<=m/\wX row c m<=row.length:=by
 have hl:0<row.length:=fu.mpr hr;have d0:=qQ (c:=c) (f:=40692) (m:=if (row.length:Int)<m then(row.length:Int)else m) (by split<;>omega);have d1:=qG (c:=c) (f:=40692) (m:=if (row.length:Int)<m then(row.length:Int)else m) (by split<;>omega);unfold wX;by_cases h:(row.length:Int)<m
 .rw[cX h]at d0 d1 ⊢;omega
 .rw[cV h]at d0 d1 ⊢;omega
def B6{row:List Str}{c:Int}(hr:row≠[])(j:Nat):0<=(qo c 69621 row.length+(0+(j:Nat))) % (row.length:Int)/\(qo c 69621 row.length+(0+(j:Nat))) % (row.length:Int)<row.length:=by have hl:0<row.length:=fu.mpr hr;exact⟨eL _ (by omega),eI _ (by omega)⟩
def IJ{d n i j:Int}(hn:0<n)(hi:0<=i)(Yi:i<n)(hj:0<=j)(hj':j<n)(e:(d+i) % n=(d+j) % n):i=j:=by
 have h1:=j7 (d+i) n;have h2:=j7 (d+j) n;generalize (d+i) / n=a at h1;generalize (d+j) / n=b at h2;have h3:i - j=n*(a - b):=by rw[Int.mul_sub];omega
 rcases Int.lt_trichotomy (a - b) 0 with z|z|z
 .have:n*(a - b)<=n*(-1):=iT (by omega) (by omega);omega
 .rw[z]at h3;omega
 .have:n*1<=n*(a - b):=iT (by omega) (by omega);omega
def Hy{row:List Str}{c m:Int}(nd:row.Nodup)(hr:row≠[])(hm:0<m):(vG row c m).Nodup:=by have hl:0<row.length:=fu.mpr hr;obtain⟨_,_,l3⟩:=Ck (c:=c) hr hm;refine zR _ _ λi j hi hj e=>?_;obtain⟨a0,a1⟩:=B6 (c:=c) hr i;obtain⟨b0,b1⟩:=B6 (c:=c) hr j;have e':=Jl nd a0 a1 b0 b1 e;have:=IJ (d:=qo c 69621 row.length) (n:=row.length) (i:=0+(i:Nat)) (j:=0+(j:Nat)) (by omega) (by omega) (by omega) (by omega) (by omega) e';omega
def xm{row:List Str}{c m k:Int}(nd:row.Nodup)(hr:row≠[])(hm:0<m)(hk:m<=k):sy (vG row c m) row k=true:=by
 obtain⟨l1,l2,l3⟩:=Ck (c:=c) hr hm;have el:(vG row c m).length=wX row c m:=by unfold vG;rw[cQ,d6]
 unfold sy;rw[el,dQ (show(1:Int)<=wX row c m by omega),dQ (show(wX row c m:Int)<=k by omega),DC (Hy nd hr hm),eE,eE,eE,eA];intro x hx;unfold vG at hx;obtain⟨j,_,rfl⟩:=dw.mp hx;obtain⟨a0,a1⟩:=B6 (c:=c) hr j;exact EJ (Be a0 a1)
def BO{row:List Str}{c m:Int}(hr:row≠[])(hm:0<m)(h:m<=100):(vG row c m).length<4000:=by
 obtain⟨l1,l2,l3⟩:=Ck (c:=c) hr hm;have el:(vG row c m).length=wX row c m:=by unfold vG;rw[cQ,d6]
 omega
def O6{c:Int}{own all:List Str}(no:own.Nodup)(na:all.Nodup)(ho:own≠[])(ha:2<=all.length):Bz own all (vZ c own all):=by
 have hl:(0:Int)<own.length:=by have:=fu.mpr ho;omega
 have ha0:all≠[]:=λz=>by rw[z]at ha;simp at ha
 have hx:=EJ (Be (qQ (c:=c) (f:=16807) hl) (qG (c:=c) (f:=16807) hl));have p0:=qQ (c:=c) (f:=39373) (m:=all.length) (by omega);have p1:=qG (c:=c) (f:=39373) (m:=all.length) (by omega);have e0:=qQ (c:=c) (f:=742938285) (m:=(all.length:Int) - 1) (by omega);have e1:=qG (c:=c) (f:=742938285) (m:=(all.length:Int) - 1) (by omega);have z0:=eL (qo c 39373 all.length+1+qo c 742938285 ((all.length:Int) - 1)) (show(all.length:Int)≠0 by omega);have z1:=eI (qo c 39373 all.length+1+qo c 742938285 ((all.length:Int) - 1)) (show(0:Int)<all.length by omega);have hy:=EJ (Be p0 p1);have hzz:=EJ (Be z0 z1);have ne:B2 all (qo c 39373 all.length)≠B2 all ((qo c 39373 all.length+1+qo c 742938285 ((all.length:Int) - 1)) % all.length):=λz=>by
  have q:=Jl na p0 p1 z0 z1 z;have q2:(qo c 39373 all.length+0) % (all.length:Int)=(qo c 39373 all.length+(1+qo c 742938285 ((all.length:Int) - 1))) % (all.length:Int):=by rw[Int.add_zero,Int.emod_eq_of_lt p0 p1,<-Int.add_assoc];exact q
  have:=IJ (by omega) (by omega) (by omega) (by omega) (by omega) q2;omega
 have f0:=qQ (c:=c) (f:=22695477) (m:=24) (by decide);have f1:=qG (c:=c) (f:=22695477) (m:=24) (by decide);have g0:=qQ (c:=c) (f:=48271) (m:=23) (by decide);have g1:=qG (c:=c) (f:=48271) (m:=23) (by decide);have t0:=qQ (c:=c) (f:=950706376) (m:=5) (by decide);have t1:=qG (c:=c) (f:=950706376) (m:=5) (by decide);unfold vZ;simp only;split
 .exact⟨hx,BO ha0 (by decide) (by decide),xm na ha0 (by decide) (by decide)⟩
 .split
  .exact⟨hy,BO ho (by decide) (by decide),xm no ho (by decide) (by decide)⟩
  .split
   .exact⟨hy,hzz,ne⟩
   .split
    .refine⟨hy,hzz,ne,⟨f0,by omega⟩,⟨eL _ (by decide),?_⟩,?_⟩
     .have:=eI (qo c 22695477 24+1+qo c 48271 23) (show(0:Int)<24 by decide);omega
     .omega
    .split
     .exact⟨hy,hzz,ne⟩
     .split
      .refine⟨hy,hzz,ne,?_⟩;generalize qo c 950706376 5=d at t0 t1;have:d=0\/d=1\/d=2\/d=3\/d=4:=by omega
       rcases this with z|z|z|z|z<;>(subst z;decide)
      .split
       .exact hx
       .exact hx
def Le(s:Int)(i:Nat):EG (vN s i):=by
 have t0:=qQ (c:=s+17*(0+(i:Nat))*(0+(i:Nat))) (f:=16807) (m:=5) (by decide);have t1:=qG (c:=s+17*(0+(i:Nat))*(0+(i:Nat))) (f:=16807) (m:=5) (by decide);have u0:=qQ (c:=s+17*(0+(i:Nat))*(0+(i:Nat))) (f:=39373) (m:=6) (by decide);have u1:=qG (c:=s+17*(0+(i:Nat))*(0+(i:Nat))) (f:=39373) (m:=6) (by decide);have a:1<=(vN s i).2.1/\(vN s i).2.1<=3:=by
  show 1<=GC Od (qo (s+17*(0+(i:Nat))*(0+(i:Nat))) 16807 5)/\GC Od (qo (s+17*(0+(i:Nat))*(0+(i:Nat))) 16807 5)<=3;generalize qo (s+17*(0+(i:Nat))*(0+(i:Nat))) 16807 5=d at t0 t1;have:d=0\/d=1\/d=2\/d=3\/d=4:=by omega
  rcases this with z|z|z|z|z<;>(subst z;decide)
 have b:0<=(vN s i).2.2/\(vN s i).2.2<=9:=by
  show 0<=GC Qc (qo (s+17*(0+(i:Nat))*(0+(i:Nat))) 39373 6)/\GC Qc (qo (s+17*(0+(i:Nat))*(0+(i:Nat))) 39373 6)<=9;generalize qo (s+17*(0+(i:Nat))*(0+(i:Nat))) 39373 6=d at u0 u1;have:d=0\/d=1\/d=2\/d=3\/d=4\/d=5:=by omega
  rcases this with z|z|z|z|z|z<;>(subst z;decide)
 exact⟨dN (BP s (0+(i:Nat))).2 (by decide),Do _ _,a.1,a.2,b.1,b.2⟩
def KZ{s:Int}{own:List Str}(nd:own.Nodup)(hr:own≠[])(i:Nat):Fj own (Ai s own i):=by
 have t0:=qQ (c:=s+5*(0+(i:Nat))) (f:=742938285) (m:=2) (by decide);have t1:=qG (c:=s+5*(0+(i:Nat))) (f:=742938285) (m:=2) (by decide);refine⟨dN (BP s (8+(0+(i:Nat)))).2 (by decide),Do _ _,?_,BO hr (by decide) (by decide),xm nd hr (by decide) (by decide)⟩;show B2 Ol (qo (s+5*(0+(i:Nat))) 742938285 2)="all"\/B2 Ol (qo (s+5*(0+(i:Nat))) 742938285 2)="turns";generalize qo (s+5*(0+(i:Nat))) 742938285 2=d at t0 t1;have:d=0\/d=1:=by omega
 rcases this with z|z
 .subst z;exact .inl rfl
 .subst z;exact .inr rfl
def Mt(s m:Int):(qv s m).map (·.1)=(List.range (rL s m)).map λi=>xK s (0+(i:Nat)):=by unfold qv;rw[dU];rfl
def GX{s m:Int}(h2:2<=m)(h8:m<=8):((qv s m).map (·.1)).Nodup/\∀own,((qv s m).map (·.1)++(qU s own).map (·.1)).Nodup:=by
 have d1:=qG (c:=s) (f:=48271) (m:=m - 1) (by omega);have d0:=qQ (c:=s) (f:=48271) (m:=m - 1) (by omega);have p8:rL s m<=8:=by unfold rL;omega
 have g3:=wM (s:=s);have a:((qv s m).map (·.1)).Nodup:=by rw[Mt];refine zR _ _ λi j hi hj e=>?_;have:=BM (by omega) (by omega) (by omega) (by omega) e;omega
 refine⟨a,λown=>?_⟩;have ge:(qU s own).map (·.1)=(List.range (vt s)).map λi=>xK s (8+(0+(i:Nat))):=by unfold qU;rw[dU];rfl
 rw[gj];refine⟨a,?_,λx hx y hy e=>?_⟩
 .rw[ge];refine zR _ _ λi j hi hj e=>?_;have:=BM (by omega) (by omega) (by omega) (by omega) e;omega
 .rw[Mt]at hx;rw[ge]at hy;obtain⟨i,hi,rfl⟩:=dw.mp hx;obtain⟨j,hj,rfl⟩:=dw.mp hy;have hi:=gb.mp hi;have hj:=gb.mp hj;have:=BM (by omega) (by omega) (by omega) (by omega) e;omega
def PB{ns:List Int}{m:Int}(h2:2<=m)(h8:m<=8):qY (Cr ns m):=by
 obtain⟨n1,n2⟩:=GX (s:=cell ns 0) h2 h8;have pl:=yW (s:=cell ns 0) h2 (by omega);have p8:rL (cell ns 0) m<=8:=by have d1:=qG (c:=cell ns 0) (f:=48271) (m:=m - 1) (by omega);unfold rL;omega
 have lp:(qv (cell ns 0) m).length=rL (cell ns 0) m:=by unfold qv;rw[cQ,d6]
 have ol:((qv (cell ns 0) m).map (·.1)).length=rL (cell ns 0) m:=by rw[cQ,lp]
 have one:(qv (cell ns 0) m).map (·.1)≠[]:=λz=>by rw[z]at ol;have:0=rL (cell ns 0) m:=ol;omega
 have gl:(qU (cell ns 0) ((qv (cell ns 0) m).map (·.1))).length=vt (cell ns 0):=by unfold qU;rw[cQ,d6]
 refine⟨?_,?_,λp hp=>?_,?_,λg hg=>?_,n2 _,?_,λv hv=>?_⟩
 .show 1<=(qv (cell ns 0) m).length;omega
 .show(qv (cell ns 0) m).length<=8;omega
 .obtain⟨i,_,rfl⟩:=dw.mp hp;exact Le _ i
 .show(qU (cell ns 0) ((qv (cell ns 0) m).map (·.1))).length<=3;rw[gl];exact wM
 .obtain⟨i,_,rfl⟩:=dw.mp hg;exact KZ n1 one i
 .show((List.range (wR (cell ns 0))).map _).length<=16;rw[cQ,d6];have d1:=qG (c:=cell ns 0) (f:=950706376) (m:=11) (by decide);unfold wR;omega
 .obtain⟨i,hi,rfl⟩:=dw.mp hv;refine O6 n1 (n2 _) one ?_;show 2<=((qv (cell ns 0) m).map (·.1)++_).length;rw[cT,ol];omega
structure pz where
 st:Str
 cr:Str
 way:List Str
 at_:List Str
 ms:List Str
 hd:Option Str
 si:Int
 wd:Option Str
structure rK where
 i:Nat
 f:Str
 g:Str
 y:Str
inductive Ev
 | new (n:Nat) (x:Str)
 | leg (v:rK)
 | asks (i:Nat) (z:Str) (ns:List Nat)
 | next (z:Str) (n:Int)
 | merge (i j:Nat) (ms:List Str)
 | turn
 | sw (b:Bool) (i:Nat)
 | rings (i:Nat) (ps:List Str)
 | quiet (i:Nat)
 | waits (i:Nat) (x:Str)
 | talks (i:Nat) (ms:List Str)
 | held (i:Nat) (x:Str)
 | leaves (i:Nat) (x:Str)
 | over (i:Nat) (w:Str)
structure qe where
 p:Addr
 h:Int
 t:Int
 calls:List pz
 mT:List rK
 ps:List (Str×Int)
 on:List Bool
 log:List Ev
 fo:List Addr
noncomputable def vY(ns:List Nat):D:=.tup (ns.map λn=>D.int (n:Nat))
noncomputable def rK.d(v:rK):D:=.tup [.int (v.i:Nat),.str v.f,.str v.g,.str v.y]
noncomputable def Th(b:Bool):Str:=if b=true then "on" else "off"
noncomputable def Ev.d:Ev->D
 | .new n x=>.tup [.str "new",.int (n:Nat),.str x]
 | .leg v=>.tup [.str "leg",.int (v.i:Nat),.str v.f,.str v.g,.str v.y]
 | .asks i z ns=>.tup [.str "asks",.int (i:Nat),.str z,vY ns]
 | .next z n=>.tup [.str "next",.str z,.int n]
 | .merge i j ms=>.tup [.str "merge",.int (i:Nat),.int (j:Nat),names ms]
 | .turn=>.tup [.str "turn"]
 | .sw b i=>.tup [.str (Th b),.int (i:Nat)]
 | .rings i ps=>.tup [.str "rings",.int (i:Nat),names ps]
 | .quiet i=>.tup [.str "quiet",.int (i:Nat)]
 | .waits i x=>.tup [.str "waits",.int (i:Nat),.str x]
 | .talks i ms=>.tup [.str "talks",.int (i:Nat),names ms]
 | .held i x=>.tup [.str "held",.int (i:Nat),.str x]
 | .leaves i x=>.tup [.str "leaves",.int (i:Nat),.str x]
 | .over i w=>.tup [.str "over",.int (i:Nat),.str w]
noncomputable def hasS(ss:List Str)(x:Str):Bool:=ss.any (·==x)
noncomputable def rD(ss:List Str)(x:Str):List Str:=ss.filter λy=>!(y==x)
noncomputable def yV(x:Str):pz:=⟨"rings",x,[],[],[],none,0,none⟩
noncomputable def pz.over(c:pz)(w:Str):pz:={c with st:="over",wd:=some w,at_:=[],ms:=[],hd:=none}
noncomputable def pz.drop(c:pz)(x:Str):pz:={c with at_:=rD c.at_ x,ms:=rD c.ms x}
noncomputable def pz.ring(c:pz)(ps:List Str):pz:={c with st:="rings",at_:=ps,si:=0}
noncomputable def pz.nA(c:pz)(ms:List Str):pz:={c with st:="talks",ms:=ms,at_:=[],hd:=none}
noncomputable def pz.wait(c:pz)(x:Str):pz:={c with st:="waits",at_:=[x]}
noncomputable def pz.hold(c:pz)(x:Str):pz:={c with st:="held",hd:=some x}
noncomputable def pz.nF(c:pz):pz:={c with at_:=[]}
noncomputable def pz.mem(c:pz)(ms:List Str):pz:={c with ms:=ms}
noncomputable def pz.go(c:pz)(g:Str):pz:={c with way:=c.way++[g]}
noncomputable def pz.tick(c:pz):pz:=if (c.st=="rings")=true then{c with si:=c.si+1}else c
noncomputable def rK.to(m k:Nat)(v:rK):rK:=if v.i=m then{v with i:=k}else v
noncomputable def zZ(ps:List (Str×Int))(z:Str)(n:Int):List (Str×Int):=if ps.any (λp=>decide (p.1=z))=true then ps.map (λp=>if p.1=z then(p.1,n)else p)else ps++[(z,n)]
noncomputable def xi(V:qe)(i:Nat)(f:pz->pz):qe:={V with calls:=V.calls.modify i f}
noncomputable def qH(V:qe)(e:Ev):qe:={V with log:=V.log++[e]}
noncomputable def QJ(V:qe):Ev->qe
 | .new _ x=>{V with calls:=V.calls++[yV x]}
 | .leg v=>{V with mT:=V.mT++[v],calls:=V.calls.modify v.i (·.go v.g)}
 | .asks _ _ _=>V
 | .next z n=>{V with ps:=zZ V.ps z n}
 | .merge i j ms=>{V with calls:=(V.calls.modify i (·.over "merged")).modify j (·.mem ms),mT:=V.mT.map (rK.to i j)}
 | .turn=>{V with t:=V.t+1,calls:=V.calls.map pz.tick}
 | .sw b i=>{V with on:=V.on.set i b}
 | .rings i ps=>xi V i (·.ring ps)
 | .quiet i=>xi V i pz.nF
 | .waits i x=>xi V i (·.wait x)
 | .talks i ms=>xi V i (·.nA ms)
 | .held i x=>xi V i (·.hold x)
 | .leaves i x=>xi V i (·.drop x)
 | .over i w=>xi V i (·.over w)
noncomputable def pU(V:qe)(e:Ev):qe:=QJ (qH V e) e
noncomputable def qk(V:qe)(es:List Ev):qe:=es.foldl pU V
def Ev.ok(V:qe):Ev->Prop
 | .new _ _=>True
 | .leg v=>v.i<V.calls.length
 | .asks _ _ _=>True
 | .next _ _=>True
 | .merge i j ms=>i<V.calls.length/\j<V.calls.length/\i≠j/\ms.length<=100
 | .turn=>True
 | .sw _ i=>i<V.on.length
 | .rings i ps=>i<V.calls.length/\ps.length<=100
 | .quiet i=>i<V.calls.length
 | .waits i _=>i<V.calls.length
 | .talks i ms=>i<V.calls.length/\ms.length<=100
 | .held i _=>i<V.calls.length
 | .leaves i _=>i<V.calls.length
 | .over i _=>i<V.calls.length
def Ay:qe->List Ev->Prop
 | _,[]=>True
 | V,e::r=>e.ok V/\Ay (pU V e) r
def qT(V:qe)(es fs:List Ev):qk V (es++fs)=qk (qk V es) fs:=lh ..
theorem wI:∀{V:qe} {es fs:List Ev},Ay V es->Ay (qk V es) fs->Ay V (es++fs)
 | _,[],_,_,h=>h
 | _,_::_,_,h,g=>⟨h.1,wI h.2 g⟩
theorem wD:∀(es:List Ev) (V:qe),(qk V es).log=V.log++es
 | [],V=>(eU _).symm
 | e::r,V=>by
  show(qk (pU V e) r).log=_;rw[wD r];have:(pU V e).log=V.log++[e]:=by cases e<;>rfl
  rw[this,fh];rfl
noncomputable def pz.mS(c:pz)(x:Str):Bool:=(c.st=="talks")&&hasS c.ms x
noncomputable def pz.hasB(c:pz)(x:Str):Bool:=if (c.st=="rings")=true then(x==c.cr)||hasS c.at_ x else if (c.st=="waits")=true then x==c.cr else(c.st=="talks"||c.st=="held")&&hasS c.ms x
noncomputable def pz.mZ(c:pz)(x:Str):Bool:=if (c.st=="held")=true then hasS c.ms x&&!((c.hd==some x))else c.mS x
noncomputable def pz.mR(c:pz)(x:Str):Bool:=(c.st=="rings"||c.st=="waits")&&(x==c.cr)
noncomputable def pz.mL(c:pz)(x:Str):Bool:=(c.st=="waits")&&hasS c.at_ x
noncomputable def pz.nu(c:pz)(x:Str):Bool:=c.mR x||(hasS c.at_ x||hasS c.ms x)
noncomputable def pz.mU(c:pz)(x:Str):Bool:=c.mS x&&(c.ms.length==2)
noncomputable def uS(V:qe)(x:Str):Nat:=(V.calls.filter (·.hasB x)).length
noncomputable def wH(l:pE)(x:Str):Int:=(l.mX x).elim 0 λv=>v.2.1
noncomputable def vJ(l:pE)(x:Str):Int:=(l.mX x).elim 0 λv=>v.2.2
noncomputable def tV(l:pE)(V:qe)(x:Str):Bool:=decide ((uS V x:Int)<wH l x)
noncomputable def ug(l:pE)(V:qe)(c z:Str):List Str:=(l.mE z).filter λx=>!(x==c)&&tV l V x
noncomputable def xH(l:pE)(V:qe)(c z:Str):Bool:=(ug l V c z).isEmpty
noncomputable def vC(V:qe)(x:Str):Option Nat:=V.calls.findIdx? (·.mS x)
noncomputable def ET(V:qe)(x:Str):Option Nat:=V.calls.findIdx? (·.mZ x)
noncomputable def IW(V:qe)(x:Str):Option Nat:=V.calls.findIdx? (·.mR x)
noncomputable def Au(V:qe)(x:Str):Bool:=V.calls.any (·.mL x)
noncomputable def OX:Option Nat->D
 | none=>.mI
 | some j=>.int (j:Nat)
noncomputable def Ft(f l h:Int):Bool:=if f<l then decide (f<=h)&&decide (h<l)else decide (h>=f)||decide (h<l)
noncomputable def HZ(l:pE)(x:Str)(ms:List Str):Bool:=ms.all λm=>decide (vJ l m<vJ l x)
noncomputable def HQ(l:pE)(V:qe)(x c z:Str):Bool:=if (!(c==x)||(z==x))=true then false else if (!(hasS l.pn z)||!(xH l V c z))=true then false else((vC V z).bind (V.calls[·]?)).elim false λk=>(k.ms.length==2)&&HZ l x k.ms
noncomputable def AS(l:pE)(V:qe)(c z:Str):Wi->Bool
 | .bar x ns=>(c==x)&&hasS ns z
 | .shut x ns=>(z==x)&&hasS ns c
 | .always x _=>z==x
 | .night x _ f m=>(z==x)&&Ft f m ((V.h+V.t) % 24)
 | .busy x _=>(z==x)&&xH l V c z
 | .silent _ _ _=>false
 | .wait x=>if (!(z==x)||(c==x))=true then false else xH l V c z&&!(Au V z)
 | .breaks x=>HQ l V x c z
noncomputable def Gh(c:pz):Wi->Bool
 | .silent x _ n=>(c.way.getLast?==some x)&&decide (n<=c.si)
 | _=>false
noncomputable def HS(l:pE)(V:qe)(f:Wi->Bool):List Nat:=(List.range V.on.length).filter λi=>V.on.getD i false&&(l.mF[i]?).elim false λw=>f w.2
noncomputable def DM(l:pE)(V:qe)(c z:Str):List Nat:=HS l V (AS l V c z)
noncomputable def uR(ms:List Str)(n:Nat):List Str:=ms.drop n++ms.take n
noncomputable def y0(V:qe)(z:Str):Nat:=((V.ps.find? λp=>decide (p.1=z)).elim 0 λp=>p.2).toNat
noncomputable def xt(l:pE)(V:qe)(c z:Str):List Str:=if (l.mM z=="turns")=true then((uR (l.mE z) (y0 V z)).filter λx=>hasS (ug l V c z) x).take 1 else ug l V c z
inductive vn
 | engaged (z:Str)
 | rings (z:Str) (ps:List Str)
 | waits (z:Str)
 | breaks (z:Str)
 | barred
 | ring (ns:List Str)
noncomputable def vn.d:vn->D
 | .engaged z=>.tup [.str "engaged",.str z]
 | .rings z ps=>.tup [.str "rings",.str z,names ps]
 | .waits z=>.tup [.str "waits",.str z]
 | .breaks z=>.tup [.str "breaks",.str z]
 | .barred=>.tup [.str "barred"]
 | .ring ns=>.tup [.str "ring",names ns]
noncomputable def HE(l:pE)(V:qe)(c z:Str):vn:=match xt l V c z with
 | []=>.engaged z
 | x::r=>.rings z (x::r)
noncomputable def Jg(z:Str):Wi->Sum vn Str
 | .bar _ _=>.inl .barred
 | .shut _ _=>.inl .barred
 | .always _ y=>.inr y
 | .night _ y _ _=>.inr y
 | .busy _ y=>.inr y
 | .silent _ y _=>.inr y
 | .wait _=>.inl (.waits z)
 | .breaks _=>.inl (.breaks z)
abbrev sU:=List (Str×List Nat)
noncomputable def wB(l:pE)(V:qe)(c:Str):Nat->Str->List Str->sU->vn×sU
 | 0,_,_,st=>(.barred,st)
 | n+1,z,way,st=>if hasS way z=true then(.ring (way.drop (way.findIdx (·==z))),st)else
  match DM l V c z with
  | []=>(HE l V c z,st++[(z,[])])
  | i::r=>(l.mF[i]?).elim (.barred,st) λw=>match Jg z w.2 with
   | .inl e=>(e,st++[(z,i::r)])
   | .inr y=>wB l V c n y (way++[z]) (st++[(z,i::r)])
noncomputable def uz(l:pE)(V:qe)(c z:Str)(way:List Str):vn×sU:=wB l V c (l.nm.length+1) z way []
noncomputable def rh(i:Nat):Option Str->sU->List Ev
 | _,[]=>[]
 | none,(z,fs)::r=>.asks i z fs::rh i (some z) r
 | some y,(z,fs)::r=>.leg ⟨i,y,z,y⟩::.asks i z fs::rh i (some z) r
noncomputable def Qx(ms:List Str)(x:Str):Int:=((ms.findIdx (·==x):Nat)+1) % (ms.length:Int)
noncomputable def sC(l:pE)(V:qe)(i:Nat):vn->List Ev
 | .rings z ps=>(if (l.mM z=="turns")=true then[.next z (Qx (l.mE z) (ps.headD Str.empty))]else[])++[.rings i ps]
 | .waits z=>[.waits i z]
 | .breaks z=>match vC V z,V.calls[i]? with
  | some j,some c=>[.merge i j ((V.calls[j]?).elim [] (·.ms)++[c.cr])]
  | _,_=>[]
 | .engaged _=>[.over i "engaged"]
 | .barred=>[.over i "barred"]
 | .ring _=>[.over i "ring"]
noncomputable def sW(i:Nat)(st:sU):vn->List Ev
 | .ring ns=>(st.getLast?).elim [] λs=>[.leg ⟨i,s.1,ns.headD Str.empty,s.1⟩]
 | _=>[]
noncomputable def vF(l:pE)(V:qe)(i:Nat):List Ev:=(V.calls[i]?).elim [] λc=>
 let r:=uz l V c.cr (c.way.getLastD Str.empty) c.way.dropLast
 rh i none r.2++(sW i r.2 r.1++sC l V i r.1)
noncomputable def FK(l:pE)(V:qe)(y z:Str):List Ev:=
 let es:=[Ev.new V.calls.length y,.leg ⟨V.calls.length,y,z,y⟩]
 es++vF l (qk V es) V.calls.length
noncomputable def uV(V:qe)(x:Str)(i:Nat):List Ev:=(V.calls[i]?).elim [] λc=>if c.mR x=true then[.over i "left"]else if hasS c.at_ x=true then .leaves i x::(if rD c.at_ x=[]then[.over i "refused"]else[])else if 2<c.ms.length then[.leaves i x]else[.over i "done"]
noncomputable def tK(l:pE)(V:qe)(i:Nat)(fs:List Nat):List Ev:=match fs.head?.bind (l.mF[·]?)with
 | some (_,.silent x y _)=>
  let es:=[Ev.asks i x fs,.quiet i,.leg ⟨i,x,y,x⟩]
  es++vF l (qk V es) i
 | _=>[]
noncomputable def yf(l:pE)(V:qe)(i:Nat):List Nat:=(V.calls[i]?).elim [] λc=>if (c.st=="rings")=true then HS l V (Gh c)else[]
noncomputable def rj(l:pE):List Nat->qe->List Ev
 | [],_=>[]
 | i::r,V=>tK l V i (yf l V i)++rj l r (qk V (tK l V i (yf l V i)))
noncomputable def FD(l:pE)(V:qe):List Ev:=.turn::rj l (List.range V.calls.length) (pU V .turn)
inductive tR
 | call (y z:Str)
 | num (w x:Str) (ns:List Int)
 | turn
 | sw (b:Bool) (i:Int)
noncomputable def tR.d:tR->D
 | .call y z=>.tup [.str "call",.str y,.str z]
 | .num w x ns=>.tup (.str w::.str x::ns.map D.int)
 | .turn=>.tup [.str "turn"]
 | .sw b i=>.tup [.str (Th b),.int i]
def tR.ng:tR->Prop
 | .num w _ ns=>((w="answer"\/w="hang"\/w="hold"\/w="back")/\ns.length=1)\/((w="hand"\/w="join")/\ns.length=2)
 | _=>True
noncomputable def uy(V:qe)(x:Str):Option Str:=if (ET V x).isSome=true then some "bound" else if (IW V x).isSome=true then some "calls" else none
noncomputable def zr(n:Nat)(i:Int):Bool:=decide (0<=i)&&decide (i<(n:Int))
noncomputable def Je(w x:Str):List pz->Bool
 | []=>false
 | c::r=>if (w=="answer")=true then hasS c.at_ x else if (w=="hang")=true then c.nu x else if (w=="hold")=true then c.mU x else if (w=="back")=true then c.hd==some x else(c.hd==some x)&&(r.head?.elim false λd=>d.mU x)
noncomputable def tI(V:qe)(ns:List Int):List pz:=ns.filterMap λi=>V.calls[i.toNat]?
noncomputable def GU(l:pE)(V:qe)(y z:Str):Option Str:=if hasS l.nm z=false then some "name" else if ((uy V y).isNone&&!(tV l V y))=true then some "full" else uy V y
noncomputable def Mg(l:pE)(V:qe)(w x:Str)(ns:List Int):Option Str:=if ns.all (zr V.calls.length)=false then some "call" else if Je w x (tI V ns)=false then some "call" else if (w=="answer"||w=="back")=false then none else
 if ((uy V x).isNone&&((tI V ns).head?.elim false (λc=>c.mL x)&&!(tV l V x)))=true then some "full" else uy V x
noncomputable def Qd(V:qe)(b:Bool)(i:Int):Option Str:=if zr V.on.length i=false then some "wish" else if (V.on.getD i.toNat false==b)=true then some "wish" else none
noncomputable def xj(l:pE)(V:qe):tR->Option Str
 | .turn=>none
 | .sw b i=>Qd V b i
 | .call y z=>if hasS l.pn y=false then some "name" else GU l V y z
 | .num w x ns=>if hasS l.pn x=false then some "name" else Mg l V w x ns
noncomputable def qy(c:pz)(x:Str):Str:=(rD c.ms x).headD Str.empty
noncomputable def AR(V:qe)(w x:Str)(i:Nat):Ev:=(V.calls[i]?).elim .turn λc=>if (w=="answer")=true then .talks i [c.cr,x]else if (w=="hold")=true then .held i x else .talks i c.ms
noncomputable def Dn(V:qe)(w x:Str)(i j:Nat):Ev:=(V.calls[i]?).elim .turn λc=>(V.calls[j]?).elim .turn λd=>.merge i j (if (w=="hand")=true then[qy c x,qy d x]else[x,qy c x,qy d x])
noncomputable def wc(l:pE)(V:qe):tR->List Ev
 | .call y z=>FK l V y z
 | .num w x [i]=>if (w=="hang")=true then uV V x i.toNat else[AR V w x i.toNat]
 | .num w x [i,j]=>[Dn V w x i.toNat j.toNat]
 | .num _ _ _=>[]
 | .turn=>FD l V
 | .sw b i=>[.sw b i.toNat]
structure rA where
 p:Addr
 wy:Addr
structure sZ where
 b:Addr
 ca:Addr
 le:Addr
 nx:Addr
 on:Addr
 lo:Addr
 cs:List rA
noncomputable def CD:Option Str->D
 | none=>.mI
 | some x=>.str x
noncomputable def rc(c:pz)(wy ad md:Addr):List (Str×D):=[("state",.str c.st),("caller",.str c.cr),("way",.ref wy),("at",.ref ad),("members",.ref md),("holder",CD c.hd),("since",.int c.si),("word",CD c.wd)]
noncomputable def tP(p:D)(h t:Int)(ca le nx on lo:Addr):List (Str×D):=[("plan",p),("hour",.int h),("turn",.int t),("calls",.ref ca),("legs",.ref le),("nexts",.ref nx),("on",.ref on),("log",.ref lo)]
noncomputable def tG(ps:List (Str×Int)):List (qV×D):=ps.map λp=>((Sum.inr p.1:qV),D.int p.2)
noncomputable def sZ.lists(A:sZ):List Addr:=A.ca::A.le::A.on::A.lo::A.cs.map (·.wy)
noncomputable def sZ.foot(A:sZ):List Addr:=A.b::A.nx::(A.lists++A.cs.map (·.p))
def rJ(a:Ad)(M:Mp)(L:List Addr)(k:rA)(c:pz):Prop:=Bq λad md=>M k.p=some (.ins a.e (rc c k.wy ad md))/\oS M k.wy=some (c.way.map D.str)/\oS M ad=some (c.at_.map D.str)/\oS M md=some (c.ms.map D.str)/\ad∉L/\md∉L
structure pJ(a:Ad)(M:Mp)(A:sZ)(V:qe):Prop where
 at_:M A.b=some (.ins a.c (tP (.ref V.p) V.h V.t A.ca A.le A.nx A.on A.lo))
 ca:oS M A.ca=some (A.cs.map λk=>D.ref k.p)
 le:oS M A.le=some (V.mT.map rK.d)
 nx:y9 M A.nx=some (tG V.ps)
 on:oS M A.on=some (V.on.map D.bl)
 lo:oS M A.lo=some (V.log.map Ev.d)
 len:A.cs.length=V.calls.length
 cs:∀(i:Nat) k c,A.cs[i]?=some k->V.calls[i]?=some c->rJ a M (A.lists++V.fo) k c
 nl:A.lists.Nodup
 np:(A.b::A.cs.map (·.p)).Nodup
 fo:∀x∈V.fo,∃c,M x=some c
def wu{F:List Addr}{M:Mp}{p:Addr}{c:uG}(h:∀x∈F,∃c,M x=some c):∀x∈F,∃d,pB M p c x=some d:=λx hx=>by
 by_cases z:x=p
 .exact⟨c,by rw[z];exact pN⟩
 .obtain⟨d,e⟩:=h x hx;exact⟨d,rT.put x d z e⟩
def rJ.sub{a:Ad}{M M':Mp}{L:List Addr}{k:rA}{c:pz}(h:rJ a M L k c)(s:qm M M'):rJ a M' L k c:=by obtain⟨ad,md,h1,h2,h3,h4,h5⟩:=h;exact⟨ad,md,s _ _ h1,s.lst h2,s.lst h3,s.lst h4,h5⟩
def pJ.sub{a:Ad}{M M':Mp}{A:sZ}{V:qe}(h:pJ a M A V)(s:qm M M'):pJ a M' A V:=⟨s _ _ h.at_,s.lst h.ca,s.lst h.le,s.dk h.nx,s.lst h.on,s.lst h.lo,h.len,λi k c e1 e2=>(h.cs i k c e1 e2).sub s,h.nl,h.np,λx hx=>(h.fo x hx).imp λc e=>s x c e⟩
def rJ.nQ{a:Ad}{M M':Mp}{L:List Addr}{k:rA}{c:pz}{x:Addr}{ds:List D}(h:rJ a M L k c)(kp:rT x M M')(hl:oS M x=some ds)(hx:x∈L)(hn:k.wy≠x):rJ a M' L k c:=by obtain⟨ad,md,h1,h2,h3,h4,h5,h6⟩:=h;exact⟨ad,md,kp _ _ (λz=>by rw[z,pR hl]at h1;cases h1) h1,kp.lst hn h2,kp.lst (λz=>h5 (z ▸ hx)) h3,kp.lst (λz=>h6 (z ▸ hx)) h4,h5,h6⟩
def rJ.nV{a:Ad}{M M':Mp}{L:List Addr}{k:rA}{c:pz}{x C:Addr}{fs:List (Str×D)}(h:rJ a M L k c)(kp:rT x M M')(hi:M x=some (.ins C fs))(hn:k.p≠x):rJ a M' L k c:=by obtain⟨ad,md,h1,h2,h3,h4,h5⟩:=h;exact⟨ad,md,kp _ _ hn h1,kp.lst (pS h2 hi) h2,kp.lst (pS h3 hi) h3,kp.lst (pS h4 hi) h4,h5⟩
def uN{M:Mp}{a p:Addr}{ds:List (qV×D)}{es:List D}(h:y9 M a=some ds)(hp:oS M p=some es):a≠p:=λz=>by subst z;unfold y9 at h;rw[pR hp]at h;cases h
def rJ.oG{a:Ad}{M M':Mp}{L:List Addr}{k:rA}{c:pz}{x:Addr}{ds:List (qV×D)}(h:rJ a M L k c)(kp:rT x M M')(hd:y9 M x=some ds):rJ a M' L k c:=by obtain⟨ad,md,h1,h2,h3,h4,h5⟩:=h;exact⟨ad,md,kp _ _ (λz=>by rw[z,xT hd]at h1;cases h1) h1,kp.lst (dI (uN hd h2)) h2,kp.lst (dI (uN hd h3)) h3,kp.lst (dI (uN hd h4)) h4,h5⟩
def qS{α:Type}{l:List α}{i:Nat}{x:α}(h:l[i]?=some x):x∈l:=fi h
def pJ.ne{a:Ad}{M:Mp}{A:sZ}{V:qe}(h:pJ a M A V):A.ca≠A.le/\A.ca≠A.on/\A.ca≠A.lo/\A.le≠A.on/\A.le≠A.lo/\A.on≠A.lo/\∀k∈A.cs,k.wy≠A.ca/\k.wy≠A.le/\k.wy≠A.on/\k.wy≠A.lo:=by
 have n:=h.nl;unfold sZ.lists at n;obtain⟨n1,n⟩:=dM.mp n;obtain⟨n2,n⟩:=dM.mp n;obtain⟨n3,n⟩:=dM.mp n;obtain⟨n4,n⟩:=dM.mp n;have w:∀k∈A.cs,k.wy∈A.cs.map (·.wy):=λk hk=>dw.mpr ⟨k,hk,rfl⟩;refine⟨λz=>n1 (z ▸ by simp),λz=>n1 (z ▸ by simp),λz=>n1 (z ▸ by simp),λz=>n2 (z ▸ by simp),λz=>n2 (z ▸ by simp),λz=>n3 (z ▸ by simp),λk hk=>⟨λz=>n1 ?_,λz=>n2 ?_,λz=>n3 ?_,λz=>n4 ?_⟩⟩
 .rw[<-z];exact dv _ (dv _ (dv _ (w k hk)))
 .rw[<-z];exact dv _ (dv _ (w k hk))
 .rw[<-z];exact dv _ (w k hk)
 .rw[<-z];exact w k hk
def pJ.oa{a:Ad}{M:Mp}{A:sZ}{V:qe}(_:pJ a M A V):A.ca∈A.lists/\A.le∈A.lists/\A.lo∈A.lists/\(∀k∈A.cs,k.wy∈A.lists)/\A.on∈A.lists:=by unfold sZ.lists;refine⟨by simp,by simp,by simp,?_,by simp⟩;exact λk hk=>by simp;exact .inr (.inr (.inr (.inr ⟨k,hk,rfl⟩)))
def pJ.oM{a:Ad}{M:Mp}{A:sZ}{V:qe}(h:pJ a M A V):A.ca∈A.lists++V.fo/\A.le∈A.lists++V.fo/\A.lo∈A.lists++V.fo/\(∀k∈A.cs,k.wy∈A.lists++V.fo)/\A.on∈A.lists++V.fo:=by obtain⟨h1,h2,h3,h4,h5⟩:=h.oa;exact⟨fz _ h1,fz _ h2,fz _ h3,λk hk=>fz _ (h4 k hk),fz _ h5⟩
def qM(A:sZ)(M:Mp)(A':sZ)(M':Mp):Prop:=(∀x c,x∉A.foot->M x=some c->M' x=some c)/\(∀x∈A'.foot,x∈A.foot\/M x=none)/\(∀(i:Nat) k,A.cs[i]?=some k->A'.cs[i]?=some k)/\∀x c,M x=some c->∃d,M' x=some d
def Fs{M:Mp}{p y:Addr}{c d:uG}(h:M y=some d):∃e,pB M p c y=some e:=by
 by_cases z:y=p
 .exact⟨c,by rw[z];exact pN⟩
 .exact⟨d,rT.put y d z h⟩
def qM.refl{A:sZ}{M:Mp}:qM A M A M:=⟨λ_ _ _ h=>h,λ_ h=>.inl h,λ_ _ h=>h,λ_ c h=>⟨c,h⟩⟩
def qM.trans{A A1 A2:sZ}{M M1 M2:Mp}(s:qM A M A1 M1)(u:qM A1 M1 A2 M2):qM A M A2 M2:=by
 refine⟨λx c n h=>u.1 x c (λz=>?_) (s.1 x c n h),λx hx=>?_,λi k h=>u.2.2.1 i k (s.2.2.1 i k h),λx c h=>(s.2.2.2 x c h).elim λd e=>u.2.2.2 x d e⟩
 .rcases s.2.1 x z with y|y
  .exact n y
  .rw[y]at h;cases h
 .rcases u.2.1 x hx with z|z
  .exact s.2.1 x z
  .by_cases y:x∈A.foot
   .exact .inl y
   .refine .inr ?_;cases e:M x with
    | none=>rfl
    | some c=>rw[s.1 x c y e]at z;cases z
def qM.keep{A:sZ}{M:Mp}{x:Addr}{c:uG}(h:x∈A.foot)(k:rT x M (pB M x c)):qM A M A (pB M x c):=⟨λy c n e=>k y c (λz=>n (z ▸ h)) e,λ_ h=>.inl h,λ_ _ h=>h,λ_ _ h=>Fs h⟩
def qM.sub{A:sZ}{M M':Mp}(s:qm M M'):qM A M A M':=⟨λy c _ e=>s y c e,λ_ h=>.inl h,λ_ _ h=>h,λx c h=>⟨c,s x c h⟩⟩
def sZ.mQ(A:sZ):A.b∈A.foot/\A.nx∈A.foot/\A.ca∈A.foot/\A.le∈A.foot/\A.lo∈A.foot/\(∀k∈A.cs,k.p∈A.foot)/\∀k∈A.cs,k.wy∈A.foot:=by unfold sZ.foot sZ.lists;exact⟨by simp,by simp,by simp,by simp,by simp,λk hk=>by simp;exact .inr (.inr (.inr (.inr (.inr (.inr (.inr ⟨k,hk,rfl⟩)))))),λk hk=>by simp;exact .inr (.inr (.inr (.inr (.inr (.inr (.inl ⟨k,hk,rfl⟩))))))⟩
def sZ.nE(A:sZ){x:Addr}(h:x∈A.lists):x∈A.foot:=by unfold sZ.foot;exact dv _ (dv _ (dR.mpr (.inl h)))
variable {M M1:Mp}{A:sZ}{V:qe}
def E7{α:Type}{l:List α}{i j:Nat}{x y:α}(h:(l.set i x)[j]?=some y):(j=i/\y=x/\i<l.length)\/(j≠i/\l[j]?=some y):=by
 by_cases z:j=i
 .subst z;by_cases hl:j<l.length
  .rw[fB hl]at h;exact .inl ⟨rfl,(c9 h).symm,hl⟩
  .rw[gZ (by rw[ii];omega)]at h;cases h
 .rw[fA (dI z)]at h;exact .inr ⟨z,h⟩
def Mw{α β:Type}{f:α->β}{l:List α}{i j:Nat}{x y:α}(nd:(l.map f).Nodup)(h1:l[i]?=some x)(h2:l[j]?=some y)(e:f x=f y):i=j:=by
 have e1:(l.map f)[i]?=some (f x):=by rw[dq,h1];rfl
 have e2:(l.map f)[j]?=some (f y):=by rw[dq,h2];rfl
 obtain⟨l1,q1⟩:=cS.mp e1;obtain⟨l2,q2⟩:=cS.mp e2;exact(lE nd).mp (q1.trans (e.trans q2.symm))
def pJ.nw(h:pJ a M A V):(A.cs.map (·.wy)).Nodup:=(dM.mp (dM.mp (dM.mp (dM.mp h.nl).2).2).2).2
def pJ.oP(h:pJ a M A V):(A.cs.map (·.p)).Nodup/\∀k∈A.cs,k.p≠A.b:=⟨(dM.mp h.np).2,λk hk z=>(dM.mp h.np).1 (z ▸ dw.mpr ⟨k,hk,rfl⟩)⟩
def pJ.oE(h:pJ a M A V){es:List Ev}:pJ a (pB M A.lo (.lst (es.map Ev.d))) A {V with log:=es}/\qM A M A (pB M A.lo (.lst (es.map Ev.d))):=by have kp:rT A.lo M (pB M A.lo (.lst (es.map Ev.d))):=.put;obtain⟨n1,n2,n3,n4,n5,n6,nw⟩:=h.ne;exact⟨⟨kp _ _ (dI (pS h.lo h.at_)) h.at_,kp.lst n3 h.ca,kp.lst n5 h.le,kp.dk (uN h.nx h.lo) h.nx,kp.lst n6 h.on,pC,h.len,λi k c e1 e2=>(h.cs i k c e1 e2).nQ kp h.lo h.oM.2.2.1 (nw k (qS e1)).2.2.2,h.nl,h.np,wu h.fo⟩,.keep A.mQ.2.2.2.2.1 kp⟩
def pJ.ow(h:pJ a M A V){es:List rK}:pJ a (pB M A.le (.lst (es.map rK.d))) A {V with mT:=es}/\qM A M A (pB M A.le (.lst (es.map rK.d))):=by have kp:rT A.le M (pB M A.le (.lst (es.map rK.d))):=.put;obtain⟨n1,n2,n3,n4,n5,n6,nw⟩:=h.ne;exact⟨⟨kp _ _ (dI (pS h.le h.at_)) h.at_,kp.lst n1 h.ca,pC,kp.dk (uN h.nx h.le) h.nx,kp.lst (dI n4) h.on,kp.lst (dI n5) h.lo,h.len,λi k c e1 e2=>(h.cs i k c e1 e2).nQ kp h.le h.oM.2.1 (nw k (qS e1)).2.1,h.nl,h.np,wu h.fo⟩,.keep A.mQ.2.2.2.1 kp⟩
def pJ.oH(h:pJ a M A V){bs:List Bool}:pJ a (pB M A.on (.lst (bs.map D.bl))) A {V with on:=bs}/\qM A M A (pB M A.on (.lst (bs.map D.bl))):=by have kp:rT A.on M (pB M A.on (.lst (bs.map D.bl))):=.put;obtain⟨n1,n2,n3,n4,n5,n6,nw⟩:=h.ne;exact⟨⟨kp _ _ (dI (pS h.on h.at_)) h.at_,kp.lst n2 h.ca,kp.lst n4 h.le,kp.dk (uN h.nx h.on) h.nx,pC,kp.lst (dI n6) h.lo,h.len,λi k c e1 e2=>(h.cs i k c e1 e2).nQ kp h.on h.oM.2.2.2.2 (nw k (qS e1)).2.2.1,h.nl,h.np,wu h.fo⟩,.keep (A.nE h.oa.2.2.2.2) kp⟩
def pJ.oR(h:pJ a M A V){ps:List (Str×Int)}:pJ a (pB M A.nx (.dk (tG ps))) A {V with ps:=ps}/\qM A M A (pB M A.nx (.dk (tG ps))):=by have kp:rT A.nx M (pB M A.nx (.dk (tG ps))):=.put;exact⟨⟨kp _ _ (dI (Cd h.nx h.at_)) h.at_,kp.lst (dI (uN h.nx h.ca)) h.ca,kp.lst (dI (uN h.nx h.le)) h.le,BN pN,kp.lst (dI (uN h.nx h.on)) h.on,kp.lst (dI (uN h.nx h.lo)) h.lo,h.len,λi k c e1 e2=>(h.cs i k c e1 e2).oG kp h.nx,h.nl,h.np,wu h.fo⟩,.keep A.mQ.2.1 kp⟩
def pJ.putT(h:pJ a M A V){t:Int}:pJ a (pB M A.b (.ins a.c (tP (.ref V.p) V.h t A.ca A.le A.nx A.on A.lo))) A {V with t:=t}/\qM A M A (pB M A.b (.ins a.c (tP (.ref V.p) V.h t A.ca A.le A.nx A.on A.lo))):=by have kp:rT A.b M (pB M A.b (.ins a.c (tP (.ref V.p) V.h t A.ca A.le A.nx A.on A.lo))):=.put;exact⟨⟨pN,kp.lst (pS h.ca h.at_) h.ca,kp.lst (pS h.le h.at_) h.le,kp.dk (Cd h.nx h.at_) h.nx,kp.lst (pS h.on h.at_) h.on,kp.lst (pS h.lo h.at_) h.lo,h.len,λi k c e1 e2=>(h.cs i k c e1 e2).nV kp h.at_ (h.oP.2 k (qS e1)),h.nl,h.np,wu h.fo⟩,.keep A.mQ.1 kp⟩
def pJ.og(h:pJ a M A V){i:Nat}{k:rA}{c c':pz}{ad md:Addr}(e1:A.cs[i]?=some k)(e2:V.calls[i]?=some c)(ew:c'.way=c.way)(la:oS M ad=some (c'.at_.map D.str))(lm:oS M md=some (c'.ms.map D.str))(na:ad∉A.lists++V.fo)(nm:md∉A.lists++V.fo):
  pJ a (pB M k.p (.ins a.e (rc c' k.wy ad md))) A {V with calls:=V.calls.set i c'}/\qM A M A (pB M k.p (.ins a.e (rc c' k.wy ad md))):=by
 have kp:rT k.p M (pB M k.p (.ins a.e (rc c' k.wy ad md))):=.put;obtain⟨_,_,h1,h2,_⟩:=h.cs i k c e1 e2;refine⟨⟨kp _ _ (dI (h.oP.2 k (qS e1))) h.at_,kp.lst (pS h.ca h1) h.ca,kp.lst (pS h.le h1) h.le,kp.dk (Cd h.nx h1) h.nx,kp.lst (pS h.on h1) h.on,kp.lst (pS h.lo h1) h.lo,by rw[h.len,ii],λj k' d f1 f2=>?_,h.nl,h.np,wu h.fo⟩,.keep (A.mQ.2.2.2.2.2.1 k (qS e1)) kp⟩;rcases E7 f2 with⟨rfl,rfl,_⟩|⟨hj,f2⟩
 .rw[e1]at f1;cases f1;exact⟨ad,md,pN,by rw[ew];exact kp.lst (pS h2 h1) h2,kp.lst (pS la h1) la,kp.lst (pS lm h1) lm,na,nm⟩
 .exact(h.cs j k' d f1 f2).nV kp h1 λz=>hj (Mw h.oP.1 f1 e1 z)
def pJ.oi(h:pJ a M A V){i:Nat}{k:rA}{c:pz}{ws:List Str}(e1:A.cs[i]?=some k)(e2:V.calls[i]?=some c):
  pJ a (pB M k.wy (.lst (ws.map D.str))) A {V with calls:=V.calls.set i {c with way:=ws}}/\qM A M A (pB M k.wy (.lst (ws.map D.str))):=by
 have kp:rT k.wy M (pB M k.wy (.lst (ws.map D.str))):=.put;obtain⟨ad,md,h1,h2,h3,h4,h5,h6⟩:=h.cs i k c e1 e2;obtain⟨n1,n2,n3,n4,n5,n6,nw⟩:=h.ne;obtain⟨w1,w2,w3,w4⟩:=nw k (qS e1);have kL:=h.oM.2.2.2.1 k (qS e1);refine⟨⟨kp _ _ (dI (pS h2 h.at_)) h.at_,kp.lst (dI w1) h.ca,kp.lst (dI w2) h.le,kp.dk (uN h.nx h2) h.nx,kp.lst (dI w3) h.on,kp.lst (dI w4) h.lo,by rw[h.len,ii],λj k' d f1 f2=>?_,h.nl,h.np,wu h.fo⟩,.keep (A.mQ.2.2.2.2.2.2 k (qS e1)) kp⟩;rcases E7 f2 with⟨rfl,rfl,_⟩|⟨hj,f2⟩
 .rw[e1]at f1;cases f1;exact⟨ad,md,kp _ _ (dI (pS h2 h1)) h1,pC,kp.lst (λz=>h5 (z ▸ kL)) h3,kp.lst (λz=>h6 (z ▸ kL)) h4,h5,h6⟩
 .exact(h.cs j k' d f1 f2).nQ kp h2 kL λz=>hj (Mw h.nw f1 e1 z)
noncomputable def sZ.add(A:sZ)(k:rA):sZ:={A with cs:=A.cs++[k]}
def zU(A:sZ)(k:rA):(A.add k).lists=A.lists++[k.wy]:=by unfold sZ.add sZ.lists;rw[dH];rfl
def pJ.dom(h:pJ a M A V):(∀x∈A.lists,∃ds,oS M x=some ds)/\∀x∈A.foot,∃c,M x=some c:=by
 have hc:∀k∈A.cs,(∃ds,oS M k.wy=some ds)/\∃c,M k.p=some c:=λk hk=>by
  obtain⟨i,hi,e⟩:=gL hk;have e1:A.cs[i]?=some k:=by rw[cU hi,e]
  have XD:i<V.calls.length:=by rw[<-h.len];exact hi
  have e2:V.calls[i]?=some V.calls[i]:=cU XD;obtain⟨ad,md,h1,h2,_⟩:=h.cs i k _ e1 e2;exact⟨⟨_,h2⟩,_,h1⟩
 have hl:∀x∈A.lists,∃ds,oS M x=some ds:=λx hx=>by
  unfold sZ.lists at hx;simp only[cY,dw]at hx;rcases hx with rfl|rfl|rfl|rfl|⟨k,hk,rfl⟩
  .exact⟨_,h.ca⟩
  .exact⟨_,h.le⟩
  .exact⟨_,h.on⟩
  .exact⟨_,h.lo⟩
  .exact(hc k hk).1
 refine⟨hl,λx hx=>?_⟩;unfold sZ.foot at hx;simp only[cY,dR,dw]at hx;rcases hx with rfl|rfl|hx|⟨k,hk,rfl⟩
 .exact⟨_,h.at_⟩
 .exact⟨_,xT h.nx⟩
 .obtain⟨ds,e⟩:=hl x hx;exact⟨_,pR e⟩
 .exact(hc k hk).2
def pJ.nW(h:pJ a M A V){x:Addr}(hx:M x=none):x∉A.lists:=λz=>by obtain⟨ds,e⟩:=h.dom.1 x z;have:=pR e;rw[hx]at this;cases this
def pJ.ni(h:pJ a M A V){x:Addr}(hx:M x=none):x∉A.lists++V.fo:=λz=>by
 rcases dR.mp z with z|z
 .exact h.nW hx z
 .obtain⟨c,e⟩:=h.fo x z;rw[hx]at e;cases e
def pJ.nM(h:pJ a M A V){x:Addr}(hx:M x=none):x∉A.foot:=λz=>by obtain⟨ds,e⟩:=h.dom.2 x z;rw[hx]at e;cases e
def pJ.n9(h:pJ a M A V)(s:qm M M1){p wy ad md:Addr}{c:pz}(hp:M p=none)(hw:M wy=none)(ha:M ad=none)(hm:M md=none)(h1:M1 p=some (.ins a.e (rc c wy ad md)))(h2:oS M1 wy=some (c.way.map D.str))(h3:oS M1 ad=some (c.at_.map D.str))(h4:oS M1 md=some (c.ms.map D.str))(n1:ad≠wy)(n2:md≠wy):
  pJ a (pB M1 A.ca (.lst ((A.cs.map λk=>D.ref k.p)++[.ref p]))) (A.add ⟨p,wy⟩) {V with calls:=V.calls++[c]}/\qM A M (A.add ⟨p,wy⟩) (pB M1 A.ca (.lst ((A.cs.map λk=>D.ref k.p)++[.ref p]))):=by
 have h':=h.sub s;have kp:rT A.ca M1 (pB M1 A.ca (.lst ((A.cs.map λk=>D.ref k.p)++[.ref p]))):=.put;obtain⟨m1,m2,m3,m4,m5,m6,nw⟩:=h.ne;have wL:wy∉A.lists:=h.nW hw;have cL:=h.oM.1;have nl':∀x,x∉A.lists++V.fo->x≠wy->x∉(A.add ⟨p,wy⟩).lists++V.fo:=λx h1 h2=>by
  rw[zU,dR,dR,df]
  rintro ((z|z)|z)
  .exact h1 (fz _ z)
  .exact h2 z
  .exact h1 (eh _ z)
 have old:∀x c,M x=some c->x≠wy:=λx c e z=>by rw[z,hw]at e;cases e
 refine⟨⟨kp _ _ (dI (pS h'.ca h'.at_)) h'.at_,?_,kp.lst (dI m1) h'.le,kp.dk (uN h'.nx h'.ca) h'.nx,kp.lst (dI m2) h'.on,kp.lst (dI m3) h'.lo,?_,λi k d e1 e2=>?_,?_,?_,wu h'.fo⟩,λx d n e=>kp x d (λz=>n (z ▸ A.mQ.2.2.1)) (s x d e),λx hx=>?_,λi k e=>by show(A.cs++[(⟨p,wy⟩:rA)])[i]?=some k;rw[eJ (cS.mp e).1];exact e,λx d e=>Fs (s x d e)⟩
 .show oS _ A.ca=some ((A.cs++[(⟨p,wy⟩:rA)]).map λk=>D.ref k.p);rw[dH];exact pC
 .show(A.cs++[(⟨p,wy⟩:rA)]).length=(V.calls++[c]).length;rw[cT,cT,h.len];rfl
 .have e1:(A.cs++[(⟨p,wy⟩:rA)])[i]?=some k:=e1;have e2:(V.calls++[c])[i]?=some d:=e2;by_cases hi:i<A.cs.length
  .rw[eJ hi]at e1;rw[eJ (by rw[<-h.len];exact hi)]at e2;obtain⟨ad',md',g1,g2,g3,g4,g5,g6⟩:=(h.cs i k d e1 e2);refine⟨ad',md',kp _ _ (λz=>by have:=s _ _ g1;rw[z,pR h'.ca]at this;cases this) (s _ _ g1),kp.lst (nw k (qS e1)).1 (s.lst g2),kp.lst (λz=>g5 (z ▸ cL)) (s.lst g3),kp.lst (λz=>g6 (z ▸ cL)) (s.lst g4),nl' _ g5 (old _ _ (pR g3)),nl' _ g6 (old _ _ (pR g4))⟩
  .have Yi:i=A.cs.length:=by have:=(cS.mp e1).1;rw[cT,dG]at this;omega
   subst Yi;rw[eF (cZ _)]at e1;rw[h.len,eF (cZ _)]at e2;simp only[gI,iC,jm]at e1 e2;subst e1 e2;have q1:p≠A.ca:=λz=>by rw[z,pR h'.ca]at h1;cases h1
   have q2:wy≠A.ca:=λz=>wL (z ▸ h.oa.1);exact⟨ad,md,kp p _ q1 h1,kp.lst (a:=wy) q2 h2,kp.lst (λz=>h.ni ha (z ▸ cL)) h3,kp.lst (λz=>h.ni hm (z ▸ cL)) h4,nl' _ (h.ni ha) n1,nl' _ (h.ni hm) n2⟩
 .rw[zU];refine gj.mpr ⟨h.nl,dM.mpr ⟨dz,eD⟩,λx hx y hy=>?_⟩;rw[df]at hy;subst hy;exact λz=>wL (z ▸ hx)
 .show(A.b::(A.cs++[(⟨p,wy⟩:rA)]).map (·.p)).Nodup;rw[dH,<-List.cons_append];refine gj.mpr ⟨h.np,dM.mpr ⟨dz,eD⟩,λx hx y hy=>?_⟩;rw[dP,iM,df]at hy;subst hy;refine λz=>h.nM hp (z ▸ ?_);rcases cY.mp hx with y|y
  .rw[y];exact A.mQ.1
  .obtain⟨k,hk,rfl⟩:=dw.mp y;exact A.mQ.2.2.2.2.2.1 k hk
 .unfold sZ.foot at hx;rw[zU]at hx;have hx:x∈A.b::A.nx::(A.lists++[wy]++(A.cs++[(⟨p,wy⟩:rA)]).map (·.p)):=hx;simp only[cY,dR,dH,dP,iM,dz,eQ]at hx;unfold sZ.foot;simp only[cY,dR];rcases hx with z|z|(z|z)|(z|z)
  .exact .inl (.inl z)
  .exact .inl (.inr (.inl z))
  .exact .inl (.inr (.inr (.inl z)))
  .exact .inr (by rw[z];exact hw)
  .exact .inl (.inr (.inr (.inr z)))
  .exact .inr (by rw[z];exact hp)
def pJ.oz{a:Ad}{M:Mp}{A:sZ}{V:qe}{p:Addr}{es:List rK}(h:pJ a M A V)(hp:M p=none):
  pJ a (pB (pB M p (.lst (es.map rK.d))) A.b (.ins a.c (tP (.ref V.p) V.h V.t A.ca p A.nx A.on A.lo))) {A with le:=p} {V with mT:=es}/\qM A M {A with le:=p} (pB (pB M p (.lst (es.map rK.d))) A.b (.ins a.c (tP (.ref V.p) V.h V.t A.ca p A.nx A.on A.lo))):=by
 have t:=qm.new (c:=.lst (es.map rK.d)) hp;have lp:=@pC M p (es.map rK.d);have h1:=h.sub t;have np:p∉A.lists:=h.nW hp;have nf:p∉A.foot:=h.nM hp;have old:∀x c,M x=some c->x≠p:=λx c e z=>by rw[z,hp]at e;cases e
 generalize pB M p (.lst (es.map rK.d))=M1 at t lp h1 ⊢;have kp:rT A.b M1 (pB M1 A.b (.ins a.c (tP (.ref V.p) V.h V.t A.ca p A.nx A.on A.lo))):=.put;have sub:∀x,x∉A.lists++V.fo->x≠p->x∉({A with le:=p}:sZ).lists++V.fo:=λx h1 h2 z=>by
  rcases dR.mp z with z|z
  rotate_left
  .exact h1 (eh _ z)
  have h1:x∉A.lists:=λy=>h1 (fz _ y);unfold sZ.lists at h1 z;simp only[cY,fH]at h1 z;rcases z with z|z|z|z|z
  .exact h1.1 z
  .exact h2 z
  .exact h1.2.2.1 z
  .exact h1.2.2.2.1 z
  .exact h1.2.2.2.2 z
 refine⟨⟨pN,kp.lst (pS h1.ca h1.at_) h1.ca,kp.lst (pS lp h1.at_) lp,kp.dk (Cd h1.nx h1.at_) h1.nx,kp.lst (pS h1.on h1.at_) h1.on,kp.lst (pS h1.lo h1.at_) h1.lo,h.len,λi k c e1 e2=>?_,?_,h.np,wu h1.fo⟩,λx c n e=>kp x c (λz=>n (z ▸ A.mQ.1)) (t x c e),λx hx=>?_,λi k e=>e,λx d e=>Fs (t x d e)⟩
 .obtain⟨ad,md,g1,g2,g3,g4,g5,g6⟩:=(h.cs i k c e1 e2);obtain⟨ad',md',f1,f2,f3,f4,f5⟩:=((h.cs i k c e1 e2).sub t).nV kp h1.at_ (h.oP.2 k (qS e1));have q1:=kp _ _ (λz=>h.oP.2 k (qS e1) z) (t _ _ g1);exact⟨ad,md,q1,f2,kp.lst (pS (t.lst g3) h1.at_) (t.lst g3),kp.lst (pS (t.lst g4) h1.at_) (t.lst g4),sub _ g5 (old _ _ (pR g3)),sub _ g6 (old _ _ (pR g4))⟩
 .have n:=h.nl;unfold sZ.lists at n np ⊢;simp only[cY,fH]at np;simp only[dM,cY,fH]at n ⊢;exact⟨⟨λz=>np.1 z.symm,n.1.2⟩,⟨np.2.2.1,np.2.2.2.1,np.2.2.2.2⟩,n.2.2⟩
 .by_cases z:x=p
  .exact .inr (z ▸ hp)
  .refine .inl ?_;unfold sZ.foot sZ.lists at hx ⊢;simp only[cY,dR]at hx ⊢;rcases hx with y|y|(y|y|y|y|y)|y
   .exact .inl y
   .exact .inr (.inl y)
   .exact .inr (.inr (.inl (.inl y)))
   .exact absurd y z
   .exact .inr (.inr (.inl (.inr (.inr (.inl y)))))
   .exact .inr (.inr (.inl (.inr (.inr (.inr (.inl y))))))
   .exact .inr (.inr (.inl (.inr (.inr (.inr (.inr y))))))
   .exact .inr (.inr (.inr y))
def pJ.frame{a:Ad}{M M':Mp}{A A1 A2:sZ}{V:qe}(h:pJ a M A V)(st:qM A1 M A2 M')(h1:∀x∈A1.foot,x∉A.foot)(h2:∀x∈A1.foot,x∈V.fo\/M x=none):pJ a M' A V:=by
 have hf:∀x∈A.foot,∀c,M x=some c->M' x=some c:=λx hx c e=>st.1 x c (λz=>h1 x z hx) e;have hl:∀{x:Addr} {ds:List D},x∈A.foot->oS M x=some ds->oS M' x=some ds:=λhx e=>rG (hf _ hx _ (pR e));have ho:∀{x:Addr} {ds:List D},x∉A.lists++V.fo->oS M x=some ds->oS M' x=some ds:=λ{x ds} hx e=>rG (st.1 x _ (λz=>(h2 x z).elim (λy=>hx (eh _ y)) λy=>by rw[pR e]at y;cases y) (pR e));obtain⟨f1,f2,f3,f4,f5,f6,f7⟩:=A.mQ;exact⟨hf _ f1 _ h.at_,hl f3 h.ca,hl f4 h.le,BN (hf _ f2 _ (xT h.nx)),hl (A.nE h.oa.2.2.2.2) h.on,hl f5 h.lo,h.len,λi k c e1 e2=>by
  obtain⟨ad,md,g1,g2,g3,g4,g5,g6⟩:=h.cs i k c e1 e2;exact⟨ad,md,hf _ (f6 k (qS e1)) _ g1,hl (f7 k (qS e1)) g2,ho g5 g3,ho g6 g4,g5,g6⟩,h.nl,h.np,λx hx=>(h.fo x hx).elim λc e=>st.2.2.2 x c e⟩
def yZ(x:D)(l:List D):wn (x::l) 0=some x:=by
 unfold wn;have:FX (x::l).length 0=some 0:=by unfold FX;rw[dZ];simp
 rw[this];rfl
def xw(f:pz->Str->Bool)(a:Ad):rb:=λds M Q=>CF λL k c x=>ds=[.ref k.p,.str x]/\rJ a M L k c/\Q (.bl (f c x)) M
abbrev HA:=xw pz.hasB
abbrev zw:=xw pz.mS
abbrev Fh:=xw pz.mZ
abbrev yB:=xw pz.mR
abbrev vw:=xw pz.mL
abbrev Fe:=xw pz.mU
abbrev xg:=xw pz.nu
noncomputable def Pi(x:Str):D->Bool
 | .str y=>!(y==x)
 | _=>false
def zi(a:Ad):rb:=λds M Q=>IE λL k c x y r=>ds=[.ref k.p,.str x]/\rJ a M L k c/\c.ms.length<=100/\rD c.ms x=y::r/\Q (.str y) M
def Ct(ss:List Str)(x:Str):[]++(List.filter (Pi x) (ss.map D.str)).map id=(rD ss x).map D.str:=by rw[dW,i9,gQ];rfl
def Dz{M:Mp}{k:Addr}{ks:List Str}{c:Str}{K:DK}(hk:oS M k=some (ks.map D.str))(h:K (.bl (hasS ks c)) M):R5 false (.str c) (.ref k) M K:=by refine i' hk ⟨rfl,qx ks,?_⟩;show K (.bl (inD (.str c) (ks.map D.str))) M;rw[sr];exact h
def V7(w x y:Str):inD (.str w) [.str x,.str y]=(w==x||w==y):=by rw[show[D.str x,D.str y]=[x,y].map D.str from rfl,sr,gi];simp only[fX,List.any_nil,kt,gP,eY];exact⟨λh=>h.imp mf mf,λh=>h.imp mf mf⟩
def RX(G:Gl K mg a):Fq P w K mg base 1 a.bI (HA a):=by
 refine fq G.bI.toDG G4 (λr u=>⟨_,(pb (pP (pG u (pA v0) pq)
 (pj (pD (JB (qh u U1 (pA v0)) (sO (qh u U1 (pA v0))))))
 pH)
 (pb (pP (pG u (pA v0) pq)
 (pj (pD (qh u U1 (pA v0))))
 pH)
 (pj (pD (tj (qh u (pA v0) (pM (rP pq pq))) (sO (qh u U1 (pA v0)))))))),?_⟩)
 rintro ds M Q ⟨L,k,c,x,rfl,⟨ad,md,h1,h2,h3,h4,_⟩,q⟩
 unfold pz.hasB at q;refine pf h1 (i' rfl ?_);refine qF (c:=c.st=="rings") (λg=>?_) (λg=>?_)
 .rw[cX g]at q;refine pf h1 (i' rfl (qF (c:=x==c.cr) (λg2=>?_) (λg2=>?_)))
  .rw[g2]at q;exact⟨M,.refl,q⟩
  .rw[show(x==c.cr)=false from dD.mpr g2,fL]at q;exact pf h1 (i' rfl (Dz h3 ⟨M,.refl,q⟩))
 .rw[cV g]at q;refine pf h1 (i' rfl ?_);refine qF (c:=c.st=="waits") (λg2=>?_) (λg2=>?_)
  .rw[cX g2]at q;exact pf h1 (i' rfl ⟨M,.refl,q⟩)
  .rw[cV g2]at q;refine pf h1 (i' rfl ⟨oZ rfl,rfl,rfl,?_⟩);show if inD (.str c.st) [.str "talks",.str "held"]=true then _ else _
   rw[V7];refine qF (λg3=>?_) (λg3=>?_)
   .rw[g3,eE]at q;exact pf h1 (i' rfl (Dz h4 ⟨M,.refl,q⟩))
   .rw[show(c.st=="talks"||c.st=="held")=false from dD.mpr g3,eM]at q;exact⟨M,.refl,q⟩
def vS(G:Gl K mg a):Fq P w K mg base 1 a.Z (zw a):=by
 refine fq G.Z.toDG yH (λr u=>⟨_,(pj (pD (tj (qh u (pA v0) pq) (sO (qh u U1 (pA v0)))))),?_⟩)
 rintro ds M Q ⟨L,k,c,x,rfl,⟨ad,md,h1,h2,h3,h4,_⟩,q⟩
 unfold pz.mS at q;refine pf h1 (i' rfl (qF (c:=c.st=="talks") (λg=>?_) (λg=>?_)))
 .rw[g,eE]at q;exact pf h1 (i' rfl (Dz h4 ⟨M,.refl,q⟩))
 .rw[show(c.st=="talks")=false from dD.mpr g,eM]at q;exact⟨M,.refl,q⟩
def Nb(G:Gl K mg a):Fq P w K mg base 2 a.bH (Fh a):=by
 refine fq G.bH.toDG CQ (λr u=>⟨_,(pb (pP (pG u (pA v0) pq)
 (pj (pD (tj (qh u U1 (pA v0)) (sO (qh u U1 (pA v0))))))
 pH)
 (pj (pD (pT v0 G.e.toCls G.Z (vS G) r (qb U1))))),?_⟩)
 rintro ds M Q ⟨L,k,c,x,rfl,hc,q⟩
 obtain⟨ad,md,h1,h2,h3,h4,_⟩:=id hc;unfold pz.mZ at q;refine pf h1 (i' rfl ?_);refine qF (c:=c.st=="held") (λg=>?_) (λg=>?_)
 .rw[cX g]at q;refine pf h1 (i' rfl (i' h4 ⟨rfl,qx c.ms,?_⟩));show if inD (.str x) (c.ms.map D.str)=true then _ else _
  rw[sr];refine qF (c:=hasS c.ms x) (λg2=>?_) (λg2=>?_)
  .rw[g2,eE]at q;refine pf h1 (i' rfl ?_);cases e:c.hd with
   | none=>rw[e]at q;exact⟨M,.refl,q⟩
   | some y=>
    rw[e]at q;refine⟨M,.refl,?_⟩;rw[show(!(some y==some x))=!(x==y)from by
     show(!(y==x))=_;rw[mh]]at q
    exact q
  .rw[show hasS c.ms x=false from dD.mpr g2,eM]at q;exact⟨M,.refl,q⟩
 .rw[cV g]at q;exact pf h1 ⟨rfl,_,⟨rfl,rfl⟩,L,k,c,x,rfl,hc,M,.refl,q⟩
def BW(G:Gl K mg a):Fq P w K mg base 1 a.X (yB a):=by
 refine fq G.X.toDG yj (λr u=>⟨_,(pj (pD (tj (qh u (pA v0) (pM (rP pq pq))) (sO (qh u U1 (pA v0)))))),?_⟩)
 rintro ds M Q ⟨L,k,c,x,rfl,⟨ad,md,h1,h2,h3,h4,_⟩,q⟩
 unfold pz.mR at q;refine pf h1 (i' rfl ⟨oZ rfl,rfl,rfl,?_⟩);show if inD (.str c.st) [.str "rings",.str "waits"]=true then _ else _
 rw[V7];refine qF (λg3=>?_) (λg3=>?_)
 .rw[g3,eE]at q;exact pf h1 (i' rfl ⟨M,.refl,q⟩)
 .rw[show(c.st=="rings"||c.st=="waits")=false from dD.mpr g3,eM]at q;exact⟨M,.refl,q⟩
def F9(G:Gl K mg a):Fq P w K mg base 1 a.av (vw a):=by
 refine fq G.av.toDG yQ (λr u=>⟨_,(pj (pD (tj (qh u (pA v0) pq) (sO (qh u U1 (pA v0)))))),?_⟩)
 rintro ds M Q ⟨L,k,c,x,rfl,⟨ad,md,h1,h2,h3,h4,_⟩,q⟩
 unfold pz.mL at q;refine pf h1 (i' rfl (qF (c:=c.st=="waits") (λg=>?_) (λg=>?_)))
 .rw[g,eE]at q;exact pf h1 (i' rfl (Dz h3 ⟨M,.refl,q⟩))
 .rw[show(c.st=="waits")=false from dD.mpr g,eM]at q;exact⟨M,.refl,q⟩
def Lx(G:Gl K mg a):Fq P w K mg base 2 a.bG (xg a):=by
 refine fq G.bG.toDG wO (λr u=>⟨_,(pj (pD (JB (pT v0 G.e.toCls G.X (BW G) r (qb U1)) (JB (qh u U1 (pA v0)) (sO (qh u U1 (pA v0))))))),?_⟩)
 rintro ds M Q ⟨L,k,c,x,rfl,hc,q⟩
 obtain⟨ad,md,h1,h2,h3,h4,_⟩:=id hc;unfold pz.nu at q;refine pf h1 ⟨rfl,_,⟨rfl,rfl⟩,L,k,c,x,rfl,hc,qF (c:=c.mR x) (λg=>?_) (λg=>?_)⟩
 .rw[g]at q;exact⟨M,.refl,q⟩
 .rw[show c.mR x=false from dD.mpr g,fL]at q;refine pf h1 (i' rfl (i' h3 ⟨rfl,qx c.at_,?_⟩));show if inD (.str x) (c.at_.map D.str)=true then _ else _
  rw[sr];refine qF (c:=hasS c.at_ x) (λg2=>?_) (λg2=>?_)
  .rw[g2]at q;exact⟨M,.refl,q⟩
  .rw[show hasS c.at_ x=false from dD.mpr g2,fL]at q;exact pf h1 (i' rfl (Dz h4 ⟨M,.refl,q⟩))
def Gi(G:Gl K mg a):Fq P w K mg base 2 a.ax (Fe a):=by
 refine fq G.ax.toDG CK (λr u=>⟨_,(pj (pD (tj (pT v0 G.e.toCls G.Z (vS G) r (qb U1)) (sO (qh u (pQ qu rfl G.g qp (qb (pA v0))) pk))))),?_⟩)
 rintro ds M Q ⟨L,k,c,x,rfl,hc,q⟩
 obtain⟨ad,md,h1,h2,h3,h4,_⟩:=id hc;unfold pz.mU at q;refine pf h1 ⟨rfl,_,⟨rfl,rfl⟩,L,k,c,x,rfl,hc,qF (c:=c.mS x) (λg=>?_) (λg=>?_)⟩
 .rw[g,eE]at q;refine pf h1 (i' rfl (i' h4 ⟨M,.refl,?_⟩));rw[cQ];have:(((c.ms.length:Nat):Int)==2)=(c.ms.length==2):=by rw[gi,eY,eY];omega
  show Q (.bl (((c.ms.length:Nat):Int)==2)) M;rw[this];exact q
 .rw[show c.mS x=false from dD.mpr g,eM]at q;exact⟨M,.refl,q⟩
def Ha(G:Gl K mg a):Fq P w K mg base 1 a.aw (zi a):=by
 refine fq G.aw.toDG yO (λr u=>⟨_,(pj (pD (pI (qD rfl (xQ (ix:=[none,some 1]) (N':=["member","phone"])) (qC (pA v0)) (qA 0) (vM (pG u v0 U1)) v0) pk))),?_⟩)
 rintro ds M Q ⟨L,k,c,x,y,r,rfl,hc,hl,e,q⟩
 have hz:=dF;obtain⟨ad,md,h1,h2,h3,h4,_⟩:=id hc;refine pf h1 (i' rfl (i' h4 (tL (f:=id) (t:=Pi x) h4 _ [] _ (by rw[cQ];simp only[dE];omega) (λd hd k0 hk=>?_) (λd hd _ k0 hk=>?_) λp hp=>?_)))
 .obtain⟨y,hy,rfl⟩:=dw.mp hd;exact hk
 .obtain⟨y,hy,rfl⟩:=dw.mp hd;exact hk
 rw[Ct,e];exact i' pC (i' (yZ _ _) ⟨M,.new hp,q⟩)
theorem B7:∀bs:List Bool,AA (.bl true) (bs.map D.bl)=bs.findIdx? id
 | []=>rfl
 | b::r=>by rw[dP,List.findIdx?_cons];unfold AA;rw[B7 r];cases b<;>rfl
theorem MQ(x:D):∀ds:List D,(AA x ds).isSome=ds.any λd=>NY d x
 | []=>rfl
 | d::r=>by
  unfold AA;rw[fX];by_cases h:NY d x=true
  .rw[cX h,h];rfl
  .rw[cV h,jl,MQ x r,show NY d x=false from dD.mpr h,fL]
theorem Cp:∀bs:List Bool,(bs.map D.bl).all uQ=true
 | []=>rfl
 | _::r=>by rw[dP,eO,Cp r];rfl
structure Rd(a:Ad)(M:Mp)(A:sZ)(V:qe)(l:pE):Prop where
 bd:pJ a M A V
 k:V.calls.length<=1000000
 pl:sT a M V.p l
 ok:qY l
 on:V.on.length=l.mF.length
 ms:∀c∈V.calls,(∀x∈c.ms,x∈l.pn)/\c.ms.length<=100
def Rd.sub{a:Ad}{M M':Mp}{A:sZ}{V:qe}{l:pE}(h:Rd a M A V l)(s:qm M M'):Rd a M' A V l:=⟨h.bd.sub s,h.k,h.pl.sub s,h.ok,h.on,h.ms⟩
def ML:rb:=λds M Q=>Bq λr bs=>ds=[.ref r]/\oS M r=some (List.map D.bl bs)/\Q (OX (bs.findIdx? id)) M
def Ki(f:qe->Str->D)(a:Ad):rb:=λds M Q=>CO λA V x=>ds=[.ref A.b,.str x]/\pJ a M A V/\V.calls.length<=1000000/\Q (f V x) M
noncomputable def UB(V:qe)(x:Str):D:=.int (uS V x:Nat)
noncomputable def MO(V:qe)(x:Str):D:=OX (ET V x)
noncomputable def Ak(V:qe)(x:Str):D:=OX (vC V x)
noncomputable def S7(V:qe)(x:Str):D:=OX (IW V x)
noncomputable def S6(V:qe)(x:Str):D:=.bl (Au V x)
abbrev EL:=Ki UB
abbrev C5:=Ki MO
abbrev AK:=Ki Ak
abbrev AG:=Ki S7
abbrev zV:=Ki S6
def xb(a:Ad):rb:=λds M Q=>CF λA V l x=>ds=[.ref A.b,.str x]/\Rd a M A V l/\x∈l.pn/\Q (.bl (tV l V x)) M
def Ae(a:Ad):rb:=λds M Q=>F8 λA V l c z=>ds=[.ref A.b,.str c,.str z]/\Rd a M A V l/\z∈l.nm/\∀q M',qm M M'->M q=none->oS M' q=some ((ug l V c z).map D.str)->Q (.ref q) M'
def Ab(a:Ad):rb:=λds M Q=>Bq λA V=>ds=[.ref A.b]/\pJ a M A V/\Q (.int ((V.h+V.t) % 24)) M
def OC(a:Ad):rb:=λds M Q=>F8 λA V l c z=>ds=[.ref A.b,.str c,.str z]/\Rd a M A V l/\z∈l.nm/\Q (.bl (xH l V c z)) M
def El{a:Ad}{M:Mp}{A:sZ}{V:qe}(h:pJ a M A V){pre post:List D}{d:D}(e:pre++d::post=A.cs.map λk=>D.ref k.p):∃k c,A.cs[pre.length]?=some k/\V.calls[pre.length]?=some c/\d=.ref k.p/\rJ a M (A.lists++V.fo) k c/\V.calls.take (pre.length+1)=V.calls.take pre.length++[c]:=by
 have h1:(A.cs.map λk=>D.ref k.p)[pre.length]?=some d:=by rw[<-e];simp
 rw[dq]at h1;cases z:A.cs[pre.length]? with
 | none=>rw[z]at h1;cases h1
 | some k=>
  rw[z]at h1;have hi:pre.length<V.calls.length:=by rw[<-h.len];exact(cS.mp z).1
  have e2:V.calls[pre.length]?=some V.calls[pre.length]:=cU hi;refine⟨k,_,rfl,e2,(c9 h1).symm,h.cs _ _ _ z e2,?_⟩;rw[gU,e2];rfl
def yP{l:pE}{x:Str}(h:x∈l.pn):∃v,l.mX x=some v:=by
 obtain⟨p,hp,rfl⟩:=dw.mp h;unfold pE.mX;cases e:l.mH.find? λq=>decide (q.1=p.1)with
 | some v=>exact⟨v,rfl⟩
 | none=>exact absurd (gR.mp e p hp) (by simp)
def qP{ss:List Str}{x:Str}:hasS ss x=true↔x∈ss:=by unfold hasS;rw[gx];exact⟨λ⟨y,hy,e⟩=>eq_of_beq e ▸ hy,λh=>⟨x,h,fC _⟩⟩
def Kv{ss:List Str}(h:ww ss=true):ss.Nodup:=by
 have h:(sQ ss).length=ss.length:=by unfold ww at h;have:=eY.mp h;omega
 suffices key:∀r:List Str,(sQ r.reverse).length=r.reverse.length->r.reverse.Nodup by have:=key ss.reverse;rw[List.reverse_reverse]at this;exact this h
 intro r;induction r with
 | nil=>intro _;exact eD
 | cons k r ih=>
  intro h;rw[List.reverse_cons]at h ⊢;generalize r.reverse=l at ih h ⊢;rw[xY]at h;split at h
  .have:=IS l;rw[cT,dG]at h;omega
  .rename_i hk;rw[cT,cT,dG]at h;have h1:=ih (by omega);rw[K5]at hk;refine gj.mpr ⟨h1,by simp,λx hx y hy=>?_⟩;rw[df.mp hy];exact λz=>hk (z ▸ hx)
def He{cs ks:List Str}{m:Int}(h:sy cs ks m=true):cs≠[]/\(cs.length:Int)<=m/\cs.Nodup/\∀x∈cs,x∈ks:=by unfold sy at h;simp only[dO,dY,eA]at h;obtain⟨h1,h2,h3,h4⟩:=h;refine⟨λz=>by rw[z]at h1;exact absurd h1 (by decide),h2,Kv h3,λx hx=>qP.mp (h4 x hx)⟩
def qY.of{l:pE}(ok:qY l){z:Str}(hz:z∈l.nm):(l.mE z≠[]/\(l.mE z).length<=4/\(l.mE z).Nodup/\∀x∈l.mE z,x∈l.pn)/\(z∈l.pn->l.mE z=[z]/\l.mM z="one"):=by
 have hd:=gj.mp ok.nd;have h1:z∈l.pn->l.group z=none:=λh=>gR.mpr λg hg e=>hd.2.2 z h g.1 (dw.mpr ⟨g,hg,rfl⟩) (by simpa using e:g.1=z).symm;refine⟨?_,λh=>by unfold pE.mE pE.mM;rw[h1 h];exact⟨rfl,rfl⟩⟩;unfold pE.mE;cases e:l.group z with
 | none=>
  have hp:z∈l.pn:=by
   rcases dR.mp hz with h|h
   .exact h
   .obtain⟨g,hg,rfl⟩:=dw.mp h;exact absurd (gR.mp e g hg) (by simp)
  exact⟨ft _ _,by show 1<=4;decide,dM.mpr ⟨dz,eD⟩,λx hx=>by rw[df.mp hx];exact hp⟩
 | some g=>obtain⟨c1,c2,c3,c4⟩:=He (ok.go g (gf e)).mem;exact⟨c1,by show g.2.2.length<=4;omega,c3,c4⟩
def x9{a:Ad}{M:Mp}{A:sZ}{V:qe}{f:pz->Str->Bool}{m x:Str}{Q:DK}{ok:Mp->Prop}(bd:pJ a M A V)(hk:V.calls.length<=1000000)(mP:ok M)(hm:∀c wy ad md,(rc c wy ad md).lookup m=none)(q:∀p,M p=none->Q (.ref p) (pB M p (.lst ((V.calls.map λc=>f c x).map D.bl)))):
  uP (ue 0) Bl (Ax m (λC s=>C=a.e/\s=xw f a) (v3 0) (ve (v3 1) wY)) ok Q (A.cs.map λk=>D.ref k.p) [] [none,some (.str x)] M:=by
 have hz:=dF;refine wK (A.cs.map λk=>D.ref k.p) (λpre acc δ M'=>M=M'/\acc=((V.calls.take pre.length).map λc=>f c x).map D.bl/\∃y,δ=[y,some (.str x)]) (λ_ _ _ M' j=>by rw[<-j.1];exact mP) _ [] [] _ _ rfl ?_ ⟨rfl,rfl,none,rfl⟩ ?_ ?_
 .rw[cQ,bd.len];simp only[dE];omega
 .rintro pre d post e acc δ M' ⟨rfl,rfl,y,rfl⟩ k hk
  obtain⟨ka,c,e1,e2,rfl,hc,et⟩:=El bd e;obtain⟨_,_,g1,_⟩:=id hc;refine pf g1 ⟨hm _ _ _ _,_,⟨rfl,rfl⟩,_,ka,c,x,rfl,hc,hk _ _ _ ⟨rfl,?_,_,rfl⟩⟩;rw[cT,dG,et,dH,dH];rfl
 .rintro acc δ M' ⟨rfl,rfl,y,rfl⟩ p hp
  rw[cQ,bd.len,e9];exact q p hp
def Cy(G:Gl K mg a):Fq P w K mg base 1 a.P ML:=by
 refine fq G.P.toDG Ag (λr u=>⟨_,(pb (pP (pG u w9 v0)
 (pj (pD (xI v0 (qb w9))))
 pH)
 (pj (pD rQ))),?_⟩)
 rintro ds M Q ⟨r,bs,rfl,hr,q⟩
 have ei:inD (.bl true) (bs.map D.bl)=(bs.findIdx? id).isSome:=by rw[<-B7];exact(MQ _ _).symm
 refine i' hr ⟨rfl,Cp bs,?_⟩;show if inD (.bl true) (bs.map D.bl)=true then _ else _
 rw[ei];cases e:bs.findIdx? id with
 | none=>rw[e]at q;exact⟨M,.refl,q⟩
 | some j=>rw[e]at q;exact Qf ⟨by show(oS M r).isSome=true;rw[hr];rfl,i' hr ⟨rfl,Cp bs,i' ((B7 bs).trans e) ⟨M,.refl,q⟩⟩⟩
def O7(G:Gl K mg a):Fq P w K mg base 2 a.bE (EL a):=by
 refine fq G.bE.toDG Dc (λr u=>⟨_,(pj (pD (pQ qu rfl G.g qp (qb (qD rfl (xQ (ix:=[none,some 1]) (N':=["call","phone"])) (qC (pA v0)) (qA 0) (vM (vK (pT v0 G.e.toCls G.bI (RX G) r (qb U1)))) v0))))),?_⟩)
 rintro ds M Q ⟨A,V,x,rfl,bd,Xb,q⟩
 have hz:=dF;refine pf bd.at_ (i' rfl (i' bd.ca ?_));refine yb (A.cs.map λk=>D.ref k.p) (λpre acc δ M'=>M=M'/\acc.length=((V.calls.take pre.length).filter (·.hasB x)).length/\∃y,δ=[y,some (.str x)]) (λ_ _ _ M' j=>by rw[<-j.1];exact bd.ca) _ [] [] _ _ rfl ?_ ⟨rfl,rfl,none,rfl⟩ ?_ ?_
 .rw[cQ,bd.len];simp only[dE];omega
 .rintro pre d post e acc δ M' ⟨rfl,ha,y,rfl⟩ k k2 hk YO
  obtain⟨ka,c,e1,e2,rfl,hc,et⟩:=El bd e;rw[cT,dG,et,je]at hk YO;obtain⟨_,_,g1,_⟩:=id hc;refine pf g1 ⟨rfl,_,⟨rfl,rfl⟩,_,ka,c,x,rfl,hc,?_⟩;refine qF (c:=c.hasB x) (λg=>?_) (λg=>?_)
  .refine hk _ _ _ ⟨rfl,?_,_,rfl⟩;rw[cT,cT,ha,iA (by exact g)];rfl
  .refine YO _ _ ⟨rfl,?_,_,rfl⟩;rw[cT,ha,iB (by exact g)];rfl
 .rintro acc δ M' ⟨rfl,ha,y,rfl⟩ p hp
  refine i' pC ⟨M,.new hp,?_⟩;rw[cQ,bd.len,e9]at ha;rw[ha];exact q
def LY(G:Gl K mg a):Fq P w K mg base 3 a.bC (C5 a):=by
 refine fq G.bC.toDG Cv (λr u=>⟨_,(pj (pD (pF (Cy G) r G.P (qb (qD rfl (xQ (ix:=[none,some 1]) (N':=["call","phone"])) (qC (pA v0)) (qA 0) rH (pT v0 G.e.toCls G.bH (Nb G) r (qb U1))))))),?_⟩)
 rintro ds M Q ⟨A,V,x,rfl,bd,Xb,q⟩
 refine pf bd.at_ (i' rfl (i' bd.ca (x9 bd Xb bd.ca (λ_ _ _ _=>rfl) λp hp=>⟨p,_,rfl,pC,M,.new hp,?_⟩)));rw[gX];exact q
def HP(G:Gl K mg a):Fq P w K mg base 3 a.bD (AG a):=by
 refine fq G.bD.toDG zT (λr u=>⟨_,(pj (pD (pF (Cy G) r G.P (qb (qD rfl (xQ (ix:=[none,some 1]) (N':=["call","phone"])) (qC (pA v0)) (qA 0) rH (pT v0 G.e.toCls G.X (BW G) r (qb U1))))))),?_⟩)
 rintro ds M Q ⟨A,V,x,rfl,bd,Xb,q⟩
 refine pf bd.at_ (i' rfl (i' bd.ca (x9 bd Xb bd.ca (λ_ _ _ _=>rfl) λp hp=>⟨p,_,rfl,pC,M,.new hp,?_⟩)));rw[gX];exact q
def yx(G:Gl K mg a):Fq P w K mg base 3 a.Y (AK a):=by
 refine fq G.Y.toDG zN (λr u=>⟨_,(pj (pD (pF (Cy G) r G.P (qb (qD rfl (xQ (ix:=[none,some 1]) (N':=["call","phone"])) (qC (pA v0)) (qA 0) rH (pT v0 G.e.toCls G.Z (vS G) r (qb U1))))))),?_⟩)
 rintro ds M Q ⟨A,V,x,rfl,bd,Xb,q⟩
 refine pf bd.at_ (i' rfl (i' bd.ca (x9 bd Xb bd.ca (λ_ _ _ _=>rfl) λp hp=>⟨p,_,rfl,pC,M,.new hp,?_⟩)));rw[gX];exact q
def GT(G:Gl K mg a):Fq P w K mg base 3 a.bL (zV a):=by
 refine fq G.bL.toDG zA (λr u=>⟨_,(pj (pD (pQ (RS rfl) rfl G.cD Rn (qb (qD rfl (xQ (ix:=[none,some 1]) (N':=["call","phone"])) (qC (pA v0)) (qA 0) rH (pT v0 G.e.toCls G.av (F9 G) r (qb U1))))))),?_⟩)
 rintro ds M Q ⟨A,V,x,rfl,bd,Xb,q⟩
 refine pf bd.at_ (i' rfl (i' bd.ca (x9 bd Xb bd.ca (λ_ _ _ _=>rfl) λp hp=>i' pC ?_)));rw[dU];refine i' (xZ _ _) ⟨M,.new hp,?_⟩;rw[jI];exact q
def GD(G:Gl K mg a):Fq P w K mg base 1 a.bK (Ab a):=by
 refine fq G.bK.toDG zb (λr u=>⟨_,(pj (pD (pV (pV (pA v0) (pA v0)) pk))),?_⟩)
 rintro ds M Q ⟨A,V,rfl,bd,q⟩
 exact pf bd.at_ (i' rfl (pf bd.at_ (i' rfl ⟨by decide,M,.refl,q⟩)))
def K6{l:pE}{x:Str}{v:uD}(h:l.mX x=some v):wH l x=v.2.1:=by unfold wH;rw[h];rfl
def yS(G:Gl K mg a):Fq P w K mg base 3 a.V (xb a):=by
 refine fq G.V.toDG zK (λr u=>⟨_,(pj (pD (qh u (pT v0 G.c.toCls G.bE (O7 G) r (qb U1)) (pT (pA v0) G.h.toCls G.bF (Di G) r (qb U1))))),?_⟩)
 rintro ds M Q ⟨A,V,l,x,rfl,rd,hx,q⟩
 obtain⟨ph,gr,ws,X6,pr,gd,rs,i1,_⟩:=rd.pl;obtain⟨v,hv⟩:=yP hx;refine pf rd.bd.at_ ⟨rfl,_,⟨rfl,rfl⟩,A,V,x,rfl,rd.bd,rd.k,?_⟩;refine pf rd.bd.at_ (i' rfl (pf i1 ⟨rfl,_,⟨rfl,rfl⟩,V.p,x,v,l,rfl,rd.pl,hv,?_⟩));unfold tV at q;rw[K6 hv]at q;exact⟨M,.refl,q⟩
def As(G:Gl K mg a):Fq P w K mg base 4 a.aM (Ae a):=by
 refine fq G.aM.toDG zm (λr u=>⟨_,(pj (pD (qD rfl (xQ (ix:=[none,some 1,some 0]) (N':=["phone","caller","self"])) (qC (pT (pA v0) G.h.toCls G.aa (uq G) r (qb U2))) (qA 0) (vM (W3.b3 (yI (pG u v0 U1) (x8 (vK (pT U2 G.c.toCls G.V (yS G) r (qb v0))))))) v0))),?_⟩)
 rintro ds M Q ⟨A,V,l,c,z,rfl,rd,XO,q⟩
 obtain⟨ph,gr,ws,X6,pr,gd,rs,i1,_⟩:=rd.pl;obtain⟨⟨_,p4,_,pin⟩,_⟩:=rd.ok.of XO;refine pf rd.bd.at_ (i' rfl (pf i1 ⟨rfl,_,⟨rfl,rfl⟩,V.p,z,l,rfl,rd.pl,λq1 Xr=>i' pC ?_⟩));have s1:=qm.new (c:=.lst (List.map D.str (l.mE z))) Xr;have c1:=@pC M q1 (List.map D.str (l.mE z));generalize pB M q1 (.lst (List.map D.str (l.mE z)))=M1 at s1 c1 ⊢;have hz:=dF;have Yz:=rd.sub s1;refine tL (f:=id) (t:=λd=>match d with|.str x=>!(x==c)&&tV l V x|_=>false) c1 _ [] _ (by rw[cQ];simp only[dE];omega) (λd hd k hk=>?_) (λd hd _ k hk=>?_) λq2 Yf=>?_
 .obtain⟨x,hx,rfl⟩:=dw.mp hd;have hk:k (!(x==c)&&tV l V x) M1:=hk;cases e:x==c with
  | true=>rw[e]at hk;refine NA (c:=!(x==c)) (by rw[e];rfl) hk
  | false=>rw[e]at hk;refine AC (c:=!(x==c)) (by rw[e];rfl) (pf Yz.bd.at_ ⟨rfl,_,⟨rfl,rfl⟩,A,V,l,x,rfl,Yz,pin x hx,hk⟩)
 .obtain⟨x,hx,rfl⟩:=dw.mp hd;exact hk
 .have ef:[]++(List.filter (λd=>match d with|.str x=>!(x==c)&&tV l V x|_=>false) ((l.mE z).map D.str)).map id=(ug l V c z).map D.str:=by rw[dW,i9,gQ];rfl
  rw[ef];have t2:=qm.new (c:=.lst ((ug l V c z).map D.str)) Yf;exact⟨_,.refl,q q2 _ (s1.trans t2) (s1.none Yf) pC⟩
def FE(G:Gl K mg a):Fq P w K mg base 5 a.R (OC a):=by
 refine fq G.R.toDG Hl (λr u=>⟨_,(pj (pD (qh u (pQ qu rfl G.g qp (qb (pT v0 G.c.toCls G.aM (As G) r (rP U1 U2)))) pk))),?_⟩)
 rintro ds M Q ⟨A,V,l,c,z,rfl,rd,tg,q⟩
 refine pf rd.bd.at_ ⟨rfl,_,⟨rfl,rfl⟩,A,V,l,c,z,rfl,rd,tg,λq1 M1 s1 Xr e1=>i' e1 ⟨M,s1,?_⟩⟩;have e:((((ug l V c z).map D.str).length:Int)==0)=xH l V c z:=by unfold xH;rw[cQ,gi,eY,List.isEmpty_iff,<-gm];omega
 show Q (.bl ((((ug l V c z).map D.str).length:Int)==0)) M;rw[e];exact q
def wJ(a:Ad)(v:Wi):rb:=λds M Q=>IE λp A V l c z=>ds=[.ref p,.ref A.b,.str c,.str z]/\M p=some (.ins (v.cls a) v.nG)/\Rd a M A V l/\z∈l.nm/\Bz l.pn l.nm v/\Q (.bl (AS l V c z v)) M
def Qz(a:Ad)(v:Wi):rb:=λds M Q=>CF λp L k c=>ds=[.ref p,.ref (rA.p k)]/\M p=some (.ins (v.cls a) v.nG)/\rJ a M L k c/\Q (.bl (Gh c v)) M
def FY:rb:=λds M Q=>Bq λx y=>ds=[x,y]/\Q (.bl false) M
def Mv(a:Ad):Addr->rb->Prop:=λC sp=>∃v:Wi,C=v.cls a/\sp=wJ a v
noncomputable def LZ(a:Ad):Wi->rb
 | .silent x y n=>Qz a (.silent x y n)
 | _=>FY
def FM(a:Ad):Addr->rb->Prop:=λC sp=>∃v:Wi,C=v.cls a/\sp=LZ a v
def Ah(a:Ad):rb:=λds M Q=>IE λp x y f l h=>ds=[.ref p,.int h]/\M p=some (.ins a.n (Wi.night x y f l).nG)/\Q (.bl (Ft f l h)) M
def zh(a:Ad):rb:=λds M Q=>IE λp x q l r ms=>ds=[.ref p,.ref q,.ref r]/\M p=some (.ins a.o (Wi.breaks x).nG)/\sT a M q l/\oS M r=some (List.map D.str ms)/\ms.length<=100/\x∈l.pn/\(∀m∈ms,m∈l.pn)/\Q (.bl (HZ l x ms)) M
def IM{l:pE}{x:Str}{v:uD}(h:l.mX x=some v):vJ l x=v.2.2:=by unfold vJ;rw[h];rfl
def rf{ks:List rA}{i:Nat}{k:rA}(h:ks[i]?=some k):wn (ks.map λk=>D.ref k.p) (i:Nat)=some (.ref k.p):=ua (by rw[dq,h];rfl)
def Nn(ds:List D):L3.uM ds (some (-1:Int)) none=ds.drop (ds.length - 1):=by
 unfold L3.uM;have e:HT.sY ds.length 0 (some (-1:Int))=ds.length - 1:=by show(if (-1:Int)<0 then((-1:Int)+(ds.length:Int)).toNat else min (-1:Int).toNat ds.length)=ds.length - 1;rw[cX (by decide)];omega
 rw[e];show(ds.drop (ds.length - 1)).take (ds.length - (ds.length - 1))=_;exact iF (by rw[gv];exact cZ _)
theorem DV{α:Type}:∀w:List α,w.drop (w.length - 1)=w.getLast?.toList
 | []=>rfl
 | [_]=>rfl
 | _::z::r=>by rw[List.getLast?_cons_cons,<-DV (z::r)];rfl
def OA{M:Mp}{p q:Addr}{w:List Str}{x:Str}(h1:oS M p=some ((w.map D.str).drop ((w.map D.str).length - 1)))(h2:oS M q=some [D.str x]):yd M 9 (.ref p) (.ref q)=some (w.getLast?==some x):=by
 have e:(w.map D.str).drop ((w.map D.str).length - 1)=(w.getLast?.toList).map D.str:=by rw[cQ,<-ky];rw[DV]
 rw[e]at h1;show(oS M p).bind (λi=>(oS M q).bind λj=>if i.length=j.length then sD (yd M 8) i j else some false)=_;rw[h1,h2];cases w.getLast? with
 | none=>rfl
 | some y=>show((some (y==x)).bind λp=>(some true).map λq=>p&&q)=some (some y==some x);show some ((y==x)&&true)=_;rw[Bool.and_true];rfl
def NE(G:Gl K mg a)(x:Str)(ns:List Str):Fq P w K mg base 6 a.aD (wJ a (.bar x ns)):=by
 refine fq G.aD.toDG Gx (λr u=>⟨_,(pj (pD (tj (qh u U2 (pA v0)) (sO (qh u U3 (pA v0)))))),?_⟩)
 rintro ds M Q ⟨p,A,V,l,c,z,rfl,hp,_,_,_,q⟩
 refine pf hp ?_;refine qF (c:=c==x) (λg=>pf hp ⟨rfl,qx ns,M,.refl,?_⟩) (λg=>⟨M,.refl,?_⟩)
 .show Q (.bl (inD (.str z) (ns.map D.str))) M;rw[sr];dsimp only[AS]at q;rw[g,eE]at q;exact q
 .dsimp only[AS]at q;rw[show(c==x)=false from dD.mpr g,eM]at q;exact q
def Mq(G:Gl K mg a)(x:Str)(ns:List Str):Fq P w K mg base 6 a.aE (wJ a (.shut x ns)):=by
 refine fq G.aE.toDG Ew (λr u=>⟨_,(pj (pD (tj (qh u U3 (pA v0)) (sO (qh u U2 (pA v0)))))),?_⟩)
 rintro ds M Q ⟨p,A,V,l,c,z,rfl,hp,_,_,_,q⟩
 refine pf hp ?_;refine qF (c:=z==x) (λg=>pf hp ⟨rfl,qx ns,M,.refl,?_⟩) (λg=>⟨M,.refl,?_⟩)
 .show Q (.bl (inD (.str c) (ns.map D.str))) M;rw[sr];dsimp only[AS]at q;rw[g,eE]at q;exact q
 .dsimp only[AS]at q;rw[show(z==x)=false from dD.mpr g,eM]at q;exact q
def Mm(G:Gl K mg a)(x y:Str):Fq P w K mg base 6 a.aF (wJ a (.always x y)):=by
 refine fq G.aF.toDG Cu (λr u=>⟨_,(pj (pD (qh u U3 (pA v0)))),?_⟩)
 rintro ds M Q ⟨p,A,V,l,c,z,rfl,hp,_,_,_,q⟩
 exact pf hp ⟨M,.refl,q⟩
def F0(G:Gl K mg a):Fq P w K mg base 1 a.bJ (Ah a):=by
 refine fq G.bJ.toDG zq (λr u=>⟨_,(pb (pP (pG u (pA v0) (pA v0))
 (pj (pD (uo u (pA v0) U1 (pA v0))))
 pH)
 (pj (pD (JB (qh u U1 (pA v0)) (sO (qh u U1 (pA v0))))))),?_⟩)
 rintro ds M Q ⟨p,x,y,f,l,h,rfl,hp,q⟩
 refine pf hp (pf hp ?_);show if (decide (f<l))=true then _ else _
 unfold Ft at q;by_cases z:f<l
 .rw[cX z]at q;refine AC (dQ z) (pf hp ?_);refine qF (c:=decide (f<=h)) (λg=>?_) (λg=>?_)
  .rw[g,eE]at q;exact pf hp ⟨M,.refl,q⟩
  .rw[show decide (f<=h)=false from dD.mpr g,eM]at q;exact⟨M,.refl,q⟩
 .rw[cV z]at q;refine NA (eK z) (pf hp ?_);refine qF (c:=decide (h>=f)) (λg=>?_) (λg=>?_)
  .rw[g,gY]at q;exact⟨M,.refl,q⟩
  .rw[show decide (h>=f)=false from dD.mpr g,fL]at q;exact pf hp ⟨M,.refl,q⟩
def L6(G:Gl K mg a)(x y:Str)(f m:Int):Fq P w K mg base 6 a.aG (wJ a (.night x y f m)):=by
 refine fq G.aG.toDG CY (λr u=>⟨_,(pj (pD (tj (qh u U3 (pA v0)) (sO (pT v0 G.n.toCls G.bJ (F0 G) r (qb (vE U1 G.c.toCls G.bK (GD G) r))))))),?_⟩)
 rintro ds M Q ⟨p,A,V,l,c,z,rfl,hp,rd,_,_,q⟩
 dsimp only[AS]at q;refine pf hp ?_;refine qF (c:=z==x) (λg=>?_) (λg=>?_)
 .rw[g,eE]at q;exact pf hp ⟨rfl,_,⟨rfl,rfl⟩,pf rd.bd.at_ ⟨rfl,_,⟨rfl,rfl⟩,A,V,rfl,rd.bd,p,x,y,f,m,_,rfl,hp,M,.refl,q⟩⟩
 .rw[show(z==x)=false from dD.mpr g,eM]at q;exact⟨M,.refl,q⟩
def LQ(G:Gl K mg a)(x y:Str):Fq P w K mg base 6 a.aH (wJ a (.busy x y)):=by
 refine fq G.aH.toDG Er (λr u=>⟨_,(pj (pD (tj (qh u U3 (pA v0)) (sO (pF (FE G) r G.R (ra U1 U2 U3)))))),?_⟩)
 rintro ds M Q ⟨p,A,V,l,c,z,rfl,hp,rd,hz,_,q⟩
 dsimp only[AS]at q;refine pf hp ?_;refine qF (c:=z==x) (λg=>?_) (λg=>?_)
 .rw[g,eE]at q;exact⟨A,V,l,c,z,rfl,rd,hz,M,.refl,q⟩
 .rw[show(z==x)=false from dD.mpr g,eM]at q;exact⟨M,.refl,q⟩
def MP(G:Gl K mg a)(x y:Str)(n:Int):Fq P w K mg base 6 a.aI (wJ a (.silent x y n)):=by
 refine fq G.aI.toDG Cg (λr u=>⟨_,(pj (pD w9)),?_⟩)
 rintro ds M Q ⟨p,A,V,l,c,z,rfl,hp,rd,hz,_,q⟩
 exact⟨M,.refl,q⟩
def Lh(G:Gl K mg a)(x:Str):Fq P w K mg base 6 a.aJ (wJ a (.wait x)):=by
 refine fq G.aJ.toDG FC (λr u=>⟨_,(pb (pP (W3.b3 (ym (pG u U3 (pA v0)) (xG (pG u U2 (pA v0)))))
 (pj (pD w9))
 pH)
 (pj (pD (tj (pF (FE G) r G.R (ra U1 U2 U3)) (sO (RE (pT U1 G.c.toCls G.bL (GT G) r (qb U3)))))))),?_⟩)
 rintro ds M Q ⟨p,A,V,l,c,z,rfl,hp,rd,hz,_,q⟩
 dsimp only[AS]at q;refine pf hp ?_;refine qF (c:=!(z==x)) (λg=>?_) (λg=>?_)
 .rw[g,gY]at q;exact⟨M,.refl,q⟩
 rw[show(!(z==x))=false from dD.mpr g,fL]at q;refine pf hp ?_;refine qF (c:=c==x) (λg=>?_) (λg=>?_)
 .rw[g]at q;exact⟨M,.refl,q⟩
 rw[cV g]at q;refine⟨A,V,l,c,z,rfl,rd,hz,?_⟩;refine qF (c:=xH l V c z) (λg=>?_) (λg=>?_)
 .rw[g,eE]at q;exact pf rd.bd.at_ ⟨rfl,_,⟨rfl,rfl⟩,A,V,z,rfl,rd.bd,rd.k,M,.refl,q⟩
 .rw[show xH l V c z=false from dD.mpr g,eM]at q;exact⟨M,.refl,q⟩
def GO(G:Gl K mg a):Fq P w K mg base 2 a.bM (zh a):=by
 refine fq G.bM.toDG vi (λr u=>⟨_,(pb (pK 3 vi (pT U1 G.h.toCls G.aN (zv G) r (qb (pA v0))))
 (pj (pD (pQ (E5 rfl) rfl G.bO Fw (qb (qD rfl (xQ (ix:=[none,some 1,some 3]) (N':=["member","plan","rank"])) (qC U2) (qA 0) rH (qh u (pT U1 G.h.toCls G.aN (zv G) r (qb v0)) U2))))))),?_⟩)
 rintro ds M Q ⟨p,x,q,l,r,ms,rfl,hp,pl,lr,h100,hx,hm,k⟩
 have hz:=dF;obtain⟨v,hv⟩:=yP hx;obtain⟨ph,gr,ws,X6,pr,gd,rs,i1,_⟩:=id pl;refine pf i1 ⟨rfl,_,⟨rfl,rfl⟩,pf hp (i' rfl ⟨q,x,v,l,rfl,pl,hv,?_⟩)⟩;refine i' lr (rq (f:=λd=>match d with|.str m=>.bl (decide (vJ l m<vJ l x))|_=>.mI) lr _ [] _ (by rw[cQ];show 0+ms.length<=sizeLine;omega) (λd hd k0 hk=>?_) λp1 Yc=>?_)
 .obtain⟨m,hmm,rfl⟩:=dw.mp hd;obtain⟨u,hu⟩:=yP (hm m hmm);have hk:k0 (.bl (decide (vJ l m<vJ l x))) M:=hk;rw[IM hu,IM hv]at hk;exact pf i1 ⟨rfl,_,⟨rfl,rfl⟩,q,m,u,l,rfl,pl,hu,hk⟩
 .have em:[]++(ms.map D.str).map (λd=>match d with|.str m=>.bl (decide (vJ l m<vJ l x))|_=>.mI)=ms.map λm=>D.bl (decide (vJ l m<vJ l x)):=by rw[dW,dU];rfl
  rw[em];refine i' pC (i' (xZ (λm=>decide (vJ l m<vJ l x)) ms) ⟨M,.new Yc,?_⟩);unfold HZ at k;rw[zC];exact k
def LU(G:Gl K mg a)(x:Str):Fq P w K mg base 6 a.aK (wJ a (.breaks x)):=by
 refine fq G.aK.toDG vj (λr u=>⟨_,(pb (pP (W3.b3 (ym (pG u U2 (pA v0)) (xG (pG u U3 (pA v0)))))
 (pj (pD w9))
 pH)
 (pb (pP (W3.b3 (ym (pG u U3 (vE (pA U1) G.h.toCls G.N (sA G) r)) (xG (yM (vK (pF (FE G) r G.R (ra U1 U2 U3)))))))
 (pj (pD w9))
 pH)
 (pb (pK 4 vj (pT U1 G.c.toCls G.Y (yx G) r (qb U3)))
 (pb (pP (pG u v4 rQ)
 (pj (pD w9))
 pH)
 (pb (pK 5 vj (pA (pI (pA U1) v4)))
 (pj (pD (tj (qh u (pQ qu rfl G.g qp (qb v5)) pk) (sO (pT v0 G.o.toCls G.bM (GO G) r (rP (pA U1) v5))))))))))),?_⟩)
 rintro ds M Q ⟨p,A,V,l,c,z,rfl,hp,rd,XO,hx,q⟩
 have hx:x∈l.pn:=qP.mp hx;obtain⟨ph,gr,ws,X6,pr,gd,rs,i1,_⟩:=rd.pl;have p8:=rd.ok.p8;dsimp only[AS,HQ]at q;refine pf hp ?_;refine qF (c:=!(c==x)) (λh1=>?_) (λh1=>?_)
 .rw[h1,gY]at q;exact⟨M,.refl,q⟩
 rw[show(!(c==x))=false from dD.mpr h1,fL]at q;refine pf hp ?_;refine qF (c:=z==x) (λh2=>?_) (λh2=>?_)
 .rw[h2]at q;exact⟨M,.refl,q⟩
 rw[cV h2]at q;refine pf rd.bd.at_ (i' rfl (pf i1 ⟨rfl,_,⟨rfl,rfl⟩,V.p,l,rfl,rd.pl,by omega,λq1 Xr=>i' pC ⟨rfl,qx _,?_⟩⟩));have t:=qm.new (c:=.lst (l.pn.map D.str)) Xr;have Xf:=rd.sub t;generalize pB M q1 (.lst (l.pn.map D.str))=M1 at t Xf ⊢;show if (!(inD (.str z) (l.pn.map D.str)))=true then _ else _
 rw[sr];refine qF (c:=!(hasS l.pn z)) (λh3=>?_) (λh3=>?_)
 .rw[h3,gY]at q;exact⟨M,t,q⟩
 rw[show(!(hasS l.pn z))=false from dD.mpr h3,fL]at q;refine⟨A,V,l,c,z,rfl,Xf,XO,?_⟩;refine qF (c:=!(xH l V c z)) (λh4=>?_) (λh4=>?_)
 .rw[h4]at q;exact⟨M,t,q⟩
 rw[cV h4]at q;refine pf Xf.bd.at_ ⟨rfl,_,⟨rfl,rfl⟩,A,V,z,rfl,Xf.bd,Xf.k,?_⟩;cases e:vC V z with
 | none=>rw[e]at q;rw[show Ak V z=.mI from by unfold Ak;rw[e];rfl];exact⟨M,t,q⟩
 | some j=>
  rw[show Ak V z=.int (j:Nat)from by unfold Ak;rw[e];rfl];have hj:j<V.calls.length:=(iG.mp e).1;have e2:V.calls[j]?=some V.calls[j]:=cU hj;rw[e]at q;generalize V.calls[j]=k at e2;have q:Q (.bl (((V.calls[j]?).elim false λk=>(k.ms.length==2)&&HZ l x k.ms))) M:=q;rw[e2]at q;have hj:j<A.cs.length:=by rw[rd.bd.len];exact hj
  have ek:A.cs[j]?=some A.cs[j]:=cU hj;obtain⟨ad,md,f1,f2,f3,f4,_⟩:=Xf.bd.cs j _ k ek e2;refine pf Xf.bd.at_ (i' rfl (i' rfl (i' Xf.bd.ca (i' (rf ek) (pf f1 (i' rfl ?_))))));refine i' f4 ?_;have el:((((k.ms.map D.str).length:Nat):Int)==2)=(k.ms.length==2):=by rw[cQ,gi,eY,eY];omega
  show if ((((k.ms.map D.str).length:Nat):Int)==2)=true then _ else _
  rw[el];have q:Q (.bl ((k.ms.length==2)&&HZ l x k.ms)) M:=q;refine qF (c:=k.ms.length==2) (λh5=>?_) (λh5=>?_)
  .rw[h5,eE]at q;have hm:=rd.ms k (qS e2);refine pf (t _ _ hp) ⟨rfl,_,⟨rfl,rfl⟩,pf Xf.bd.at_ (i' rfl ⟨p,x,V.p,l,md,k.ms,rfl,t _ _ hp,Xf.pl,f4,hm.2,hx,hm.1,M,t,q⟩)⟩
  .rw[show(k.ms.length==2)=false from dD.mpr h5,eM]at q;exact⟨M,t,q⟩
def Ld(G:Gl K mg a):Fq P w K mg base 1 a.q FY:=by
 refine fq G.q.toDG BL (λr u=>⟨_,(pj (pD w9)),?_⟩)
 rintro ds M Q ⟨x,y,rfl,q⟩
 exact⟨M,.refl,q⟩
def RA(G:Gl K mg a)(x y:Str)(n:Int):Fq P w K mg base 1 a.ay (Qz a (.silent x y n)):=by
 refine fq G.ay.toDG zQ (λr u=>⟨_,(pj (pD (tj (qh u (rR (pA U1) (sL (EO pk)) sP) (qJ (qb (pA v0)))) (sO (qh u (pA v0) (pA U1)))))),?_⟩)
 rintro ds M Q ⟨p,L,k,c,rfl,hp,⟨ad,md,h1,h2,h3,h4,_⟩,q⟩
 refine pf h1 (i' rfl (i' h2 λp1 Yc=>?_));have t1:=qm.new (c:=.lst (L3.uM (c.way.map D.str) (some (-1:Int)) none)) Yc;have l1:oS (pB M p1 (.lst (L3.uM (c.way.map D.str) (some (-1:Int)) none))) p1=some ((c.way.map D.str).drop ((c.way.map D.str).length - 1)):=by rw[pC,Nn]
 show zJ (pB M p1 (.lst (L3.uM (c.way.map D.str) (some (-1:Int)) none)) p) _;generalize pB M p1 (.lst (L3.uM (c.way.map D.str) (some (-1:Int)) none))=M1 at t1 l1 ⊢;refine pf (t1 _ _ hp) ⟨oZ rfl,λp2 WT=>?_⟩;have t2:=qm.new (c:=.lst [D.str x]) WT;have l2:=@pC M1 p2 [D.str x];show Option.elim (yd (pB M1 p2 (.lst [D.str x])) 9 (.ref p1) (.ref p2)) False _;generalize pB M1 p2 (.lst [D.str x])=M2 at t2 l2 ⊢;have s2:=t1.trans t2;refine i' (OA (t2.lst l1) l2) ?_;dsimp only[Gh]at q;refine qF (c:=c.way.getLast?==some x) (λg=>?_) (λg=>?_)
 .rw[g,eE]at q;exact pf (s2 _ _ hp) (pf (s2 _ _ h1) ⟨M,s2,q⟩)
 .rw[show(c.way.getLast?==some x)=false from dD.mpr g,eM]at q;exact⟨M,s2,q⟩
def Rr(G:Gl K mg a):∀C sp,Mv a C sp->xR P w K mg base 6 "fits" C (NJ K sp):=by
 rintro C sp ⟨v,rfl,rfl⟩
 cases v with
 | bar x ns=>exact⟨G.t.toCls,_,_,_,G.aD.m9,NE G x ns,G.aD.b⟩
 | shut x ns=>exact⟨G.u.toCls,_,_,_,G.aE.m9,Mq G x ns,G.aE.b⟩
 | always x y=>exact⟨G.x.toCls,_,_,_,G.aF.m9,Mm G x y,G.aF.b⟩
 | night x y f m=>exact⟨G.n.toCls,_,_,_,G.aG.m9,L6 G x y f m,G.aG.b⟩
 | busy x y=>exact⟨G.y.toCls,_,_,_,G.aH.m9,LQ G x y,G.aH.b⟩
 | silent x y n=>exact⟨G.v.toCls,_,_,_,G.aI.m9,MP G x y n,G.aI.b⟩
 | wait x=>exact⟨G.w.toCls,_,_,_,G.aJ.m9,Lh G x,G.aJ.b⟩
 | breaks x=>exact⟨G.o.toCls,_,_,_,G.aK.m9,LU G x,G.aK.b⟩
def Uh(G:Gl K mg a):∀C sp,FM a C sp->xR P w K mg base 1 "is_due" C (NJ K sp):=by
 rintro C sp ⟨v,rfl,rfl⟩
 have F:=Ld (P:=P) (w:=w) (base:=base) G;cases v with
 | silent x y n=>exact⟨G.v.toCls,_,_,_,G.ay.m9,RA G x y n,G.ay.b⟩
 | bar _ _=>exact⟨G.t.toCls,_,_,_,G.ch,F,G.q.b⟩
 | shut _ _=>exact⟨G.u.toCls,_,_,_,G.ci,F,G.q.b⟩
 | always _ _=>exact⟨G.x.toCls,_,_,_,G.cj,F,G.q.b⟩
 | night _ _ _ _=>exact⟨G.n.toCls,_,_,_,G.ck,F,G.q.b⟩
 | busy _ _=>exact⟨G.y.toCls,_,_,_,G.cl,F,G.q.b⟩
 | wait _=>exact⟨G.w.toCls,_,_,_,G.cm,F,G.q.b⟩
 | breaks _=>exact⟨G.o.toCls,_,_,_,G.cn,F,G.q.b⟩
def IP{es pre post:List D}{d:D}(e:pre++d::post=ux 0 es):∃x,es[pre.length]?=some x/\d=.tup [.int (pre.length:Nat),x]:=by
 have h:(ux 0 es)[pre.length]?=some d:=by rw[<-e];simp
 rw[zy]at h;cases q:es[pre.length]? with
 | none=>rw[q]at h;cases h
 | some x=>rw[q]at h;refine⟨x,rfl,?_⟩;have:=(c9 h).symm;rw[mv]at this;exact this
def vm(n:Nat):∀es:List D,(ux n es).length=es.length:=λes=>by
 have h:∀i:Nat,(ux n es)[i]?=none↔es[i]?=none:=λi=>by rw[zy];cases es[i]?<;>simp
 have a:=(h es.length).mpr (gZ (cZ _));have b:=(h (ux n es).length).mp (gZ (cZ _));rw[List.getElem?_eq_none_iff]at a b;omega
def Jo{l:pE}{V:qe}{f:Wi->Bool}{tt:Ap}{ok:Mp->Prop}{Q:DK}{M:Mp}{rest:List (Option D)}(hl:V.on.length=l.mF.length)(h16:l.mF.length<=16)(mP:ok M) (ht:∀(i:Nat) (w:vc),l.mF[i]?=some w->∀(y:Option D) (k:Bool->Mp->Prop),k (f w.2) M->tt (some (.int (i:Nat))::y::rest) M k) (q:∀p,M p=none->Q (.ref p) (pB M p (.lst ((HS l V f).map λn=>D.int (n:Nat))))):
  uP (QA 2 (Ff (ue 0) (Ff (ue 1) MK))) (Pz (b3 (v3 1)) tt) (v3 0) ok Q (ux 0 (V.on.map D.bl)) [] (none::none::rest) M:=by
 have hz:=dF;refine yb (ux 0 (V.on.map D.bl)) (λpre acc δ M'=>M=M'/\acc=((List.range pre.length).filter λi=>V.on.getD i false&&(l.mF[i]?).elim false λw=>f w.2).map (λn=>D.int (n:Nat))/\∃y1 y2,δ=y1::y2::rest) (λ_ _ _ M' j=>by rw[<-j.1];exact mP) _ [] [] _ _ rfl ?_ ⟨rfl,rfl,none,none,rfl⟩ ?_ ?_
 .rw[vm,cQ,hl];simp only[dE];omega
 .rintro pre d post e acc δ M' ⟨rfl,rfl,y1,y2,rfl⟩ k k2 hk YO
  obtain⟨x,hx,rfl⟩:=IP e;rw[cT,dG,iQ,je]at hk YO;rw[dq]at hx;cases eo:V.on[pre.length]? with
  | none=>rw[eo]at hx;cases hx
  | some b=>
   rw[eo]at hx;have hx:D.bl b=x:=c9 hx;subst hx;have hi:pre.length<l.mF.length:=by rw[<-hl];exact(cS.mp eo).1
   have ew:l.mF[pre.length]?=some l.mF[pre.length]:=cU hi;generalize l.mF[pre.length]=w0 at ew;have eg:V.on.getD pre.length false=b:=by rw[fY,eo];rfl
   have no:(b&&f w0.2)=false->k2 (some (.int (pre.length:Nat))::some (.bl b)::rest) M:=λg=>by refine YO _ _ ⟨rfl,?_,_,_,rfl⟩;rw[iB (by rw[eg,ew];show ¬(b&&f w0.2)=true;rw[g];exact dn),iR,eU]
   refine⟨rfl,?_⟩;show if b=true then _ else _
   cases b with
   | false=>exact Hi (no rfl)
   | true=>
    refine Qf (ht _ _ ew _ _ ?_);cases g:f w0.2 with
    | false=>exact Hi (no (by rw[g];rfl))
    | true=>refine Qf (hk _ _ _ ⟨rfl,?_,_,_,rfl⟩);rw[iA (by rw[eg,ew];show(true&&f w0.2)=true;rw[g];rfl),iR,dH];rfl
 .rintro acc δ M' ⟨rfl,rfl,y1,y2,rfl⟩ p hp
  rw[vm,cQ];exact q p hp
def Bc{a:Ad}{M:Mp}{rs:List Addr}{ws:List vc}(h:sI a M rs ws){i:Nat}{w:vc}(e:ws[i]?=some w):∃r,wn (rs.map D.ref) (i:Nat)=some (.ref r)/\M r=some (.ins (w.2.cls a) w.2.nG):=by
 have hi:i<rs.length:=by rw[h.1];exact(cS.mp e).1
 exact⟨rs[i],ua (by rw[dq,cU hi];rfl),h.2 i _ w (cU hi) e⟩
def Fi(ds:List D)(m:Nat):L3.uM ds none (some (m:Int))=ds.take m:=by
 unfold L3.uM;rw[HT.Bv,HT.Ja,j6,kP];by_cases h:m<=ds.length
 .rw[l0 h]
 .rw[Nat.min_eq_right (by omega),e9,iF (by omega)]
def HV(ds:List D)(m:Nat)(h:m<=ds.length):L3.uM ds (some (m:Int)) none=ds.drop m:=by unfold L3.uM;rw[HT.Bv,HT.Ja,l0 h];exact iF (by rw[gv];exact cZ _)
def um(l:pE)(V:qe):Prop:=∀z∈l.nm,(l.mM z=="turns")=true->∃v,V.ps.find? (λp=>decide (p.1=z))=some v/\0<=v.2/\v.2<=((l.mE z).length:Int)
def K9{l:pE}{V:qe}(h:um l V){z:Str}(hz:z∈l.nm)(e:(l.mM z=="turns")=true):vq (tG V.ps) (.inr z)=some (.int (y0 V z:Nat))/\y0 V z<=(l.mE z).length:=by
 obtain⟨v,e1,e2,e3⟩:=h z hz e;have h1:y0 V z=v.2.toNat:=by unfold y0;rw[e1];rfl
 have h2:vq (tG V.ps) (.inr z)=(V.ps.find? λp=>decide (p.1=z)).map λp=>D.int p.2:=ya (λp:Str×Int=>p.1) (λp=>D.int p.2) z V.ps;rw[h2,e1,h1];exact⟨by show some (D.int v.2)=some (.int (v.2.toNat:Nat));rw[kC e2],by omega⟩
def Hx(a:Ad):rb:=λds M Q=>F8 λA V l c z=>ds=[.ref A.b,.str c,.str z]/\Rd a M A V l/\z∈l.nm/\Q (vY (DM l V c z)) M
def O2(a:Ad):rb:=λds M Q=>F8 λA V l c z=>ds=[.ref A.b,.str c,.str z]/\Rd a M A V l/\z∈l.nm/\um l V/\Q (names (xt l V c z)) M
def Lw(a:Ad):rb:=λds M Q=>F8 λA V l c z=>ds=[.ref A.b,.str c,.str z]/\Rd a M A V l/\z∈l.nm/\um l V/\Q (HE l V c z).d M
def J':rb:=λds M Q=>CO λx r z=>ds=[.tup (.str x::r),.str z]/\Q (if (x=="wait")=true then(vn.waits z).d else if (x=="break")=true then(vn.breaks z).d else vn.barred.d) M
noncomputable def rg(st:sU):List D:=st.map λs=>.tup [.str s.1,vY s.2]
def MW(a:Ad):rb:=λds M Q=>SS λA V l c z r way=>ds=[.ref A.b,.str c,.str z,.ref r]/\Rd a M A V l/\z∈l.nm/\um l V/\oS M r=some (List.map D.str way)/\way.length<=8000000/\∀q M',qm M M'->M q=none->oS M' q=some (rg (uz l V c z way).2)->Q (.tup [(uz l V c z way).1.d,.ref q]) M'
def Fd{l:pE}{V:qe}{f:Wi->Bool}{i:Nat}(h:i∈HS l V f):∃w,l.mF[i]?=some w/\f w.2=true:=by
 have h:=(fE.mp h).2;rw[dO]at h;cases e:l.mF[i]? with
 | none=>rw[e]at h;cases h.2
 | some w=>rw[e]at h;exact⟨w,rfl,h.2⟩
noncomputable def JA(l:pE)(way:List Str):Nat:=(l.nm.filter λx=>!(hasS way x)).length
def Bg{l:pE}{way:List Str}{z:Str}(hz:z∈l.nm)(h:hasS way z=false):JA l (way++[z])<JA l way:=by
 unfold JA;have e:(l.nm.filter λx=>!(hasS (way++[z]) x))=(l.nm.filter λx=>!(hasS way x)).filter λx=>!(x==z):=by rw[List.filter_filter];refine List.filter_congr λx _=>?_;unfold hasS;rw[lZ];show(!(way.any (·==x)||((z==x)||false)))=_;rw[kt,Bool.not_or,Bool.and_comm,mh]
 rw[e];refine Nat.lt_of_le_of_ne (gB _ _) λg=>?_;have:=kD.mp (List.Sublist.eq_of_length fU g) z (fE.mpr ⟨hz,by rw[h];rfl⟩);simp at this
def BJ{l:pE}(ok:qY l){w:vc}(hw:w∈l.mF){z y:Str}(h:Jg z w.2=.inr y):y∈l.nm:=by
 have o:=ok.wo w hw;cases e:w.2 with
 | bar _ _=>rw[e]at h;cases h
 | shut _ _=>rw[e]at h;cases h
 | always x u=>rw[e]at h o;cases h;exact qP.mp o.2.1
 | night x u f m=>rw[e]at h o;cases h;exact qP.mp o.2.1
 | busy x u=>rw[e]at h o;cases h;exact qP.mp o.2.1
 | silent x u n=>rw[e]at h o;cases h;exact qP.mp o.2.1
 | wait _=>rw[e]at h;cases h
 | breaks _=>rw[e]at h;cases h
theorem Ei(x:Str):∀ss:List Str,x∈ss->AA (.str x) (ss.map D.str)=some (ss.findIdx (·==x))
 | [],h=>by cases h
 | y::r,h=>by
  rw[dP,List.findIdx_cons];unfold AA;show(if (y==x)=true then some 0 else(AA (.str x) (r.map D.str)).map (·+1))=_;cases e:y==x with
  | true=>rfl
  | false=>
   rw[cV dn];have hr:x∈r:=by
    rcases cY.mp h with g|g
    .rw[g,fC]at e;cases e
    .exact g
   rw[Ei x r hr];rfl
def HI(G:Gl K mg a):Fq P w K mg base 7 a.aU (Hx a):=by
 refine fq G.aU.toDG B9 (λr u=>⟨_,(pb (pK 3 B9 (pA (pA v0)))
 (pj (pD (pW sj rfl G.z sf (qb (qD rfl (xQ (ix:=[none,none,some 3,some 0,some 1,some 2]) (N':=["i","on","wishes","board","caller","target"])) (wU rfl G.bV (qb (pA v0))) (uL (n:=2) rfl (qB (qA 0) (qB (qA 1) tZ))) (vM (W3.b3 (yI (vK U1) (x8 (vK (EV (R:=Mv a) (pI U2 v0) (Rr G) (r.mono (by first|decide|omega)) (ra U3 v4 v5))))))) v0)))))),?_⟩)
 rintro ds M Q ⟨A,V,l,c,z,rfl,rd,hz,q⟩
 obtain⟨ph,gr,ws,X6,pr,gd,rs,i1,i2,i3,i4,i5,i6,i7,i8⟩:=rd.pl;refine pf rd.bd.at_ (i' rfl (pf i1 (i' rfl ?_)));refine pf rd.bd.at_ (i' rfl (i' rd.bd.on ?_));refine Jo (rest:=[some (.ref ws),some (.ref A.b),some (.str c),some (.str z)]) rd.on rd.ok.w16 rd.bd.on (λi w0 ew y k hk=>?_) λp hp=>i' pC ⟨M,.new hp,q⟩;obtain⟨r,e1,e2⟩:=Bc i8 ew;refine i' i4 (i' e1 (pf e2 ⟨by cases w0.2<;>rfl,_,⟨w0.2,rfl,rfl⟩,r,A,V,l,c,z,rfl,e2,rd,hz,rd.ok.wo w0 (qS ew),hk⟩))
def P'(G:Gl K mg a):Fq P w K mg base 5 a.aV (O2 a):=by
 refine fq G.aV.toDG tF (λr u=>⟨_,(pb (pK 3 tF (pT v0 G.c.toCls G.aM (As G) r (rP U1 U2)))
 (pb (pP (pG u (pT (pA v0) G.h.toCls G.aL (xA G) r (qb U2)) pq)
 (pj (pD (pW sj rfl G.z sf (qb U3))))
 pH)
 (pb (pK 4 tF (pT (pA v0) G.h.toCls G.aa (uq G) r (qb U2)))
 (pb (pK 5 tF (zd u (pA v0) U2))
 (pb (vg (i:=6) tF.nd rfl (Or.inl rfl) rfl (xQ (ix:=[none,some 3]) (N':=["phone","free"])) (qC (pV (rR v4 (sL v5) sP) (rR v4 sP (sL v5)))) (qA 0) (vM (pG u v0 U1)) v0)
 (pj (pD (pW sj rfl G.z sf (qb (rR v6 sP (sL pk))))))))))),?_⟩)
 rintro ds M Q ⟨A,V,l,c,z,rfl,rd,XO,nx,q⟩
 have hz:=dF;have bd:=rd.bd;have pl:=rd.pl;obtain⟨ph,gr,ws,X6,pr,gd,rs,i1,_⟩:=rd.pl;obtain⟨⟨_,tf,_⟩,_⟩:=rd.ok.of XO;refine pf bd.at_ ⟨rfl,_,⟨rfl,rfl⟩,A,V,l,c,z,rfl,rd,XO,λq1 M1 s1 Xr e1=>?_⟩;refine pf (s1 _ _ bd.at_) (i' rfl (pf (s1 _ _ i1) ⟨rfl,_,⟨rfl,rfl⟩,V.p,z,l,rfl,pl.sub s1,?_⟩));unfold xt at q;cases e:l.mM z=="turns" with
 | false=>rw[e]at q;exact AC (c:=!(l.mM z=="turns")) (by rw[e];rfl) (i' e1 ⟨M,s1,q⟩)
 | true=>
  obtain⟨hn,nl⟩:=K9 nx XO e;generalize y0 V z=n at hn nl q;rw[e,cX rfl]at q;refine NA (c:=!(l.mM z=="turns")) (by rw[e];rfl) ?_;refine pf (s1 _ _ bd.at_) (i' rfl (pf (s1 _ _ i1) ⟨rfl,_,⟨rfl,rfl⟩,V.p,z,l,rfl,pl.sub s1,λq2 Yf=>?_⟩));have s2:=s1.trans (qm.new (c:=.lst ((l.mE z).map D.str)) Yf);have c2:=@pC M1 q2 ((l.mE z).map D.str);have e2:=(qm.new (c:=.lst ((l.mE z).map D.str)) Yf).lst e1;generalize pB M1 q2 (.lst ((l.mE z).map D.str))=M2 at s2 c2 e2 ⊢;refine pf (s2 _ _ bd.at_) (i' rfl (i' rfl (i' (s2.dk bd.nx) (i' hn ?_))));refine i' c2 λq3 hq3=>?_;rw[HV _ n (by rw[cQ];exact nl),<-ky];have t3:=qm.new (c:=.lst (((l.mE z).drop n).map D.str)) hq3;have c3':=@pC M2 q3 (((l.mE z).drop n).map D.str);generalize pB M2 q3 (.lst (((l.mE z).drop n).map D.str))=M3 at t3 c3' ⊢;refine i' (t3.lst c2) λq4 hq4=>?_;rw[Fi,<-ji];have t4:=qm.new (c:=.lst (((l.mE z).take n).map D.str)) hq4;have c4:=@pC M3 q4 (((l.mE z).take n).map D.str);generalize pB M3 q4 (.lst (((l.mE z).take n).map D.str))=M4 at t4 c4 ⊢;refine i' (t4.lst c3') (i' c4 ?_);refine⟨by rw[cQ,cQ,gv,fK];omega,λq5 hq5=>i' pC ?_⟩;rw[<-dH];have t5:=qm.new (c:=.lst ((uR (l.mE z) n).map D.str)) hq5;have c5:=@pC M4 q5 ((uR (l.mE z) n).map D.str);show uP _ _ _ _ _ ((uR (l.mE z) n).map D.str) _ _ (pB M4 q5 (.lst ((uR (l.mE z) n).map D.str)));generalize pB M4 q5 (.lst ((uR (l.mE z) n).map D.str))=M5 at t5 c5 ⊢;have s5:=t3.trans (t4.trans t5);have e5:=s5.lst e2;have tl:(uR (l.mE z) n).length<=200:=by unfold uR;rw[cT,gv,fK];omega
  refine tL (f:=id) (t:=λd=>inD d ((ug l V c z).map D.str)) c5 _ [] _ (by rw[cQ];simp only[dE];omega) (λd hd k hk=>?_) (λd hd _ k hk=>?_) λq6 hq6=>?_
  .obtain⟨x,hx,rfl⟩:=dw.mp hd;exact i' e5 ⟨rfl,qx _,hk⟩
  .obtain⟨x,hx,rfl⟩:=dw.mp hd;exact hk
  .have ef:[]++(List.filter (λd=>inD d ((ug l V c z).map D.str)) ((uR (l.mE z) n).map D.str)).map id=((uR (l.mE z) n).filter λx=>hasS (ug l V c z) x).map D.str:=by
    rw[dW,i9,gQ];have:((λd=>inD d ((ug l V c z).map D.str))∘D.str)=λx=>hasS (ug l V c z) x:=by funext x;exact sr _ _
    rw[this]
   rw[ef];refine i' pC λq7 hq7=>i' pC ?_;rw[show L3.uM (((uR (l.mE z) n).filter λx=>hasS (ug l V c z) x).map D.str) none (some (1:Int))=(((uR (l.mE z) n).filter λx=>hasS (ug l V c z) x).take 1).map D.str from(Fi _ 1).trans (ji).symm];exact⟨M,s2.trans (s5.trans ((qm.new hq6).trans (.new hq7))),q⟩
def MV(G:Gl K mg a):Fq P w K mg base 6 a.aW (Lw a):=by
 refine fq G.aW.toDG uT (λr u=>⟨_,(pb (pK 3 uT (pF (P' G) r G.aV (ra v0 U1 U2)))
 (pb (pP (pG u (pQ qu rfl G.g qp (qb U3)) pk)
 (pj (pD (pM (rP pq U2))))
 pH)
 (pj (pD (pM (ra pq U2 U3)))))),?_⟩)
 rintro ds M Q ⟨A,V,l,c,z,rfl,rd,hz,nx,q⟩
 refine⟨A,V,l,c,z,rfl,rd,hz,nx,?_⟩;unfold HE at q;cases e:xt l V c z with
 | nil=>rw[e]at q;exact⟨oZ rfl,M,.refl,q⟩
 | cons x r=>rw[e]at q;exact⟨oZ rfl,M,.refl,q⟩
def J8(G:Gl K mg a):Fq P w K mg base 1 a.aX J':=by
 refine fq G.aX.toDG zW (λr u=>⟨_,(pb (pP (pG u (pI v0 pk) pq)
 (pj (pD (pM (rP pq U1))))
 pH)
 (pb (pP (pG u (pI v0 pk) pq)
 (pj (pD (pM (rP pq U1))))
 pH)
 (pj (pD (pM (qb pq)))))),?_⟩)
 rintro ds M Q ⟨x,r,z,rfl,q⟩
 refine i' (yZ _ _) (qF (c:=x=="wait") (λg=>?_) (λg=>?_))
 .rw[cX g]at q;exact⟨oZ rfl,M,.refl,q⟩
 rw[cV g]at q;refine i' (yZ _ _) (qF (c:=x=="break") (λg=>?_) (λg=>?_))
 .rw[cX g]at q;exact⟨oZ rfl,M,.refl,q⟩
 rw[cV g]at q;exact⟨oZ rfl,M,.refl,q⟩
def Lp(G:Gl K mg a):Fq P w K mg base 8 a.aY (MW a):=by
 refine fq G.aY.toDG wk (λr u=>⟨_,(pb (pK 4 wk (pW su rfl G.r sv (qb U3)))
 (pb (pK 5 wk (qJ sF))
 (pb (Ng eW (pG u U2 v4)
 (pb (pL (qZ v4 (qb U2)))
 (pb (pK 6 wk (pF (HI G) r G.aU (ra v0 U1 U2)))
 (pb (pL (qZ v5 (qb (pM (rP U2 v6)))))
 (pb (pP (pG u (pQ qu rfl G.g qp (qb v6)) pk)
 (pj (pD (pM (rP (pF (MV G) r G.aW (ra v0 U1 U2)) v5))))
 pH)
 (pb (pK 7 wk (Ce (R:=Jq a) (pI (pA (pA v0)) (pI v6 pk)) (P5 G) (r.mono (by first|decide|omega))))
 (pb (pP (pG u (pI v7 pk) pq)
 (pj (pD (pM (rP (pF (J8 G) r G.aX (rP v7 U2)) v5))))
 pH)
 (pj (pK 2 wk (pI v7 pk))))))))))
 (pj (pD (pM (rP (pM (rP pq (pW sj rfl G.z sf (qb (rR v4 (sL (xI v4 (qb U2))) sP))))) v5))))))),?_⟩)
 rintro ds M Q ⟨A,V,l,c,z0,r,X7,rfl,rd,hz0,nx,YA,hw0,q⟩
 have hz:=dF;have p8:=rd.ok.p8;have g3:=rd.ok.g3;have nl:l.nm.length<=11:=by unfold pE.nm pE.pn pE.gn;rw[cT,cQ,cQ];omega
 refine i' YA λp1 Yc=>⟨oZ rfl,λp2 WT=>?_⟩;have t1:=qm.new (c:=.lst (X7.map D.str)) Yc;have t2:=qm.new (c:=.lst []) WT;have c1:oS (pB (pB M p1 (.lst (X7.map D.str))) p2 (.lst [])) p1=some (X7.map D.str):=t2.lst pC;have c2:=@pC (pB M p1 (.lst (X7.map D.str))) p2 [];have n12:p2≠p1:=λy=>by rw[y,pN]at WT;cases WT
 have m2:M p2=none:=t1.none WT;have s2:=t1.trans t2;generalize pB (pB M p1 (.lst (X7.map D.str))) p2 (.lst [])=M2 at c1 c2 s2 ⊢;refine⟨λm δ M'=>∃z way st,qm M M'/\oS M' p1=some (List.map D.str way)/\oS M' p2=some (rg st)/\z∈l.nm/\JA l way<m/\way.length+m<=8000012/\st.length+m<=100/\wB l V c m z way st=uz l V c z0 X7/\∃y6 y7,δ=[some (.ref A.b),some (.str c),some (.str z),some (.ref r),some (.ref p1),some (.ref p2),y6,y7],⟨l.nm.length+1,z0,X7,[],s2,c1,c2,hz0,Nat.lt_succ_of_le (gB _ _),by omega,by show 0+(l.nm.length+1)<=100;omega,rfl,none,none,rfl⟩,?_⟩
 rintro m δ M' ⟨z,way,st,sM,l1,l2,XO,WW,hwl,hsl,er,y6,y7,rfl⟩
 obtain⟨m,rfl⟩:∃k,m=k+1:=⟨m - 1,by omega⟩;have q2:∀WM,qm M WM->oS WM p2=some (rg (wB l V c (m+1) z way st).2)->Q (.tup [(wB l V c (m+1) z way st).1.d,.ref p2]) WM:=λWM s ll=>by rw[er]at ll ⊢;exact q p2 WM s m2 ll
 clear q;unfold wB at er q2;refine i' l1 ⟨rfl,qx way,?_⟩;show if (!(inD (.str z) (way.map D.str)))=true then _ else _
 rw[sr];refine qF (c:=!(hasS way z)) (λh1=>?_) (λh1=>?_)
 rotate_left
 .
  have h1:hasS way z=true:=by simpa using h1
  rw[cX h1]at q2;refine⟨by show(oS M' p1).isSome=true;rw[l1];rfl,i' l1 ⟨rfl,qx _,i' (Ei z way (qP.mp h1)) (i' l1 λp3 hp3=>?_)⟩⟩;have hle:way.findIdx (·==z)<=(way.map D.str).length:=by rw[cQ];exact List.findIdx_le_length
  rw[HV _ _ hle,<-ky];refine i' pC ⟨oZ rfl,oZ rfl,_,.refl,q2 _ (sM.trans (.new hp3)) ((qm.new hp3).lst l2)⟩
 have h1:hasS way z=false:=by simpa using h1
 rw[h1,cV dn]at er q2;refine⟨by show(oS M' p1).isSome=true;rw[l1];rfl,i' l1 ⟨by rw[cQ];omega,?_⟩⟩;have k3:rT p1 M' (pB M' p1 (.lst (way.map D.str++[D.str z]))):=.put;have s3:qm M (pB M' p1 (.lst (way.map D.str++[D.str z]))):=λx d hx=>by rw[tW (SY hx Yc)];exact sM x d hx
 have c3:=k3.lst n12 l2;have l3:oS (pB M' p1 (.lst (way.map D.str++[D.str z]))) p1=some ((way++[z]).map D.str):=by rw[pC,dH];rfl
 generalize pB M' p1 (.lst (way.map D.str++[D.str z]))=M3 at s3 c3 l3 ⊢;refine⟨A,V,l,c,z,rfl,rd.sub s3,XO,?_⟩;generalize hf:DM l V c z=fs at er q2 ⊢;refine⟨by show(oS M3 p2).isSome=true;rw[c3];rfl,oZ rfl,i' c3 ⟨by unfold rg;rw[cQ];omega,?_⟩⟩;have es:rg st++[.tup [.str z,vY fs]]=rg (st++[(z,fs)]):=by unfold rg;rw[dH];rfl
 rw[es];have s4:qm M (pB M3 p2 (.lst (rg (st++[(z,fs)])))):=λx d hx=>by rw[tW (SY hx m2)];exact s3 x d hx
 have c4:=@pC M3 p2 (rg (st++[(z,fs)]));have l4:oS (pB M3 p2 (.lst (rg (st++[(z,fs)])))) p1=some ((way++[z]).map D.str):=rT.lst .put (dI n12) l3;generalize pB M3 p2 (.lst (rg (st++[(z,fs)])))=M4 at s4 c4 l4 ⊢;cases fs with
 | nil=>exact⟨A,V,l,c,z,rfl,rd.sub s4,XO,nx,oZ rfl,M4,.refl,q2 M4 s4 c4⟩
 | cons i fr=>
  obtain⟨w0,ew,_⟩:=Fd (l:=l) (V:=V) (f:=AS l V c z) (i:=i) (by show i∈DM l V c z;rw[hf];exact dC);dsimp only at er q2;rw[ew]at er q2;dsimp only[Option.elim]at er q2;obtain⟨ph,gr,ws,X6,pr,gd,rs,i1,i2,i3,i4,i5,i6,i7,i8⟩:=(rd.sub s4).pl;obtain⟨Zo,e1,e2⟩:=Bc i8 ew;have hwo:=rd.ok.wo w0 (qS ew);have Zp:∀y,Jg z w0.2=.inr y->y∈l.nm:=λy h=>BJ rd.ok (qS ew) h;refine pf (s4 _ _ rd.bd.at_) (i' rfl (pf i1 (i' rfl (i' (yZ _ _) (i' i4 (i' e1 ?_))))));cases hv:w0.2 with
  | bar x ns=>rw[hv]at q2 e2;exact pf e2 ⟨rfl,_,.inl ⟨.inl rfl,rfl⟩,Zo,rfl,⟨"end",[],z,rfl,oZ rfl,M4,.refl,q2 M4 s4 c4⟩⟩
  | shut x ns=>rw[hv]at q2 e2;exact pf e2 ⟨rfl,_,.inl ⟨.inr rfl,rfl⟩,Zo,rfl,⟨"end",[],z,rfl,oZ rfl,M4,.refl,q2 M4 s4 c4⟩⟩
  | wait x=>rw[hv]at q2 e2;exact pf e2 ⟨rfl,_,.inr (.inr (.inl ⟨rfl,rfl⟩)),Zo,_,_,_,rfl,e2,rfl,⟨"wait",_,z,rfl,oZ rfl,M4,.refl,q2 M4 s4 c4⟩⟩
  | breaks x=>rw[hv]at q2 e2;exact pf e2 ⟨rfl,_,.inr (.inr (.inr ⟨rfl,rfl⟩)),Zo,rfl,⟨"break",_,z,rfl,oZ rfl,M4,.refl,q2 M4 s4 c4⟩⟩
  | always x y=>rw[hv]at er e2 Zp;exact pf e2 ⟨rfl,_,.inr (.inl ⟨.inl rfl,rfl⟩),Zo,_,_,_,rfl,e2,rfl,⟨m,fk _,y,way++[z],st++[(z,i::fr)],s4,l4,c4,Zp y rfl,by have:=Bg XO h1;omega,by rw[cT];show way.length+1+m<=_;omega,by rw[cT];show st.length+1+m<=_;omega,er,_,_,rfl⟩⟩
  | night x y f mm=>rw[hv]at er e2 Zp;exact pf e2 ⟨rfl,_,.inr (.inl ⟨.inr (.inl rfl),rfl⟩),Zo,_,_,_,rfl,e2,rfl,⟨m,fk _,y,way++[z],st++[(z,i::fr)],s4,l4,c4,Zp y rfl,by have:=Bg XO h1;omega,by rw[cT];show way.length+1+m<=_;omega,by rw[cT];show st.length+1+m<=_;omega,er,_,_,rfl⟩⟩
  | busy x y=>rw[hv]at er e2 Zp;exact pf e2 ⟨rfl,_,.inr (.inl ⟨.inr (.inr (.inl rfl)),rfl⟩),Zo,_,_,_,rfl,e2,rfl,⟨m,fk _,y,way++[z],st++[(z,i::fr)],s4,l4,c4,Zp y rfl,by have:=Bg XO h1;omega,by rw[cT];show way.length+1+m<=_;omega,by rw[cT];show st.length+1+m<=_;omega,er,_,_,rfl⟩⟩
  | silent x y n=>rw[hv]at er e2 Zp;exact pf e2 ⟨rfl,_,.inr (.inl ⟨.inr (.inr (.inr rfl)),rfl⟩),Zo,_,_,_,rfl,e2,rfl,⟨m,fk _,y,way++[z],st++[(z,i::fr)],s4,l4,c4,Zp y rfl,by have:=Bg XO h1;omega,by rw[cT];show way.length+1+m<=_;omega,by rw[cT];show st.length+1+m<=_;omega,er,_,_,rfl⟩⟩
noncomputable def yL(V:qe)(i:Nat)(c:pz):qe:={V with calls:=V.calls.set i c}
def rZ(V:qe)(i:Nat)(c d:pz):yL (yL V i c) i d=yL V i d:=by unfold yL;rw[jE]
structure CI(a:Ad)(M:Mp)(A:sZ)(V:qe)(i:Nat)(k:rA)(c:pz):Prop where
 bd:pJ a M A V
 e1:A.cs[i]?=some k
 e2:V.calls[i]?=some c
variable {M':Mp}{i:Nat}{k:rA}
section
variable {c:pz}
def CI.cell(h:CI a M A V i k c):rJ a M (A.lists++V.fo) k c:=h.bd.cs i k c h.e1 h.e2
def CI.sub(h:CI a M A V i k c)(s:qm M M'):CI a M' A V i k c:=⟨h.bd.sub s,h.e1,h.e2⟩
def CI.put(h:CI a M A V i k c)(c':pz){ad md:Addr}(ew:c'.way=c.way)(la:oS M ad=some (c'.at_.map D.str))(lm:oS M md=some (c'.ms.map D.str))(na:ad∉A.lists++V.fo)(nm:md∉A.lists++V.fo):
  CI a (pB M k.p (.ins a.e (rc c' k.wy ad md))) A (yL V i c') i k c'/\qM A M A (pB M k.p (.ins a.e (rc c' k.wy ad md))):=by
 obtain⟨b,s⟩:=h.bd.og h.e1 h.e2 ew la lm na nm;refine⟨⟨b,h.e1,?_⟩,s⟩;show(V.calls.set i c')[i]?=some c';rw[fB (cS.mp h.e2).1]
end
inductive Qn(i:Nat)(c:pz):Ev->pz->Prop
 | rings (ps:List Str):Qn i c (.rings i ps) (c.ring ps)
 | quiet:Qn i c (.quiet i) c.nF
 | waits (x:Str):Qn i c (.waits i x) (c.wait x)
 | talks (ms:List Str):Qn i c (.talks i ms) (c.nA ms)
 | held (x:Str):Qn i c (.held i x) (c.hold x)
 | leaves (x:Str):Qn i c (.leaves i x) (c.drop x)
 | over (w:Str):Qn i c (.over i w) (c.over w)
def Gv(a:Ad):rb:=λds M Q=>Bq λp x=>ds=[.ref p,.str x]/\M p=some (.ins a.e [])/\∀M' wy ad md,rT p M M'->M wy=none->M ad=none->M md=none->ad≠wy->md≠wy->M' p=some (.ins a.e (rc (yV x) wy ad md))->oS M' wy=some []->oS M' ad=some []->oS M' md=some []->Q .mI M'
def Oc(a:Ad):rb:=λds M Q=>IE λA V i k c w=>ds=[.ref k.p,.str w]/\CI a M A V i k c/\∀M',qM A M A M'->pJ a M' A (yL V i (c.over w))->Q .mI M'
def MS(a:Ad):rb:=λds M Q=>IE λA V i k c x=>ds=[.ref k.p,.str x]/\CI a M A V i k c/\c.at_.length<=100/\c.ms.length<=100/\∀M',qM A M A M'->pJ a M' A (yL V i (c.drop x))->Q .mI M'
def Kh(a:Ad):rb:=λds M Q=>SS λA V i k c e c'=>ds=[.ref k.p,Ev.d e]/\CI a M A V i k c/\c.at_.length<=100/\c.ms.length<=100/\Qn i c e c'/\∀M',qM A M A M'->pJ a M' A (yL V i c')->Q .mI M'
def Oy(G:Gl K mg a):Fq P w K mg base 1 a.am (Gv a):=by
 refine fq G.am.toDG D0 (λr u=>⟨_,(pb (pZ v0 pq)
 (pb (pZ v0 U1)
 (pb (pZ v0 (qJ sF))
 (pb (pZ v0 (qJ sF))
 (pb (pZ v0 (qJ sF))
 (pb (pZ v0 rQ)
 (pb (pZ v0 pk)
 (pj (pZ v0 rQ))))))))),?_⟩)
 rintro ds M Q ⟨p,x,rfl,hb,q⟩
 refine pf hb ⟨(G.j "state" rfl),by show 0<1000;decide,?_⟩;have k1:rT p M (pB M p (.ins a.e [("state",.str "rings")])):=.put;have b1:pB M p (.ins a.e [("state",.str "rings")]) p=some (.ins a.e [("state",.str "rings")]):=pN;show uw _ _ _ _ (pB M p (.ins a.e [("state",.str "rings")]));generalize pB M p (.ins a.e [("state",.str "rings")])=N1 at k1 b1 ⊢;refine pf b1 ⟨(G.j "caller" rfl),by show 1<1000;decide,?_⟩;have k2:=k1.trans (rT.put (p:=p) (c:=.ins a.e [("state",.str "rings"),("caller",.str x)]));have b2:pB N1 p (.ins a.e [("state",.str "rings"),("caller",.str x)]) p=some (.ins a.e [("state",.str "rings"),("caller",.str x)]):=pN;show uw _ _ _ _ (pB N1 p (.ins a.e [("state",.str "rings"),("caller",.str x)]));generalize pB N1 p (.ins a.e [("state",.str "rings"),("caller",.str x)])=N2 at k2 b2 ⊢;refine⟨oZ rfl,λwy hwy=>?_⟩;obtain⟨n3,e3,k3,c3,b3⟩:=sX (fs':=[("state",.str "rings"),("caller",.str x),("way",.ref wy)]) (c:=.lst []) b2 hwy;refine pf e3 ⟨(G.j "way" rfl),by show 2<1000;decide,?_⟩;show uw _ _ _ _ (pB (pB N2 wy (.lst [])) p (.ins a.e [("state",.str "rings"),("caller",.str x),("way",.ref wy)]));generalize pB (pB N2 wy (.lst [])) p (.ins a.e [("state",.str "rings"),("caller",.str x),("way",.ref wy)])=N3 at k3 c3 b3 ⊢;have z1:M wy=none:=rE k2 b2 hwy;have kk3:=k2.trans k3;have l3:oS N3 wy=some []:=rG c3;refine⟨oZ rfl,λad Y1=>?_⟩;obtain⟨n4,e4,k4,c4,b4⟩:=sX (fs':=[("state",.str "rings"),("caller",.str x),("way",.ref wy),("at",.ref ad)]) (c:=.lst []) b3 Y1;refine pf e4 ⟨(G.j "at" rfl),by show 3<1000;decide,?_⟩;show uw _ _ _ _ (pB (pB N3 ad (.lst [])) p (.ins a.e [("state",.str "rings"),("caller",.str x),("way",.ref wy),("at",.ref ad)]));generalize pB (pB N3 ad (.lst [])) p (.ins a.e [("state",.str "rings"),("caller",.str x),("way",.ref wy),("at",.ref ad)])=N4 at k4 c4 b4 ⊢;have z2:M ad=none:=rE kk3 b3 Y1;have YM:=kk3.trans k4;have naw:ad≠wy:=λz=>by rw[z,c3]at Y1;cases Y1
 have l4:=k4.lst (pS l3 b3) l3;have m4:oS N4 ad=some []:=rG c4;refine⟨oZ rfl,λmd hmd=>?_⟩;obtain⟨n5,e5,k5,c5,b5⟩:=sX (fs':=[("state",.str "rings"),("caller",.str x),("way",.ref wy),("at",.ref ad),("members",.ref md)]) (c:=.lst []) b4 hmd;refine pf e5 ⟨(G.j "members" rfl),by show 4<1000;decide,?_⟩;show uw _ _ _ _ (pB (pB N4 md (.lst [])) p (.ins a.e [("state",.str "rings"),("caller",.str x),("way",.ref wy),("at",.ref ad),("members",.ref md)]));generalize pB (pB N4 md (.lst [])) p (.ins a.e [("state",.str "rings"),("caller",.str x),("way",.ref wy),("at",.ref ad),("members",.ref md)])=N5 at k5 c5 b5 ⊢;have z3:M md=none:=rE YM b4 hmd;have YN:=YM.trans k5;have nmw:md≠wy:=λz=>by rw[z,pR l4]at hmd;cases hmd
 have l5:=k5.lst (pS l4 b4) l4;have m5:=k5.lst (pS m4 b4) m4;have o5:oS N5 md=some []:=rG c5;refine pf b5 ⟨(G.j "holder" rfl),by show 5<1000;decide,?_⟩;have k6:rT p N5 (pB N5 p (.ins a.e [("state",.str "rings"),("caller",.str x),("way",.ref wy),("at",.ref ad),("members",.ref md),("holder",.mI)])):=.put;have b6:pB N5 p (.ins a.e [("state",.str "rings"),("caller",.str x),("way",.ref wy),("at",.ref ad),("members",.ref md),("holder",.mI)]) p=some (.ins a.e [("state",.str "rings"),("caller",.str x),("way",.ref wy),("at",.ref ad),("members",.ref md),("holder",.mI)]):=pN;show uw _ _ _ _ (pB N5 p (.ins a.e [("state",.str "rings"),("caller",.str x),("way",.ref wy),("at",.ref ad),("members",.ref md),("holder",.mI)]));generalize pB N5 p (.ins a.e [("state",.str "rings"),("caller",.str x),("way",.ref wy),("at",.ref ad),("members",.ref md),("holder",.mI)])=N6 at k6 b6 ⊢;refine pf b6 ⟨(G.j "since" rfl),by show 6<1000;decide,?_⟩;have k7:=k6.trans (rT.put (p:=p) (c:=.ins a.e [("state",.str "rings"),("caller",.str x),("way",.ref wy),("at",.ref ad),("members",.ref md),("holder",.mI),("since",.int 0)]));have b7:pB N6 p (.ins a.e [("state",.str "rings"),("caller",.str x),("way",.ref wy),("at",.ref ad),("members",.ref md),("holder",.mI),("since",.int 0)]) p=some (.ins a.e [("state",.str "rings"),("caller",.str x),("way",.ref wy),("at",.ref ad),("members",.ref md),("holder",.mI),("since",.int 0)]):=pN;rw[show vT "since" (.int 0) [("state",.str "rings"),("caller",.str x),("way",.ref wy),("at",.ref ad),("members",.ref md),("holder",.mI)]=([("state",.str "rings"),("caller",.str x),("way",.ref wy),("at",.ref ad),("members",.ref md),("holder",.mI),("since",.int 0)]:List (Str×D))from rfl];generalize pB N6 p (.ins a.e [("state",.str "rings"),("caller",.str x),("way",.ref wy),("at",.ref ad),("members",.ref md),("holder",.mI),("since",.int 0)])=N7 at k7 b7 ⊢;refine pf b7 ⟨(G.j "word" rfl),by show 7<1000;decide,_,.refl,?_⟩;have k8:=k7.trans (rT.put (p:=p) (c:=.ins a.e (rc (yV x) wy ad md)));exact q _ wy ad md (YN.trans k8) z1 z2 z3 naw nmw pN (k8.lst (pS l5 b5) l5) (k8.lst (pS m5 b5) m5) (k8.lst (pS o5 b5) o5)
def IY(G:Gl K mg a):Fq P w K mg base 1 a.ad (Oc a):=by
 refine fq G.ad.toDG GS (λr u=>⟨_,(pb (pZ v0 pq)
 (pb (pZ v0 U1)
 (pb (pZ v0 (qJ sF))
 (pb (pZ v0 (qJ sF))
 (pj (pZ v0 rQ)))))),?_⟩)
 rintro ds M Q ⟨A,V,i,k,c,w0,rfl,h,q⟩
 obtain⟨ad,md,h1,h2,h3,h4,n1,n2⟩:=h.cell;refine pf h1 ⟨(G.j "state" rfl),by show 8<1000;decide,?_⟩;obtain⟨g1,s1⟩:=h.put {c with st:="over"} rfl h3 h4 n1 n2;show uw _ _ _ _ (pB M k.p (.ins a.e (rc {c with st:="over"} k.wy ad md)));generalize pB M k.p (.ins a.e (rc {c with st:="over"} k.wy ad md))=M1 at g1 s1 ⊢;clear h1 h2 h3 h4 n1 n2;obtain⟨ad,md,h1,h2,h3,h4,n1,n2⟩:=g1.cell;refine pf h1 ⟨(G.j "word" rfl),by show 8<1000;decide,?_⟩;obtain⟨g2,s2⟩:=g1.put {c with st:="over",wd:=some w0} rfl h3 h4 n1 n2;show uw _ _ _ _ (pB M1 k.p (.ins a.e (rc {c with st:="over",wd:=some w0} k.wy ad md)));generalize pB M1 k.p (.ins a.e (rc {c with st:="over",wd:=some w0} k.wy ad md))=M2 at g2 s2 ⊢;clear h1 h2 h3 h4 n1 n2;refine⟨oZ rfl,λp hp=>?_⟩;have t3:=qm.new (c:=.lst []) hp;have lp:=@pC M2 p [];have np:=g2.bd.ni hp;have Y2:=g2.sub t3;have s2':=s2.trans (.sub t3);generalize pB M2 p (.lst [])=M2' at t3 lp Y2 s2' ⊢;obtain⟨ad,md,h1,h2,h3,h4,n1,n2⟩:=Y2.cell;refine pf h1 ⟨(G.j "at" rfl),by show 8<1000;decide,?_⟩;obtain⟨g3,s3⟩:=Y2.put {c with st:="over",wd:=some w0,at_:=[]} rfl lp h4 np n2;show uw _ _ _ _ (pB M2' k.p (.ins a.e (rc {c with st:="over",wd:=some w0,at_:=[]} k.wy p md)));generalize pB M2' k.p (.ins a.e (rc {c with st:="over",wd:=some w0,at_:=[]} k.wy p md))=M3 at g3 s3 ⊢;clear h1 h2 h3 h4 n1 n2 lp t3 np g2 Y2;refine⟨oZ rfl,λp2 WT=>?_⟩;have t4:=qm.new (c:=.lst []) WT;have lp:=@pC M3 p2 [];have np:=g3.bd.ni WT;have Zq:=g3.sub t4;have s3':=s3.trans (.sub t4);generalize pB M3 p2 (.lst [])=M3' at t4 lp Zq s3' ⊢;obtain⟨ad,md,h1,h2,h3,h4,n1,n2⟩:=Zq.cell;refine pf h1 ⟨(G.j "members" rfl),by show 8<1000;decide,?_⟩;obtain⟨g4,s4⟩:=Zq.put {c with st:="over",wd:=some w0,at_:=[],ms:=[]} rfl h3 lp n1 np;rw[show vT "members" (.ref p2) (rc {c with st:="over",wd:=some w0,at_:=[]} k.wy ad md)=rc {c with st:="over",wd:=some w0,at_:=[],ms:=[]} k.wy ad p2 from rfl];generalize pB M3' k.p (.ins a.e (rc {c with st:="over",wd:=some w0,at_:=[],ms:=[]} k.wy ad p2))=M4 at g4 s4 ⊢;clear h1 h2 h3 h4 n1 n2 lp t4 np g3 Zq;obtain⟨ad,md,h1,h2,h3,h4,n1,n2⟩:=g4.cell;refine pf h1 ⟨(G.j "holder" rfl),by show 8<1000;decide,_,.refl,?_⟩;obtain⟨g5,s5⟩:=g4.put (c.over w0) rfl h3 h4 n1 n2;refine q _ ((s1.trans s2').trans (s3'.trans (s4.trans s5))) ?_;have:=g5.bd;rw[rZ,rZ,rZ,rZ]at this;exact this
def Mh(G:Gl K mg a):Fq P w K mg base 1 a.aQ (MS a):=by
 refine fq G.aQ.toDG Dk (λr u=>⟨_,(pb (pZ v0 (qD rfl (xQ (ix:=[none,some 1]) (N':=["other","phone"])) (qC (pA v0)) (qA 0) (vM (pG u v0 U1)) v0))
 (pj (pZ v0 (qD rfl (xQ (ix:=[none,some 1]) (N':=["other","phone"])) (qC (pA v0)) (qA 0) (vM (pG u v0 U1)) v0)))),?_⟩)
 rintro ds M Q ⟨A,V,i,k,c,x,rfl,h,la,lm,q⟩
 have hz:=dF;obtain⟨ad,md,h1,h2,h3,h4,n1,n2⟩:=h.cell;refine pf h1 (i' rfl (i' h3 (tL (f:=id) (t:=Pi x) h3 _ [] _ (by rw[cQ];simp only[dE];omega) (λd hd k0 hk=>?_) (λd hd _ k0 hk=>?_) λp hp=>?_)))
 .obtain⟨y,hy,rfl⟩:=dw.mp hd;exact hk
 .obtain⟨y,hy,rfl⟩:=dw.mp hd;exact hk
 rw[Ct];have t1:=qm.new (c:=.lst ((rD c.at_ x).map D.str)) hp;have lp:=@pC M p ((rD c.at_ x).map D.str);have np:=h.bd.ni hp;have h':=h.sub t1;have s1:qM A M A (pB M p (.lst ((rD c.at_ x).map D.str))):=.sub t1;generalize pB M p (.lst ((rD c.at_ x).map D.str))=M1 at t1 lp h' s1 ⊢;clear h1 h2 h3 h4 n1 n2;obtain⟨ad,md,h1,h2,h3,h4,n1,n2⟩:=h'.cell;refine pf h1 ⟨(G.j "at" rfl),by show 8<1000;decide,?_⟩;obtain⟨g2,s2⟩:=h'.put {c with at_:=rD c.at_ x} rfl lp h4 np n2;rw[show vT "at" (.ref p) (rc c k.wy ad md)=rc {c with at_:=rD c.at_ x} k.wy p md from rfl];generalize pB M1 k.p (.ins a.e (rc {c with at_:=rD c.at_ x} k.wy p md))=M2 at g2 s2 ⊢;clear h1 h2 h3 h4 n1 n2 lp np;obtain⟨ad,md,h1,h2,h3,h4,n1,n2⟩:=g2.cell;refine pf h1 (i' rfl (i' h4 (tL (f:=id) (t:=Pi x) h4 _ [] _ (by rw[cQ];simp only[dE];show 0+c.ms.length<=sizeLine;omega) (λd hd k0 hk=>?_) (λd hd _ k0 hk=>?_) λp2 WT=>?_)))
 .obtain⟨y,hy,rfl⟩:=dw.mp hd;exact hk
 .obtain⟨y,hy,rfl⟩:=dw.mp hd;exact hk
 rw[Ct];have t3:=qm.new (c:=.lst ((rD c.ms x).map D.str)) WT;have lp:=@pC M2 p2 ((rD c.ms x).map D.str);have np:=g2.bd.ni WT;have Y2:=g2.sub t3;have s3:qM A M2 A (pB M2 p2 (.lst ((rD c.ms x).map D.str))):=.sub t3;generalize pB M2 p2 (.lst ((rD c.ms x).map D.str))=M3 at t3 lp Y2 s3 ⊢;clear h1 h2 h3 h4 n1 n2;obtain⟨ad,md,h1,h2,h3,h4,n1,n2⟩:=Y2.cell;refine pf h1 ⟨(G.j "members" rfl),by show 8<1000;decide,_,.refl,?_⟩;obtain⟨g4,s4⟩:=Y2.put (c.drop x) rfl h3 lp n1 np;refine q _ ((s1.trans s2).trans (s3.trans s4)) ?_;have:=g4.bd;rw[rZ]at this;exact this
def Ka(G:Gl K mg a):Fq P w K mg base 2 a.aR (Kh a):=by
 refine fq G.aR.toDG xP (λr u=>⟨_,(pb (pK 2 xP (pI U1 pk))
 (pj (pP (pG u U2 pq)
 (pb (pZ v0 pq)
 (pb (pZ v0 (pW su rfl G.r sv (qb (pI U1 pk))))
 (pj (pZ v0 pk))))
 (pj (pP (pG u U2 pq)
 (pj (pZ v0 (qJ sF)))
 (pj (pP (pG u U2 pq)
 (pb (pZ v0 pq)
 (pj (pZ v0 (qJ (qb (pI U1 pk))))))
 (pj (pP (pG u U2 pq)
 (pb (pZ v0 pq)
 (pb (pZ v0 (pW su rfl G.r sv (qb (pI U1 pk))))
 (pb (pZ v0 (qJ sF))
 (pj (pZ v0 rQ)))))
 (pj (pP (pG u U2 pq)
 (pb (pZ v0 pq)
 (pj (pZ v0 (pI U1 pk))))
 (pj (pP (pG u U2 pq)
 (pj (pL (pF (Mh G) r G.aQ (rP v0 (pI U1 pk)))))
 (pj (pP (pG u U2 pq)
 (pj (pL (pF (IY G) r G.ad (rP v0 (pI U1 pk)))))
 pH))))))))))))))),?_⟩)
 rintro ds M Q ⟨A,V,i,k,c,e,c',rfl,h,la,lm,hc,q⟩
 cases hc with
 | over w0=>exact⟨A,V,i,k,c,w0,rfl,h,λM' s b=>⟨M',.refl,q M' s b⟩⟩
 | leaves x=>exact⟨A,V,i,k,c,x,rfl,h,la,lm,λM' s b=>⟨M',.refl,q M' s b⟩⟩
 | quiet=>refine⟨oZ rfl,λp hp=>?_⟩;have t3:=qm.new (c:=.lst []) hp;have lp:=@pC M p [];have np:=h.bd.ni hp;have g1:=h.sub t3;generalize pB M p (.lst [])=M1 at t3 lp g1 ⊢;obtain⟨ad,md,h1,h2,h3,h4,n1,n2⟩:=g1.cell;refine pf h1 ⟨(G.j "at" rfl),by show 8<1000;decide,_,.refl,?_⟩;obtain⟨g5,s5⟩:=g1.put c.nF rfl lp h4 np n2;exact q _ ((qM.sub t3).trans s5) g5.bd
 | waits x=>obtain⟨ad,md,h1,h2,h3,h4,n1,n2⟩:=h.cell;refine pf h1 ⟨(G.j "state" rfl),by show 8<1000;decide,?_⟩;obtain⟨g1,s1⟩:=h.put {c with st:="waits"} rfl h3 h4 n1 n2;show uw _ _ _ _ (pB M k.p (.ins a.e (rc {c with st:="waits"} k.wy ad md)));generalize pB M k.p (.ins a.e (rc {c with st:="waits"} k.wy ad md))=M1 at g1 s1 ⊢;clear h1 h2 h3 h4 n1 n2;refine⟨oZ rfl,λp hp=>?_⟩;have t3:=qm.new (c:=.lst [D.str x]) hp;have lp:=@pC M1 p [D.str x];have np:=g1.bd.ni hp;have YB:=g1.sub t3;generalize pB M1 p (.lst [D.str x])=M1' at t3 lp YB ⊢;obtain⟨ad,md,h1,h2,h3,h4,n1,n2⟩:=YB.cell;refine pf h1 ⟨(G.j "at" rfl),by show 8<1000;decide,_,.refl,?_⟩;obtain⟨g5,s5⟩:=YB.put (c.wait x) rfl lp h4 np n2;refine q _ (s1.trans ((qM.sub t3).trans s5)) ?_;have:=g5.bd;rw[rZ]at this;exact this
 | held x=>obtain⟨ad,md,h1,h2,h3,h4,n1,n2⟩:=h.cell;refine pf h1 ⟨(G.j "state" rfl),by show 8<1000;decide,?_⟩;obtain⟨g1,s1⟩:=h.put {c with st:="held"} rfl h3 h4 n1 n2;show uw _ _ _ _ (pB M k.p (.ins a.e (rc {c with st:="held"} k.wy ad md)));generalize pB M k.p (.ins a.e (rc {c with st:="held"} k.wy ad md))=M1 at g1 s1 ⊢;clear h1 h2 h3 h4 n1 n2;obtain⟨ad,md,h1,h2,h3,h4,n1,n2⟩:=g1.cell;refine pf h1 ⟨(G.j "holder" rfl),by show 8<1000;decide,_,.refl,?_⟩;obtain⟨g5,s5⟩:=g1.put (c.hold x) rfl h3 h4 n1 n2;refine q _ (s1.trans s5) ?_;have:=g5.bd;rw[rZ]at this;exact this
 | rings ps=>obtain⟨ad,md,h1,h2,h3,h4,n1,n2⟩:=h.cell;refine pf h1 ⟨(G.j "state" rfl),by show 8<1000;decide,?_⟩;obtain⟨g1,s1⟩:=h.put {c with st:="rings"} rfl h3 h4 n1 n2;show uw _ _ _ _ (pB M k.p (.ins a.e (rc {c with st:="rings"} k.wy ad md)));generalize pB M k.p (.ins a.e (rc {c with st:="rings"} k.wy ad md))=M1 at g1 s1 ⊢;clear h1 h2 h3 h4 n1 n2;refine λp hp=>?_;have t3:=qm.new (c:=.lst (ps.map D.str)) hp;have lp:=@pC M1 p (ps.map D.str);have np:=g1.bd.ni hp;have YB:=g1.sub t3;have s1':=s1.trans (.sub t3);generalize pB M1 p (.lst (ps.map D.str))=M1' at t3 lp YB s1' ⊢;obtain⟨ad,md,h1,h2,h3,h4,n1,n2⟩:=YB.cell;refine pf h1 ⟨(G.j "at" rfl),by show 8<1000;decide,?_⟩;obtain⟨g3,s3⟩:=YB.put {c with st:="rings",at_:=ps} rfl lp h4 np n2;rw[show vT "at" (.ref p) (rc {c with st:="rings"} k.wy ad md)=rc {c with st:="rings",at_:=ps} k.wy p md from rfl];generalize pB M1' k.p (.ins a.e (rc {c with st:="rings",at_:=ps} k.wy p md))=M3 at g3 s3 ⊢;clear h1 h2 h3 h4 n1 n2 lp t3 np;obtain⟨ad,md,h1,h2,h3,h4,n1,n2⟩:=g3.cell;refine pf h1 ⟨(G.j "since" rfl),by show 8<1000;decide,_,.refl,?_⟩;obtain⟨g5,s5⟩:=g3.put (c.ring ps) rfl h3 h4 n1 n2;refine q _ (s1'.trans (s3.trans s5)) ?_;have:=g5.bd;rw[rZ,rZ]at this;exact this
 | talks ms=>obtain⟨ad,md,h1,h2,h3,h4,n1,n2⟩:=h.cell;refine pf h1 ⟨(G.j "state" rfl),by show 8<1000;decide,?_⟩;obtain⟨g1,s1⟩:=h.put {c with st:="talks"} rfl h3 h4 n1 n2;show uw _ _ _ _ (pB M k.p (.ins a.e (rc {c with st:="talks"} k.wy ad md)));generalize pB M k.p (.ins a.e (rc {c with st:="talks"} k.wy ad md))=M1 at g1 s1 ⊢;clear h1 h2 h3 h4 n1 n2;refine λp hp=>?_;have t3:=qm.new (c:=.lst (ms.map D.str)) hp;have lp:=@pC M1 p (ms.map D.str);have np:=g1.bd.ni hp;have YB:=g1.sub t3;have s1':=s1.trans (.sub t3);generalize pB M1 p (.lst (ms.map D.str))=M1' at t3 lp YB s1' ⊢;obtain⟨ad,md,h1,h2,h3,h4,n1,n2⟩:=YB.cell;refine pf h1 ⟨(G.j "members" rfl),by show 8<1000;decide,?_⟩;obtain⟨g3,s3⟩:=YB.put {c with st:="talks",ms:=ms} rfl h3 lp n1 np;show uw _ _ _ _ (pB M1' k.p (.ins a.e (rc {c with st:="talks",ms:=ms} k.wy ad p)));generalize pB M1' k.p (.ins a.e (rc {c with st:="talks",ms:=ms} k.wy ad p))=M3 at g3 s3 ⊢;clear h1 h2 h3 h4 n1 n2 lp t3 np;refine⟨oZ rfl,λp2 WT=>?_⟩;have t4:=qm.new (c:=.lst []) WT;have lp:=@pC M3 p2 [];have np:=g3.bd.ni WT;have Zq:=g3.sub t4;have s3':=s3.trans (.sub t4);generalize pB M3 p2 (.lst [])=M3' at t4 lp Zq s3' ⊢;obtain⟨ad,md,h1,h2,h3,h4,n1,n2⟩:=Zq.cell;refine pf h1 ⟨(G.j "at" rfl),by show 8<1000;decide,?_⟩;obtain⟨g4,s4⟩:=Zq.put {c with st:="talks",ms:=ms,at_:=[]} rfl lp h4 np n2;rw[show vT "at" (.ref p2) (rc {c with st:="talks",ms:=ms} k.wy ad md)=rc {c with st:="talks",ms:=ms,at_:=[]} k.wy p2 md from rfl];generalize pB M3' k.p (.ins a.e (rc {c with st:="talks",ms:=ms,at_:=[]} k.wy p2 md))=M4 at g4 s4 ⊢;clear h1 h2 h3 h4 n1 n2 lp t4 np;obtain⟨ad,md,h1,h2,h3,h4,n1,n2⟩:=g4.cell;refine pf h1 ⟨(G.j "holder" rfl),by show 8<1000;decide,_,.refl,?_⟩;obtain⟨g5,s5⟩:=g4.put (c.nA ms) rfl h3 h4 n1 n2;refine q _ (s1'.trans (s3'.trans (s4.trans s5))) ?_;have:=g5.bd;rw[rZ,rZ,rZ]at this;exact this
theorem tM{α:Type}{f:α->α}:∀{l:List α} {i:Nat} {c:α},l[i]?=some c->l.modify i f=l.set i (f c)
 | [],_,_,h=>by simp at h
 | _::_,0,_,h=>by cases h;rfl
 | x::r,i+1,c,h=>by rw[List.modify_succ_cons,kW,tM (l:=r) (by simpa using h)]
def Ia(ps:List (Str×Int))(z:Str)(n:Int):Bw (tG ps) (.inr z) (.int n)=tG (zZ ps z n):=by
 have ea:((tG ps).any λkv=>decide (kv.1=(Sum.inr z:qV)))=ps.any λp=>decide (p.1=z):=by unfold tG;rw[jI];congr 1;funext p;have:((Sum.inr p.1:qV)=Sum.inr z)=(p.1=z):=propext ⟨λh=>jT h,λh=>by rw[h]⟩;simp only[Function.comp,this]
 unfold Bw zZ;rw[ea];by_cases h:(ps.any λp=>decide (p.1=z))=true
 .rw[cX h,cX h];unfold tG;rw[dU,dU];refine gu λp _=>?_;by_cases hp:p.1=z
  .simp[hp]
  .have:¬(Sum.inr p.1:qV)=Sum.inr z:=λy=>hp (jT y);simp[hp]
 .rw[cV h,cV h];unfold tG;rw[dH];rfl
def Hc{α:Type}{l:List α}{i:Nat}{x:α}(h:l[i]?=some x):l.set i x=l:=by obtain⟨hi,e⟩:=cS.mp h;rw[<-e,List.set_getElem_self]
structure Wd(V:qe):Prop where
 lo:V.log.length<10000000
 le:V.mT.length<10000000
 ca:V.calls.length<=1000000
 ps:V.ps.length<10000000
 cs:∀c∈V.calls,c.way.length<10000000/\c.at_.length<=100/\c.ms.length<=100
def AV(a:Ad):rb:=λds M Q=>F8 λA V k c v=>ds=[.ref A.b,rK.d v]/\CI a M A V v.i k c/\V.mT.length<10000000/\c.way.length<10000000/\∀M',qM A M A M'->pJ a M' A {yL V v.i (c.go v.g)with mT:=V.mT++[v]}->Q .mI M'
def CJ(a:Ad):rb:=λds M Q=>SR λA V i j ki ci cj ms=>ds=[.ref A.b,.int (i:Nat),.int (j:Nat),names ms]/\CI a M A V i ki ci/\V.calls[j]?=some cj/\i≠j/\V.mT.length<10000000/\∀M' A',A'.b=A.b->qM A M A' M'->pJ a M' A' {yL (yL V i (ci.over "merged")) j (cj.mem ms)with mT:=V.mT.map (rK.to i j)}->Q .mI M'
def zk(a:Ad):rb:=λds M Q=>Bq λA V=>ds=[.ref A.b]/\pJ a M A V/\∀M',qM A M A M'->pJ a M' A {V with t:=V.t+1,calls:=V.calls.map pz.tick}->Q .mI M'
def vQ(a:Ad):rb:=λds M Q=>CF λb A V e=>ds=[.ref b,Ev.d e]/\A.b=b/\pJ a M A V/\Wd V/\e.ok V/\∀M' A',A'.b=A.b->qM A M A' M'->pJ a M' A' (pU V e)->Q .mI M'
noncomputable def RG(m k:Nat):D->D
 | .tup (.int i::r)=>if i=(m:Int)then .tup (.int (k:Nat)::r)else .tup (.int i::r)
 | d=>d
def RZ(m k:Nat)(v:rK):RG m k v.d=(v.to m k).d:=by
 show(if ((v.i:Nat):Int)=(m:Int)then _ else _)=_;unfold rK.to;by_cases h:v.i=m
 .rw[cX h,cX (by rw[h])];rfl
 .rw[cV h,cV (by omega)];rfl
def Hg(G:Gl K mg a):Fq P w K mg base 1 a.bz (AV a):=by
 refine fq G.bz.toDG zP (λr u=>⟨_,(pb (pL (qZ (pA v0) (qb U1)))
 (pj (pL (qZ (pA (pI (pA v0) (pI U1 pk))) (qb (pI U1 pk)))))),?_⟩)
 rintro ds M Q ⟨A,V,k,c,v,rfl,ci,l1,l2,q⟩
 have hz:=dF;have bd:=ci.bd;refine pf bd.at_ (i' rfl ⟨by show(oS M A.le).isSome=true;rw[bd.le];rfl,i' bd.le ⟨by rw[cQ];omega,?_⟩⟩);obtain⟨b1,s1⟩:=bd.ow (es:=V.mT++[v]);rw[dH]at b1 s1;have b1:pJ a (pB M A.le (.lst (V.mT.map rK.d++[v.d]))) A {V with mT:=V.mT++[v]}:=b1;have s1:qM A M A (pB M A.le (.lst (V.mT.map rK.d++[v.d]))):=s1;generalize pB M A.le (.lst (V.mT.map rK.d++[v.d]))=M1 at b1 s1 ⊢;obtain⟨ad,md,h1,h2,h3,h4,n1,n2⟩:=b1.cs v.i k c ci.e1 ci.e2;refine pf b1.at_ (i' rfl (i' b1.ca (i' (rf ci.e1) (pf h1 (i' rfl ⟨by show(oS M1 k.wy).isSome=true;rw[h2];rfl,i' h2 ⟨by rw[cQ];omega,?_⟩⟩)))));obtain⟨b2,s2⟩:=b1.oi (ws:=c.way++[v.g]) ci.e1 ci.e2;rw[dH]at b2 s2;exact⟨_,.refl,q _ (s1.trans s2) b2⟩
def K'(G:Gl K mg a):Fq P w K mg base 2 a.bA (CJ a):=by
 refine fq G.bA.toDG xp (λr u=>⟨_,(pb (pL (pF (IY G) r G.ad (rP (pI (pA v0) U1) pq)))
 (pb (pZ v0 (qD rfl (xQ (ix:=[none,some 1,some 2]) (N':=["leg","merged","kept"])) (qC (pA v0)) (qA 0) rH (Qm (pG u (pI v0 pk) U1) (pV (pM (qb U2)) (rR v0 (sL pk) sP)) v0)))
 (pb (pK 4 xp (pI (pA v0) U2))
 (pj (pZ v4 (pW su rfl G.r sv (qb U3))))))),?_⟩)
 rintro ds M Q ⟨A,V,i,j,ki,ci,cj,ms,rfl,hi,hj,XH,l1,q⟩
 have hz:=dF;refine pf hi.bd.at_ (i' rfl (i' rfl (i' hi.bd.ca (i' (rf hi.e1) ⟨A,V,i,ki,ci,"merged",rfl,hi,λM1 s1 b1=>?_⟩))));have hj1:(yL V i (ci.over "merged")).calls[j]?=some cj:=by show(V.calls.set i _)[j]?=_;rw[fA XH];exact hj
 have le1:oS M1 A.le=some (V.mT.map rK.d):=b1.le;refine pf b1.at_ (i' rfl (i' le1 (rq (f:=RG i j) le1 _ [] _ (by rw[cQ];simp only[dE];omega) (λd hd k hk=>?_) λp hp=>?_)))
 .obtain⟨v,_,rfl⟩:=dw.mp hd;refine i' rfl ?_;have hk:k (if ((v.i:Nat):Int)=(i:Int)then .tup [.int (j:Nat),.str v.f,.str v.g,.str v.y]else .tup [.int (v.i:Nat),.str v.f,.str v.g,.str v.y]) M1:=hk;refine qF (c:=((v.i:Nat):Int)==(i:Nat)) (λz=>?_) (λz=>?_)
  .rw[cX (eq_of_beq z)]at hk;exact⟨oZ rfl,ft _ _,by show 1+3<=sizeLine;omega,hk⟩
  .rw[cV (λy=>z (by rw[y];exact fC _))]at hk;exact hk
 have em:[]++(V.mT.map rK.d).map (RG i j)=(V.mT.map (rK.to i j)).map rK.d:=by rw[dW,dU,dU];exact gu λv _=>RZ i j v
 rw[em];obtain⟨b2,s2⟩:=b1.oz (es:=V.mT.map (rK.to i j)) hp;have t:=qm.new (c:=.lst ((V.mT.map (rK.to i j)).map rK.d)) hp;refine pf (t _ _ b1.at_) ⟨(G.E "legs" rfl),by show 8<1000;decide,?_⟩;show uw _ _ _ _ (pB (pB M1 p (.lst ((V.mT.map (rK.to i j)).map rK.d))) A.b (.ins a.c (tP (.ref V.p) V.h V.t A.ca p A.nx A.on A.lo)));have b2:pJ a (pB (pB M1 p (.lst ((V.mT.map (rK.to i j)).map rK.d))) A.b (.ins a.c (tP (.ref V.p) V.h V.t A.ca p A.nx A.on A.lo))) {A with le:=p} {yL V i (ci.over "merged")with mT:=V.mT.map (rK.to i j)}:=b2;have s2:qM A M1 {A with le:=p} (pB (pB M1 p (.lst ((V.mT.map (rK.to i j)).map rK.d))) A.b (.ins a.c (tP (.ref V.p) V.h V.t A.ca p A.nx A.on A.lo))):=s2;generalize pB (pB M1 p (.lst ((V.mT.map (rK.to i j)).map rK.d))) A.b (.ins a.c (tP (.ref V.p) V.h V.t A.ca p A.nx A.on A.lo))=M2 at b2 s2 ⊢;have hjk:j<A.cs.length:=by rw[hi.bd.len];exact(cS.mp hj).1
 have ej:A.cs[j]?=some A.cs[j]:=cU hjk;generalize A.cs[j]=kj at ej;have cj2:CI a M2 {A with le:=p} _ j kj cj:=⟨b2,ej,hj1⟩;refine pf b2.at_ (i' rfl (i' rfl (i' b2.ca (i' (rf ej) ?_))));refine λr YA=>?_;have t3:=qm.new (c:=.lst (ms.map D.str)) YA;have lr:=@pC M2 r (ms.map D.str);have nr:=b2.ni YA;have cj3:=cj2.sub t3;generalize pB M2 r (.lst (ms.map D.str))=M3 at t3 lr cj3 ⊢;obtain⟨ad,md,h1,h2,h3,h4,n1,n2⟩:=cj3.cell;refine pf h1 ⟨(G.j "members" rfl),by show 8<1000;decide,_,.refl,?_⟩;obtain⟨g5,s5⟩:=cj3.put (cj.mem ms) rfl h3 lr n1 nr;exact q _ {A with le:=p} rfl (s1.trans (s2.trans ((qM.sub t3).trans s5))) g5.bd
def D5(G:Gl K mg a):Fq P w K mg base 1 a.bB (zk a):=by
 refine fq G.bB.toDG uZ (λr u=>⟨_,(pb (Dl v0 pk)
 (pj (uk eW rfl (qC (pA v0)) (rW 1 uZ)
 (pj (pP (pG u (pA U1) pq)
 (pj (Dl U1 pk))
 pH))))),?_⟩)
 rintro ds M Q ⟨A,V,rfl,bd,q⟩
 refine pf bd.at_ ⟨(G.E "turn" rfl),i' rfl (i' rfl (pf bd.at_ ⟨rfl,by show 8<1000;decide,?_⟩))⟩;obtain⟨b1,s1⟩:=bd.putT (t:=V.t+1);rw[show vT "turn" (.int (V.t+1)) (tP (.ref V.p) V.h V.t A.ca A.le A.nx A.on A.lo)=tP (.ref V.p) V.h (V.t+1) A.ca A.le A.nx A.on A.lo from rfl];generalize pB M A.b (.ins a.c (tP (.ref V.p) V.h (V.t+1) A.ca A.le A.nx A.on A.lo))=M1 at b1 s1 ⊢;refine pf b1.at_ (i' rfl (i' b1.ca ?_));refine vk (A.cs.map λk=>D.ref k.p) (λpre δ M'=>pJ a M' A {V with t:=V.t+1,calls:=(V.calls.take pre.length).map pz.tick++V.calls.drop pre.length}/\qM A M A M'/\∃y,δ=[some (.ref A.b),y]) (λ_ _ M' j=>j.1.ca) _ [] _ _ rfl ⟨b1,s1,none,rfl⟩ ?_ ?_
 .rintro pre d post e δ M' ⟨b2,s2,y,rfl⟩ nx WU
  have hd:(A.cs.map λk=>D.ref k.p)[pre.length]?=some d:=by rw[<-e];simp
  rw[dq]at hd;cases ek:A.cs[pre.length]? with
  | none=>rw[ek]at hd;cases hd
  | some k=>
   rw[ek]at hd;have hd:D.ref k.p=d:=c9 hd;subst hd;have hi:pre.length<V.calls.length:=by rw[<-bd.len];exact(cS.mp ek).1
   have ec:V.calls[pre.length]?=some V.calls[pre.length]:=cU hi;have ed:V.calls.drop pre.length=V.calls[pre.length]::V.calls.drop (pre.length+1):=gF hi;have et:V.calls.take (pre.length+1)=V.calls.take pre.length++[V.calls[pre.length]]:=by rw[gU,ec];rfl
   generalize V.calls[pre.length]=c at ec ed et;have hl:((V.calls.take pre.length).map pz.tick).length=pre.length:=by rw[cQ,fK];omega
   have ec2:((V.calls.take pre.length).map pz.tick++V.calls.drop pre.length)[pre.length]?=some c:=by rw[eF (by rw[hl];exact cZ _),hl,gI,ed];rfl
   rw[cT,dG,et]at WU;have en:((V.calls.take pre.length).map pz.tick++V.calls.drop pre.length).set pre.length c.tick=(V.calls.take pre.length++[c]).map pz.tick++V.calls.drop (pre.length+1):=by rw[j8 _ _ (by rw[hl];exact cZ _),hl,gI,ed,dH,fh];rfl
   have ci:CI a M' A _ pre.length k c:=⟨b2,ek,ec2⟩;obtain⟨ad,md,h1,h2,h3,h4,n1,n2⟩:=ci.cell;refine pf h1 (i' rfl ?_);have ht:c.tick=if (c.st=="rings")=true then{c with si:=c.si+1}else c:=rfl;refine qF (c:=c.st=="rings") (λg=>?_) (λg=>?_)
   .rw[cX g]at ht;refine pf h1 ⟨(G.j "since" rfl),i' rfl (i' rfl (pf h1 ⟨rfl,by show 8<1000;decide,?_⟩))⟩;obtain⟨g5,s5⟩:=ci.put c.tick (by rw[ht]) (by rw[ht];exact h3) (by rw[ht];exact h4) n1 n2;have b5:=g5.bd;unfold yL at b5;rw[en]at b5;rw[ht]at b5 s5;exact WU _ _ ⟨b5,s2.trans s5,_,rfl⟩
   .rw[cV g]at ht;rw[ht,Hc ec2]at en;rw[en]at b2;exact WU _ _ ⟨b2,s2,_,rfl⟩
 .rintro δ M' ⟨b2,s2,y,rfl⟩
  rw[cQ,bd.len,e9,jD,eU]at b2;exact⟨M',.refl,q M' s2 b2⟩
def qK(G:Gl K mg a):Fq P w K mg base 3 a.k (vQ a):=by
 refine fq G.k.toDG xB (λr u=>⟨_,(pb (pL (qZ (pA v0) (qb U1)))
 (pb (pK 2 xB (pI U1 pk))
 (pj (pP (pG u U2 pq)
 (pj (pL (qZ (pA v0) (qb (uF (Oy G) r G.e G.b8 G.am.toDG (qb (pI U1 pk)))))))
 (pj (pP (pG u U2 pq)
 (pj (pL (pT v0 G.c.toCls G.bz (Hg G) r (qb (rR U1 (sL pk) sP)))))
 (pj (pP (pG u U2 pq)
 (pj (NO u (pA v0) (pI U1 pk) (pI U1 pk)))
 (pj (pP (pG u U2 pq)
 (pj (pL (pT v0 G.c.toCls G.bA (K' G) r (ra (pI U1 pk) (pI U1 pk) (pI U1 pk)))))
 (pj (pP (pG u U2 pq)
 (pj (pL (vE v0 G.c.toCls G.bB (D5 G) r)))
 (pj (pP (pG u U2 (pM (rP pq pq)))
 (pj (QS (qh u U2 pq) (SM (pA v0) (pI U1 pk))))
 (pj (pP (pG u U2 pq)
 (pj (pL (pF (Ka G) r G.aR (rP (pI (pA v0) (pI U1 pk)) U1))))
 pH)))))))))))))))),?_⟩)
 rintro ds M Q ⟨_,A,V,e,rfl,rfl,bd,lim,ev,q⟩
 have hz:=dF;have ll:=lim.lo;have lc:=lim.ca;have lp:=lim.ps;refine pf bd.at_ (i' rfl ⟨by show(oS M A.lo).isSome=true;rw[bd.lo];rfl,i' bd.lo ⟨by rw[cQ];omega,?_⟩⟩);have hb:=bd.oE (es:=V.log++[e]);rw[dH]at hb;obtain⟨b1,s1⟩:pJ a (pB M A.lo (.lst (V.log.map Ev.d++[e.d]))) A (qH V e)/\qM A M A (pB M A.lo (.lst (V.log.map Ev.d++[e.d]))):=hb;show uw _ _ _ _ (pB M A.lo (.lst (V.log.map Ev.d++[e.d])));generalize pB M A.lo (.lst (V.log.map Ev.d++[e.d]))=M1 at b1 s1 ⊢;have YQ:∀i,i<V.calls.length->∃k c,A.cs[i]?=some k/\V.calls[i]?=some c/\c∈V.calls:=λi hi=>by
  have XD:i<A.cs.length:=by rw[bd.len];exact hi
  exact⟨_,_,cU XD,cU hi,hW hi⟩
 have ZW:∀(i:Nat) (k:rA) (c:pz) (c':pz) (f:pz->pz),A.cs[i]?=some k->V.calls[i]?=some c->f c=c'->pU V e=xi (qH V e) i f->∀(M2:Mp),qM A M1 A M2->pJ a M2 A (yL (qH V e) i c')->∃WM,qm WM M2/\Q .mI WM:=λi k c c' f e1 e2 e3 e4 M2 s2 b2=>⟨M2,.refl,q M2 A rfl (s1.trans s2) (by
  rw[e4];unfold xi;rw[show(qH V e).calls=V.calls from rfl,tM e2,e3];exact b2)⟩
 cases e with
 | new n x=>refine pf b1.at_ (i' rfl ⟨by show(oS M1 A.ca).isSome=true;rw[b1.ca];rfl,λp hp=>⟨p,x,rfl,pN,λM2 wy ad md kp z1 z2 z3 n1 n2 h1 h2 h3 h4=>⟨rfl,?_⟩⟩⟩);have sp:=qm.new (c:=.ins a.e []) hp;have s2:qm M1 M2:=λy d hy=>kp y d (SY hy hp) (sp y d hy);refine i' (s2.lst b1.ca) ⟨by rw[cQ,b1.len];show V.calls.length<sizeLine;omega,?_⟩;obtain⟨b3,s3⟩:=b1.n9 s2 (c:=yV x) hp (sp.none z1) (sp.none z2) (sp.none z3) h1 h2 h3 h4 n1 n2;exact⟨_,.refl,q _ (A.add ⟨p,wy⟩) rfl (s1.trans s3) b3⟩
 | leg v=>obtain⟨k,c,ek,ec,hc⟩:=YQ v.i ev;refine pf b1.at_ ⟨rfl,_,⟨rfl,rfl⟩,A,qH V (.leg v),k,c,v,rfl,⟨b1,ek,ec⟩,lim.le,(lim.cs c hc).1,λM2 s2 b2=>⟨M2,.refl,q M2 A rfl (s1.trans s2) ?_⟩⟩;show pJ a M2 A {qH V (.leg v)with mT:=V.mT++[v],calls:=V.calls.modify v.i (·.go v.g)};rw[tM ec];exact b2
 | next z n=>refine pf b1.at_ (i' rfl (i' b1.nx ⟨by show(tG V.ps).length<sizeLine;unfold tG;rw[cQ];omega,?_⟩));rw[Ia];obtain⟨b2,s2⟩:=b1.oR (ps:=zZ V.ps z n);exact⟨_,.refl,q _ A rfl (s1.trans s2) b2⟩
 | merge i j ms=>obtain⟨hi,hj,hij,_⟩:=ev;obtain⟨ki,ci,eki,eci,hci⟩:=YQ i hi;obtain⟨kj,cj,ekj,ecj,hcj⟩:=YQ j hj;refine pf b1.at_ ⟨rfl,_,⟨rfl,rfl⟩,A,qH V (.merge i j ms),i,j,ki,ci,cj,ms,rfl,⟨b1,eki,eci⟩,ecj,hij,lim.le,λM2 A2 eb s2 b2=>⟨M2,.refl,q M2 A2 eb (s1.trans s2) ?_⟩⟩;show pJ a M2 A2 {qH V (.merge i j ms)with calls:=(V.calls.modify i (·.over "merged")).modify j (·.mem ms),mT:=V.mT.map (rK.to i j)};rw[tM eci,tM (show(V.calls.set i _)[j]?=some cj by rw[fA hij];exact ecj)];exact b2
 | asks i z ns=>exact⟨oZ rfl,rfl,rfl,M1,.refl,q M1 A rfl s1 b1⟩
 | turn=>exact pf b1.at_ ⟨rfl,_,⟨rfl,rfl⟩,A,qH V .turn,rfl,b1,λM2 s2 b2=>⟨M2,.refl,q M2 A rfl (s1.trans s2) b2⟩⟩
 | sw b i=>
  have hi:i<V.on.length:=ev;obtain⟨b2,s2⟩:=b1.oH (bs:=V.on.set i b);have es:(V.on.map D.bl).set i (.bl b)=(V.on.set i b).map D.bl:=(mw).symm;have ix:FX (V.on.map D.bl).length (i:Nat)=some i:=by rw[cQ];unfold FX;simp[hi]
  have WN:∃WM,qm WM (pB M1 A.on (.lst ((V.on.map D.bl).set i (.bl b))))/\Q .mI WM:=by rw[es];exact⟨_,.refl,q _ A rfl (s1.trans s2) b2⟩
  cases b with
  | true=>exact⟨oZ rfl,rfl,rfl,pf b1.at_ (i' rfl (i' b1.on (i' ix WN)))⟩
  | false=>exact⟨oZ rfl,rfl,rfl,pf b1.at_ (i' rfl (i' b1.on (i' ix WN)))⟩
 | rings i ps=>obtain⟨k,c,ek,ec,hc⟩:=YQ i ev.1;exact⟨oZ rfl,rfl,rfl,pf b1.at_ (i' rfl (i' b1.ca (i' (rf ek) ⟨A,qH V _,i,k,c,_,_,rfl,⟨b1,ek,ec⟩,(lim.cs c hc).2.1,(lim.cs c hc).2.2,.rings ps,ZW i k c _ _ ek ec rfl rfl⟩)))⟩
 | quiet i=>obtain⟨k,c,ek,ec,hc⟩:=YQ i ev;exact⟨oZ rfl,rfl,rfl,pf b1.at_ (i' rfl (i' b1.ca (i' (rf ek) ⟨A,qH V _,i,k,c,_,_,rfl,⟨b1,ek,ec⟩,(lim.cs c hc).2.1,(lim.cs c hc).2.2,.quiet,ZW i k c _ _ ek ec rfl rfl⟩)))⟩
 | waits i x=>obtain⟨k,c,ek,ec,hc⟩:=YQ i ev;exact⟨oZ rfl,rfl,rfl,pf b1.at_ (i' rfl (i' b1.ca (i' (rf ek) ⟨A,qH V _,i,k,c,_,_,rfl,⟨b1,ek,ec⟩,(lim.cs c hc).2.1,(lim.cs c hc).2.2,.waits x,ZW i k c _ _ ek ec rfl rfl⟩)))⟩
 | talks i ms=>obtain⟨k,c,ek,ec,hc⟩:=YQ i ev.1;exact⟨oZ rfl,rfl,rfl,pf b1.at_ (i' rfl (i' b1.ca (i' (rf ek) ⟨A,qH V _,i,k,c,_,_,rfl,⟨b1,ek,ec⟩,(lim.cs c hc).2.1,(lim.cs c hc).2.2,.talks ms,ZW i k c _ _ ek ec rfl rfl⟩)))⟩
 | held i x=>obtain⟨k,c,ek,ec,hc⟩:=YQ i ev;exact⟨oZ rfl,rfl,rfl,pf b1.at_ (i' rfl (i' b1.ca (i' (rf ek) ⟨A,qH V _,i,k,c,_,_,rfl,⟨b1,ek,ec⟩,(lim.cs c hc).2.1,(lim.cs c hc).2.2,.held x,ZW i k c _ _ ek ec rfl rfl⟩)))⟩
 | leaves i x=>obtain⟨k,c,ek,ec,hc⟩:=YQ i ev;exact⟨oZ rfl,rfl,rfl,pf b1.at_ (i' rfl (i' b1.ca (i' (rf ek) ⟨A,qH V _,i,k,c,_,_,rfl,⟨b1,ek,ec⟩,(lim.cs c hc).2.1,(lim.cs c hc).2.2,.leaves x,ZW i k c _ _ ek ec rfl rfl⟩)))⟩
 | over i w0=>obtain⟨k,c,ek,ec,hc⟩:=YQ i ev;exact⟨oZ rfl,rfl,rfl,pf b1.at_ (i' rfl (i' b1.ca (i' (rf ek) ⟨A,qH V _,i,k,c,_,_,rfl,⟨b1,ek,ec⟩,(lim.cs c hc).2.1,(lim.cs c hc).2.2,.over w0,ZW i k c _ _ ek ec rfl rfl⟩)))⟩
noncomputable def Nt:List Str:=["barred","ring","engaged","left","refused","done","merged"]
def QM(o:Bool)(c:pz):Prop:=(c.st="rings"/\c.ms=[]/\c.hd=none/\c.wd=none/\(o=true->c.at_=[])/\(o=false->c.at_≠[]))\/(o=false/\((c.st="waits"/\c.ms=[]/\c.hd=none/\c.wd=none/\c.at_.length=1)\/(c.st="talks"/\(c.ms.length=2\/c.ms.length=3)/\c.hd=none/\c.wd=none/\c.at_=[])\/
 (∃x,c.st="held"/\c.ms.length=2/\c.hd=some x/\x∈c.ms/\c.wd=none/\c.at_=[])\/(c.st="over"/\c.ms=[]/\c.hd=none/\c.at_=[]/\∃w∈Nt,c.wd=some w)))
structure vO(l:pE)(o:Bool)(c:pz):Prop where
 sh:QM o c
 cr:c.cr∈l.pn
 at_:∀x∈c.at_,x∈l.pn
 ms:∀x∈c.ms,x∈l.pn
 an:c.at_.Nodup
 mn:c.ms.Nodup
 ca:c.cr∉c.at_
 wy:c.way≠[]/\∀z∈c.way,z∈l.nm
def Bb(c:pz)(x:Str):Prop:=c.mZ x=true\/c.mR x=true
structure zp(l:pE)(V:qe)(o:Option Nat):Prop where
 ok:∀(i:Nat) c,V.calls[i]?=some c->vO l (o==some i) c
 un:∀(i j:Nat) ci cj x,V.calls[i]?=some ci->V.calls[j]?=some cj->Bb ci x->Bb cj x->i=j
 ln:∀x∈l.pn,(uS V x:Int)<=wH l x
 wt:∀(i j:Nat) ci cj x,V.calls[i]?=some ci->V.calls[j]?=some cj->ci.mL x=true->cj.mL x=true->i=j
 nx:um l V
abbrev WF(l:pE)(V:qe):Prop:=zp l V none
structure Sz(V:qe)(c n:Nat):Prop where
 lo:V.log.length<=n
 le:V.mT.length<=n
 ca:V.calls.length<=c
 ps:V.ps.length<=n
 cs:∀k∈V.calls,k.way.length<=n/\k.at_.length<=100/\k.ms.length<=100
def Sz.mono{V:qe}{c n c' n':Nat}(h:Sz V c n)(hc:c<=c')(hn:n<=n'):Sz V c' n':=⟨dN h.lo hn,dN h.le hn,dN h.ca hc,dN h.ps hn,λk hk=>⟨dN (h.cs k hk).1 hn,(h.cs k hk).2⟩⟩
noncomputable def Ev.nw:Ev->Nat
 | .new _ _=>1
 | _=>0
def Ly(ps:List (Str×Int))(z:Str)(n:Int):(zZ ps z n).length<=ps.length+1:=by
 unfold zZ;split
 .rw[cQ];omega
 .rw[cT];exact cZ _
def IQ(ss:List Str)(x:Str):(rD ss x).length<=ss.length:=gB _ _
def ES{α:Type}{f:α->α}{l:List α}{i:Nat}{x:α}(h:x∈l.modify i f):x∈l\/∃y∈l,x=f y:=by
 cases e:l[i]? with
 | none=>rw[kE (by simpa using e)]at h;exact .inl h
 | some c=>
  rw[tM e]at h;rcases List.mem_or_eq_of_mem_set h with g|g
  .exact .inl g
  .exact .inr ⟨c,fi e,g⟩
def Sz.step{V:qe}{c n:Nat}{e:Ev}(h:Sz V c n)(ok:e.ok V):Sz (pU V e) (c+e.nw) (n+1):=by
 have h1:Sz (qH V e) c (n+1):=⟨by show(V.log++[e]).length<=n+1;rw[cT];exact h9 h.lo,jn h.le,h.ca,jn h.ps,λk hk=>⟨jn (h.cs k hk).1,(h.cs k hk).2⟩⟩;have md:∀(i:Nat) (f:pz->pz),(∀k∈V.calls,(f k).way=k.way/\(f k).at_.length<=100/\(f k).ms.length<=100)->Sz (xi (qH V e) i f) c (n+1):=λi f hf=>⟨h1.lo,h1.le,by show(V.calls.modify i f).length<=c;rw[eP];exact h.ca,h1.ps,λk hk=>by
  rcases ES hk with g|⟨y,hy,rfl⟩
  .exact h1.cs k g
  .obtain⟨a1,a2,a3⟩:=hf y hy;exact⟨by rw[a1];exact(h1.cs y hy).1,a2,a3⟩⟩
 cases e with
 | new m x=>
  refine⟨h1.lo,h1.le,by show(V.calls++[yV x]).length<=c+1;rw[cT];exact h9 h.ca,h1.ps,λk hk=>?_⟩;rcases dR.mp hk with g|g
  .exact h1.cs k g
  .rw[df.mp g];exact⟨dS _,dS _,dS _⟩
 | leg v=>
  refine⟨h1.lo,by show(V.mT++[v]).length<=n+1;rw[cT];exact h9 h.le,by show(V.calls.modify v.i _).length<=c;rw[eP];exact h.ca,h1.ps,λk hk=>?_⟩;rcases ES (l:=V.calls) hk with g|⟨y,hy,rfl⟩
  .exact h1.cs k g
  .exact⟨by show(y.way++[v.g]).length<=n+1;rw[cT];exact h9 (h.cs y hy).1,(h.cs y hy).2⟩
 | asks i z ns=>exact h1
 | next z m=>exact⟨h1.lo,h1.le,h1.ca,dN (Ly _ _ _) (h9 h.ps),h1.cs⟩
 | merge i j ms=>
  have m1:=md i (·.over "merged") λk hk=>⟨rfl,dS _,dS _⟩;refine⟨h1.lo,by show(V.mT.map _).length<=n+1;rw[cQ];exact h1.le,by show((V.calls.modify i _).modify j _).length<=c;rw[eP,eP];exact h.ca,h1.ps,λk hk=>?_⟩;rcases ES (l:=V.calls.modify i (·.over "merged")) hk with g|⟨y,hy,rfl⟩
  .exact m1.cs k g
  .exact⟨(m1.cs y hy).1,(m1.cs y hy).2.1,ok.2.2.2⟩
 | turn=>
  refine⟨h1.lo,h1.le,by show(V.calls.map pz.tick).length<=c;rw[cQ];exact h.ca,h1.ps,λk hk=>?_⟩;obtain⟨y,hy,rfl⟩:=dw.mp hk;have e:y.tick.way=y.way/\y.tick.at_=y.at_/\y.tick.ms=y.ms:=by unfold pz.tick;split<;>exact⟨rfl,rfl,rfl⟩
  rw[e.1,e.2.1,e.2.2];exact h1.cs y hy
 | sw b i=>exact⟨h1.lo,h1.le,h1.ca,h1.ps,h1.cs⟩
 | rings i ps=>exact md i _ λk hk=>⟨rfl,ok.2,(h.cs k hk).2.2⟩
 | quiet i=>exact md i _ λk hk=>⟨rfl,dS _,(h.cs k hk).2.2⟩
 | waits i x=>exact md i _ λk hk=>⟨rfl,by show 1<=100;decide,(h.cs k hk).2.2⟩
 | talks i ms=>exact md i _ λk hk=>⟨rfl,dS _,ok.2⟩
 | held i x=>exact md i _ λk hk=>⟨rfl,(h.cs k hk).2.1,(h.cs k hk).2.2⟩
 | leaves i x=>exact md i _ λk hk=>⟨rfl,dN (IQ _ _) (h.cs k hk).2.1,dN (IQ _ _) (h.cs k hk).2.2⟩
 | over i w=>exact md i _ λk hk=>⟨rfl,dS _,dS _⟩
def Pp(V:qe)(e:Ev):(pU V e).fo=V.fo:=by cases e<;>rfl
def RL(V:qe)(e:Ev):(pU V e).p=V.p/\(pU V e).h=V.h/\(pU V e).on.length=V.on.length:=by cases e<;>first|exact⟨rfl,rfl,rfl⟩|exact⟨rfl,rfl,ii⟩
structure ub(a:Ad)(M0 M:Mp)(b:Addr)(A:sZ)(V:qe)(l:pE)(c n:Nat):Prop where
 bd:pJ a M A V
 oW:sT a M0 V.p l
 s0:qm M0 M
 fr:∀x∈A.foot,M0 x=none
 b:A.b=b
 sz:Sz V c n
 ok:qY l
 on:V.on.length=l.mF.length
variable {M0:Mp}{b:Addr}{A':sZ}{V':qe}{l:pE}{n:Nat}
section
variable {c:Nat}
def ub.at_(h:ub a M0 M b A V l c n):M b=some (.ins a.c (tP (.ref V.p) V.h V.t A.ca A.le A.nx A.on A.lo)):=h.b ▸ h.bd.at_
def ub.sub(h:ub a M0 M b A V l c n)(s:qm M M'):ub a M0 M' b A V l c n:=⟨h.bd.sub s,h.oW,h.s0.trans s,h.fr,h.b,h.sz,h.ok,h.on⟩
def ub.pl(h:ub a M0 M b A V l c n):sT a M V.p l:=h.oW.sub h.s0
def ub.mono(h:ub a M0 M b A V l c n){c' n':Nat}(hc:c<=c')(hn:n<=n'):ub a M0 M b A V l c' n':=⟨h.bd,h.oW,h.s0,h.fr,h.b,h.sz.mono hc hn,h.ok,h.on⟩
def ub.lim(h:ub a M0 M b A V l c n)(hc:c<=1000000)(hn:n<9000000):Wd V:=⟨iy h.sz.lo (by omega),iy h.sz.le (by omega),dN h.sz.ca hc,iy h.sz.ps (by omega),λk hk=>⟨iy (h.sz.cs k hk).1 (by omega),(h.sz.cs k hk).2⟩⟩
def ub.rd(h:ub a M0 M b A V l c n)(hc:c<=1000000){o:Option Nat}(wf:zp l V o):Rd a M A V l:=⟨h.bd,dN h.sz.ca hc,h.pl,h.ok,h.on,λk hk=>by
 obtain⟨i,hi,e⟩:=gL hk;exact⟨(wf.ok i k (by rw[cU hi,e])).ms,(h.sz.cs k hk).2.2⟩⟩
def ub.call(h:ub a M0 M b A V l c n){i:Nat}{v:pz}(e:V.calls[i]?=some v):∃k,CI a M A V i k v:=by
 have hi:i<A.cs.length:=by rw[h.bd.len];exact(cS.mp e).1
 exact⟨A.cs[i],h.bd,cU hi,e⟩
def ub.after(h:ub a M0 M b A V l c n){e:Ev}(ok:e.ok V)(eb:A'.b=A.b)(st:qM A M A' M')(bd:pJ a M' A' (pU V e)):ub a M0 M' b A' (pU V e) l (c+e.nw) (n+1):=by
 obtain⟨p1,p2,p3⟩:=RL V e;refine⟨bd,p1 ▸ h.oW,λx d hx=>st.1 x d (λz=>?_) (h.s0 x d hx),λx hx=>?_,eb.trans h.b,h.sz.step ok,h.ok,p3.trans h.on⟩
 .rw[h.fr x z]at hx;cases hx
 .rcases st.2.1 x hx with z|z
  .exact h.fr x z
  .exact h.s0.none z
end
def GY(l:pE)(V:qe)(c:Str):vn->Prop
 | .rings z ps=>z∈l.nm/\ps≠[]/\ps=xt l V c z
 | .breaks z=>∃x,x=c/\HQ l V x c z=true
 | .waits z=>z∈l.pn/\z≠c/\Au V z=false
 | .ring ns=>ns≠[]
 | _=>True
def FR{l:pE}{V:qe}{c z:Str}:(∀x∈xt l V c z,x∈ug l V c z/\x∈l.mE z)/\(xt l V c z).length<=(l.mE z).length:=by
 have hr:∀x∈ug l V c z,x∈l.mE z:=λx hx=>(fE.mp hx).1;unfold xt;split
 .refine⟨λx hx=>?_,?_⟩
  .have hx:=(fE.mp (km hx)).2;have hx:=qP.mp hx;exact⟨hx,hr x hx⟩
  .cases e:(uR (l.mE z) (y0 V z)).filter λx=>hasS (ug l V c z) x with
   | nil=>exact dS _
   | cons y r=>
    have hy:y∈uR (l.mE z) (y0 V z):=(fE.mp (by rw[e];exact dC)).1;have hy:y∈l.mE z:=by
     unfold uR at hy;rcases dR.mp hy with q|q
     .exact ko q
     .exact km q
    rw[fK];have:=List.length_pos_of_mem hy;omega
 .exact⟨λx hx=>⟨hx,hr x hx⟩,gB _ _⟩
def NN{l:pE}{V:qe}{c z:Str}(hz:z∈l.nm):GY l V c (HE l V c z):=by
 unfold HE;split
 .trivial
 .rename_i x r e;exact⟨hz,ft _ _,e.symm⟩
structure wG(l:pE)(V:qe)(c:Str)(n:Nat)(st:sU)(r:vn×sU):Prop where
 e:GY l V c r.1
 len:r.2.length<=st.length+n
 nm:∀s∈r.2,s∈st\/s.1∈l.nm
 wy:∀ns,r.1=.ring ns->∀z∈ns,z∈l.nm
theorem xD{l:pE}{V:qe}{c:Str}(ok:qY l):∀(n:Nat) (z:Str) (way:List Str) (st:sU),z∈l.nm->(∀x∈way,x∈l.nm)->wG l V c n st (wB l V c n z way st)
 | 0,z,way,st,_,_=>⟨trivial,cZ _,λs hs=>.inl hs,λns h=>by cases h⟩
 | n+1,z,way,st,hz,hw=>by
  unfold wB;by_cases h:hasS way z=true
  .rw[cX h];refine⟨?_,by show st.length<=_;omega,λs hs=>.inl hs,λns e y hy=>?_⟩
   .have h1:way.findIdx (·==z)<way.length:=List.findIdx_lt_length_of_exists ⟨z,qP.mp h,fC z⟩;show way.drop _≠[];intro g;have:=eG List.length g;rw[gv]at this;simp only[dE]at this;omega
   .cases e;exact hw y (ko hy)
  rw[cV h];have sn:∀(fs:List Nat),∀s∈st++[(z,fs)],s∈st\/s.1∈l.nm:=λfs s hs=>by
   rcases dR.mp hs with g|g
   .exact .inl g
   .rw[df.mp g];exact .inr hz
  have sl:∀fs:List Nat,(st++[(z,fs)]).length=st.length+1:=λfs=>by rw[cT];rfl
  cases hf:DM l V c z with
  | nil=>refine⟨NN hz,by show(st++[(z,[])]).length<=_;rw[sl];omega,sn [],λns e=>?_⟩;have e:HE l V c z=.ring ns:=e;unfold HE at e;split at e<;>cases e
  | cons i r=>
   obtain⟨w,ew,Xh⟩:=Fd (l:=l) (V:=V) (f:=AS l V c z) (i:=i) (by show i∈DM l V c z;rw[hf];exact dC);dsimp only;rw[ew];dsimp only[Option.elim];have stop:∀e:vn,GY l V c e->(∀ns,e≠.ring ns)->wG l V c (n+1) st (e,st++[(z,i::r)]):=λe he W8=>⟨he,by show(st++[(z,i::r)]).length<=_;rw[sl];omega,sn _,λns g=>absurd g (W8 ns)⟩
   have Y3:∀y,Jg z w.2=.inr y->wG l V c (n+1) st (wB l V c n y (way++[z]) (st++[(z,i::r)])):=λy hy=>by
    have hr:=xD (V:=V) (c:=c) ok n y (way++[z]) (st++[(z,i::r)]) (BJ ok (qS ew) hy) λx hx=>by
     rcases dR.mp hx with g|g
     .exact hw x g
     .rw[df.mp g];exact hz
    refine⟨hr.e,by have:=hr.len;rw[sl]at this;omega,λs hs=>?_,hr.wy⟩;rcases hr.nm s hs with g|g
    .exact sn _ s g
    .exact .inr g
   cases hv:w.2 with
   | bar x ns=>exact stop _ trivial λns g=>by cases g
   | shut x ns=>exact stop _ trivial λns g=>by cases g
   | wait x=>
    rw[hv]at Xh;have hf2:(if (!(z==x)||(c==x))=true then false else xH l V c z&&!(Au V z))=true:=Xh;have hx:xq l.pn x:=by have:=ok.wo w (qS ew);rw[hv]at this;exact this
    by_cases g:(!(z==x)||(c==x))=true
    .rw[cX g]at hf2;cases hf2
    rw[cV g]at hf2;simp only[gP,gD,fH,jo,dO]at g hf2;have ezx:=eq_of_beq g.1;subst ezx;exact stop _ ⟨qP.mp hx,λy=>g.2 (by rw[y];exact fC _),hf2.2⟩ λns g=>by cases g
   | breaks x=>
    rw[hv]at Xh;refine stop _ ⟨x,?_,?_⟩ λns g=>by cases g
    .have Xh:HQ l V x c z=true:=Xh;unfold HQ at Xh;by_cases g:(!(c==x)||(z==x))=true
     .rw[cX g]at Xh;cases Xh
     .simp only[gP,gD,fH,jo]at g;exact(eq_of_beq g.1).symm
    .exact Xh
   | always x y=>exact Y3 y (by rw[hv];rfl)
   | night x y f m=>exact Y3 y (by rw[hv];rfl)
   | busy x y=>exact Y3 y (by rw[hv];rfl)
   | silent x y m=>exact Y3 y (by rw[hv];rfl)
def GN{l:pE}{V:qe}{x c z:Str}(h:HQ l V x c z=true):∃j k,vC V z=some j/\V.calls[j]?=some k/\k.st="talks"/\z∈k.ms/\k.ms.length=2/\z≠c:=by
 unfold HQ at h;by_cases g:(!(c==x)||(z==x))=true
 .rw[cX g]at h;cases h
 rw[cV g]at h;simp only[gP,gD,fH,jo]at g;by_cases g2:(!(hasS l.pn z)||!(xH l V c z))=true
 .rw[cX g2]at h;cases h
 rw[cV g2]at h;cases e:vC V z with
 | none=>rw[e]at h;cases h
 | some j=>obtain⟨hj,ht,_⟩:=iG.mp e;rw[e]at h;have h:((V.calls[j]?).elim false λk=>(k.ms.length==2)&&HZ l x k.ms)=true:=h;rw[cU hj]at h;have h:((V.calls[j].ms.length==2)&&HZ l x V.calls[j].ms)=true:=h;unfold pz.mS at ht;rw[dO]at h ht;refine⟨j,V.calls[j],rfl,cU hj,eq_of_beq ht.1,qP.mp ht.2,eq_of_beq h.1,λy=>?_⟩;rw[y]at g;have:=eq_of_beq g.1;rw[this,fC]at g;exact absurd rfl g.2
noncomputable def pz.bare(c:pz):pz:={c with way:=[]}
def tN(V V':qe):Prop:=V'.calls.map pz.bare=V.calls.map pz.bare
def tN.at_{V V':qe}(h:tN V V'){i:Nat}{c:pz}(e:V.calls[i]?=some c):∃c',V'.calls[i]?=some c'/\c'.bare=c.bare:=by
 have:=eG (·[i]?) h;simp only[dq,e]at this;cases e':V'.calls[i]? with
 | none=>rw[e']at this;cases this
 | some c'=>rw[e']at this;exact⟨c',rfl,c9 this⟩
def za(f:pz->Bool)(hf:∀c,f c.bare=f c)(cs:List pz):(cs.map pz.bare).findIdx? f=cs.findIdx? f:=by rw[gX];congr 1;funext c;exact hf c
def tN.nA{V V':qe}(h:tN V V')(z:Str):vC V' z=vC V z:=by unfold vC;rw[<-za _ (λ_=>rfl) V'.calls,h,za _ (λ_=>rfl)]
def tN.ends{l:pE}{V V':qe}(h:tN V V')(i:Nat)(e:vn):sC l V' i e=sC l V i e:=by
 cases e with
 | breaks z=>
  unfold sC;dsimp only;rw[h.nA];have key:∀j:Nat,(V'.calls[j]?).map pz.bare=(V.calls[j]?).map pz.bare:=λj=>by
   have:=eG (·[j]?) h
   simpa only [dq]using this
  have ki:=key i;cases vC V z with
  | none=>rfl
  | some j=>
   have kj:=key j;cases e1:V.calls[i]? with
   | none=>rw[e1]at ki;rw[show V'.calls[i]?=none by cases q:V'.calls[i]? with|none=>rfl|some _=>rw[q]at ki;cases ki]
   | some c=>
    rw[e1]at ki;cases e2:V'.calls[i]? with
    | none=>rw[e2]at ki;cases ki
    | some c'=>
     rw[e2]at ki;have k1:c'.cr=c.cr:=by have kb:c'.bare=c.bare:=c9 ki;exact show c'.bare.cr=c.bare.cr by rw[kb]
     have k2:(V'.calls[j]?).elim [] pz.ms=(V.calls[j]?).elim [] pz.ms:=by
      cases e3:V.calls[j]? with
      | none=>rw[e3]at kj;rw[show V'.calls[j]?=none by cases q:V'.calls[j]? with|none=>rfl|some _=>rw[q]at kj;cases kj]
      | some d=>
       rw[e3]at kj;cases e4:V'.calls[j]? with
       | none=>rw[e4]at kj;cases kj
       | some d'=>rw[e4]at kj;exact show d'.bare.ms=d.bare.ms by rw[show d'.bare=d.bare from c9 kj]
     dsimp only;rw[k1,k2]
 | _=>rfl
def tN.trans{V V1 V2:qe}(h:tN V V1)(g:tN V1 V2):tN V V2:=Eq.trans g h
def zc(V:qe)(v:rK):tN V (pU V (.leg v)):=by
 show(V.calls.modify v.i (·.go v.g)).map pz.bare=V.calls.map pz.bare;cases e:V.calls[v.i]? with
 | none=>rw[kE (by simpa using e)]
 | some c=>rw[tM e,mw,show(c.go v.g).bare=c.bare from rfl,Hc (by rw[dq,e];rfl)]
def Dp(V:qe)(i:Nat)(z:Str)(ns:List Nat):tN V (pU V (.asks i z ns)):=rfl
def tN.len{V V':qe}(h:tN V V'):V'.calls.length=V.calls.length:=by
 have:=eG List.length h
 rwa [cQ,cQ]at this
noncomputable def Gj:Option Str->sU->Option Str
 | o,[]=>o
 | _,(z,_)::r=>Gj (some z) r
noncomputable def Te(i:Nat)(z:Str)(fs:List Nat):Option Str->List Ev
 | none=>[.asks i z fs]
 | some y=>[.leg ⟨i,y,z,y⟩,.asks i z fs]
theorem yw(i:Nat)(z:Str)(fs:List Nat):∀(st:sU) (o:Option Str),rh i o (st++[(z,fs)])=rh i o st++Te i z fs (Gj o st)
 | [],none=>rfl
 | [],some _=>rfl
 | (y,gs)::r,none=>by show .asks i y gs::rh i (some y) (r++[(z,fs)])=_;rw[yw i z fs r];rfl
 | (y,gs)::r,some u=>by show .leg ⟨i,u,y,u⟩::.asks i y gs::rh i (some y) (r++[(z,fs)])=_;rw[yw i z fs r];rfl
theorem CB(z:Str)(fs:List Nat):∀(st:sU) (o:Option Str),Gj o (st++[(z,fs)])=some z
 | [],_=>rfl
 | _::r,_=>CB z fs r _
theorem uE(i:Nat):∀(st:sU) (o:Option Str) (V:qe),tN V (qk V (rh i o st))
 | [],_,V=>rfl
 | (y,gs)::r,none,V=>(Dp V i y gs).trans (uE i r (some y) _)
 | (y,gs)::r,some u,V=>((zc V ⟨i,u,y,u⟩).trans (Dp _ i y gs)).trans (uE i r (some y) _)
def PJ(a:Ad):rb:=λds M Q=>Mu λM0 b A V l c n i st r=>ds=[.ref b,.int ((i:Nat):Int),.ref r]/\ub a M0 M b A V l c n/\c<=1000000/\n<=8000000/\st.length<=100/\i<V.calls.length/\oS M r=some (rg st)/\r∉A.foot/\∀M' A',ub a M0 M' b A' (qk V (rh i none st)) l c (n+2*st.length)->qM A M A' M'->Q .mI M'
def LX(a:Ad):rb:=λds M Q=>Mu λM0 b A V l c n i z ps=>ds=[.ref b,.int ((i:Nat):Int),.str z,names ps]/\ub a M0 M b A V l c n/\c<=1000000/\n<=8000000/\i<V.calls.length/\z∈l.nm/\ps≠[]/\(∀x∈ps,x∈l.mE z)/\ps.length<=100/\∀M' A',ub a M0 M' b A' (qk V (sC l V i (.rings z ps))) l c (n+2)->qM A M A' M'->Q .mI M'
def DJ(l:pE)(V:qe)(i:Nat):vn->Prop
 | .rings z ps=>z∈l.nm/\ps≠[]/\(∀x∈ps,x∈l.mE z)/\ps.length<=100
 | .breaks z=>∃j k,vC V z=some j/\V.calls[j]?=some k/\i≠j/\k.ms.length=2
 | _=>True
def Mo(a:Ad):rb:=λds M Q=>UJ λM0 b A V l c n i z=>ds=[.ref b,.int ((i:Nat):Int),.str z]/\ub a M0 M b A V l c n/\c<=1000000/\n<=8000000/\i<V.calls.length/\DJ l V i (.breaks z)/\∀M' A',ub a M0 M' b A' (qk V (sC l V i (.breaks z))) l c (n+2)->qM A M A' M'->Q .mI M'
def Jw(a:Ad):rb:=λds M Q=>UJ λM0 b A V l c n i e=>ds=[.ref b,.int ((i:Nat):Int),vn.d e]/\ub a M0 M b A V l c n/\c<=1000000/\n<=8000000/\i<V.calls.length/\DJ l V i e/\∀M' A',ub a M0 M' b A' (qk V (sC l V i e)) l c (n+2)->qM A M A' M'->Q .mI M'
def Qe(a:Ad):rb:=λds M Q=>UJ λM0 b A V l c n i k=>ds=[.ref b,.int ((i:Nat):Int)]/\ub a M0 M b A V l c n/\c<=1000000/\n<=7000000/\zp l V (some i)/\V.calls[i]?=some k/\∀M' A',ub a M0 M' b A' (qk V (vF l V i)) l c (n+30)->qM A M A' M'->Q .mI M'
def MJ(a:Ad):rb:=λds M Q=>UJ λM0 b A V l c n y z=>ds=[.ref b,.str y,.str z]/\ub a M0 M b A V l c n/\c<1000000/\n<=6000000/\zp l (qk V [.new V.calls.length y,.leg ⟨V.calls.length,y,z,y⟩]) (some V.calls.length)/\∀M' A',ub a M0 M' b A' (qk V (FK l V y z)) l (c+1) (n+32)->qM A M A' M'->Q .mI M'
def Md{st:sU}{pre post:List D}{d:D}(e:pre++d::post=rg st):∃z fs,st[pre.length]?=some (z,fs)/\d=.tup [.str z,vY fs]/\st.take (pre.length+1)=st.take pre.length++[(z,fs)]:=by
 have h:(rg st)[pre.length]?=some d:=by rw[<-e];simp
 unfold rg at h;rw[dq]at h;cases q:st[pre.length]? with
 | none=>rw[q]at h;cases h
 | some s=>rw[q]at h;refine⟨s.1,s.2,rfl,(c9 h).symm,?_⟩;rw[gU,q];rfl
noncomputable def V4:Option Str->D
 | none=>.mI
 | some x=>.str x
def Pa{ss:List Str}{x:Str}(h:ss.getLast?=some x):wn (ss.map D.str) (-1)=some (.str x):=by
 have hp:0<ss.length:=by cases ss with|nil=>cases h|cons _ _=>exact mx _
 unfold wn;have e:FX (ss.map D.str).length (-1)=some (ss.length - 1):=by
  rw[cQ];unfold FX;have:¬((-1:Int)>=0):=by decide
  simp;omega
 rw[e];show(ss.map D.str)[ss.length - 1]?=_;rw[dq,<-jt,h];rfl
def Ls(ds:List D):L3.uM ds none (some (-1:Int))=ds.dropLast:=by
 unfold L3.uM;have e:HT.sY ds.length ds.length (some (-1:Int))=ds.length - 1:=by show(if (-1:Int)<0 then((-1:Int)+(ds.length:Int)).toNat else min (-1:Int).toNat ds.length)=ds.length - 1;rw[cX (by decide)];omega
 rw[e,HT.Bv,j6,kP,List.dropLast_eq_take]
def PY(G:Gl K mg a):Fq P w K mg base 4 a.a4 (PJ a):=by
 refine fq G.a4.toDG tU (λr u=>⟨_,(pb (pK 3 tU rQ)
 (pj (uk eW rfl (qC U2) (uL (n:=2) rfl (qB (rW 4 tU) (qB (rW 5 tU) tZ)))
 (pb (pP (pG u U3 rQ)
 (pj (pL (pT v0 G.c.toCls G.k (qK G) r (qb (pM (pX pq (pX U1 (ra U3 v4 U3))))))))
 pH)
 (pb (pL (pT v0 G.c.toCls G.k (qK G) r (qb (pM (pX pq (ra U1 v4 v5))))))
 (pj (pK 3 tU v4))))))),?_⟩)
 rintro ds M Q ⟨M0,b,A,V,l,c,n,i,st,r,rfl,cu,hc,hn,W7,hi,lr,nf,q⟩
 refine i' lr (vk (rg st) (λpre δ M'=>(∃A',ub a M0 M' b A' (qk V (rh i none (st.take pre.length))) l c (n+2*pre.length)/\qM A M A' M')/\∃y4 y5,δ=[some (.ref b),some (.int ((i:Nat):Int)),some (.ref r),some (V4 (Gj none (st.take pre.length))),y4,y5]) (λpre δ M' j=>?_) _ [] _ _ rfl ⟨⟨A,cu,.refl⟩,none,none,rfl⟩ ?_ ?_)
 .obtain⟨⟨A',c1,Xd⟩,_⟩:=j;exact rG (Xd.1 r _ nf (pR lr))
 .rintro pre d post e δ M' ⟨⟨A',c1,Xd⟩,y4,y5,rfl⟩ nx WU
  obtain⟨z,fs,es,rfl,et⟩:=Md e;have hp:pre.length<100:=dJ (cS.mp es).1 W7;rw[cT,dG,et,yw,CB]at WU;have len:∀es,tN V (qk V es)->i<(qk V es).calls.length:=λes h=>by rw[h.len];exact hi
  have Xx:=len _ (uE i (st.take pre.length) none V);generalize hV:qk V (rh i none (st.take pre.length))=V1 at c1 Xx;rw[qT,hV]at WU;refine⟨rfl,?_⟩;dsimp only[ue,Ff,MK];have asks:∀(M2:Mp) (A2:sZ) (V2:qe) (m:Nat) (y3:Option D),m<9000000->ub a M0 M2 b A2 V2 l c m->qM A M A2 M2->(∀M3 A3,ub a M0 M3 b A3 (pU V2 (.asks i z fs)) l c (m+1)->qM A M A3 M3->nx [some (.ref b),some (.int ((i:Nat):Int)),some (.ref r),some (.str z),some (.str z),some (vY fs)] M3)->zJ (M2 b) λC fs'=>fs'.lookup ("apply":Str)=none/\∃sp,(C=a.c/\sp=vQ a)/\4<=sizeLine/\sp [.ref b,.tup [.str "asks",.int ((i:Nat):Int),.str z,vY fs]] M2 λ_ M3=>nx [some (.ref b),some (.int ((i:Nat):Int)),some (.ref r),some (.str z),some (.str z),some (vY fs)] M3:=λM2 A2 V2 m y3 hm c2 s2 k=>pf c2.at_ ⟨rfl,_,⟨rfl,rfl⟩,by rw[dF];decide,b,A2,V2,.asks i z fs,rfl,c2.b,c2.bd,c2.lim hc hm,trivial,λM3 A3 eb s3 bd=>k M3 A3 (c2.after trivial eb s3 bd) (s2.trans s3)⟩;cases hl:Gj none (st.take pre.length)with
  | none=>rw[hl]at WU;refine asks M' A' V1 _ none (by omega) c1 Xd λM3 A3 c3 s3=>WU _ _ ⟨⟨A3,c3.mono (cZ _) (by omega),s3⟩,_,_,rfl⟩
  | some y=>rw[hl]at WU;refine pf c1.at_ ⟨rfl,_,⟨rfl,rfl⟩,oZ rfl,b,A',V1,.leg ⟨i,y,z,y⟩,rfl,c1.b,c1.bd,c1.lim hc (by omega),Xx,λM2 A2 eb s2 bd=>?_⟩;have c2:=c1.after (e:=.leg ⟨i,y,z,y⟩) Xx eb s2 bd;refine asks M2 A2 _ _ none (by omega) c2 (Xd.trans s2) λM3 A3 c3 s3=>WU _ _ ⟨⟨A3,c3.mono (cZ _) (by omega),s3⟩,_,_,rfl⟩
 .rintro δ M' ⟨⟨A',c1,Xd⟩,_⟩
  have hl:(rg st).length=st.length:=by unfold rg;rw[cQ]
  rw[hl,e9]at c1;exact⟨M',.refl,q M' A' c1 Xd⟩
def K4(G:Gl K mg a):Fq P w K mg base 4 a.a5 (LX a):=by
 refine fq G.a5.toDG uB (λr u=>⟨_,(pb (pP (pG u (pT (pA v0) G.h.toCls G.aL (xA G) r (qb U2)) pq)
 (pb (pK 4 uB (pT (pA v0) G.h.toCls G.aa (uq G) r (qb U2)))
 (pb (pK 5 uB (pV (pV (xI v4 (qb (pI U3 pk))) pk) (pQ qu rfl G.g qp (qb v4))))
 (pj (pL (pT v0 G.c.toCls G.k (qK G) r (qb (pM (ra pq U2 v5))))))))
 pH)
 (pj (pL (pT v0 G.c.toCls G.k (qK G) r (qb (pM (ra pq U1 U3))))))),?_⟩)
 rintro ds M Q ⟨M0,b,A,V,l,c,n,i,z,ps,rfl,cu,hc,hn,hi,hz,W8,hm,YK,q⟩
 obtain⟨ph,gr,ws,X6,pr,gd,rs,i1,_⟩:=cu.pl;have pl:=cu.pl;obtain⟨x,ps',rfl⟩:=fZ W8;obtain⟨⟨pne,_⟩,_⟩:=cu.ok.of hz;refine Qy (t:=RH _ _ _) (λδ M'=>(∃A',ub a M0 M' b A' (qk V (if (l.mM z=="turns")=true then[.next z (Qx (l.mE z) x)]else[])) l c (n+1)/\qM A M A' M')/\∃y1 y2,δ=[some (.ref b),some (.int ((i:Nat):Int)),some (.str z),some (names (x::ps')),y1,y2]) (λnx h=>?_) ?_
 .refine pf cu.at_ (i' rfl (pf i1 ⟨rfl,_,⟨rfl,rfl⟩,V.p,z,l,rfl,pl,?_⟩));refine qF (c:=l.mM z=="turns") (λg=>?_) (λg=>?_)
  .rw[cX g]at h;refine pf cu.at_ (i' rfl (pf i1 ⟨rfl,_,⟨rfl,rfl⟩,V.p,z,l,rfl,pl,λp hp=>?_⟩));have t:=qm.new (c:=.lst ((l.mE z).map D.str)) hp;have lp:=@pC M p ((l.mE z).map D.str);have Zr:=cu.sub t;have st0:qM A M A (pB M p (.lst ((l.mE z).map D.str))):=.sub t;generalize pB M p (.lst ((l.mE z).map D.str))=M1 at t lp Zr st0 ⊢;have ej:=Ei x (l.mE z) (hm x dC);have lpos:0<(l.mE z).length:=fu.mpr pne;have el:(((l.mE z).map D.str).length:Int)=(l.mE z).length:=by rw[cQ]
   refine⟨by show(oS M1 p).isSome=true;rw[lp];rfl,i' (yZ _ _) (i' lp ⟨rfl,qx _,i' ej (i' lp ⟨by rw[el];omega,?_⟩)⟩)⟩;rw[el];refine pf Zr.at_ ⟨rfl,_,⟨rfl,rfl⟩,oZ rfl,b,A,V,.next z (Qx (l.mE z) x),rfl,Zr.b,Zr.bd,Zr.lim hc (by omega),trivial,λM2 A2 eb st XQ=>?_⟩;exact h _ _ ⟨⟨A2,Zr.after (e:=.next z (Qx (l.mE z) x)) trivial eb st XQ,st0.trans st⟩,_,_,rfl⟩
  .rw[cV g]at h;exact h _ _ ⟨⟨A,cu.mono (cZ _) (by omega),.refl⟩,_,_,rfl⟩
 rintro δ M1 ⟨⟨A1,c1,Xd⟩,y1,y2,rfl⟩
 have q:∀M' A',ub a M0 M' b A' (qk V ((if (l.mM z=="turns")=true then[.next z (Qx (l.mE z) x)]else[])++[.rings i (x::ps')])) l c (n+2)->qM A M A' M'->Q .mI M':=q;rw[qT]at q;have Xx:i<(qk V (if (l.mM z=="turns")=true then[.next z (Qx (l.mE z) x)]else[])).calls.length:=by
  split
  .exact hi
  .exact hi
 generalize qk V (if (l.mM z=="turns")=true then[.next z (Qx (l.mE z) x)]else[])=V1 at c1 q Xx;refine pf c1.at_ ⟨rfl,_,⟨rfl,rfl⟩,oZ rfl,b,A1,V1,.rings i (x::ps'),rfl,c1.b,c1.bd,c1.lim hc (by omega),⟨Xx,YK⟩,λM2 A2 eb WZ XQ=>?_⟩;exact⟨M2,.refl,q M2 A2 (c1.after (e:=.rings i (x::ps')) ⟨Xx,YK⟩ eb WZ XQ) (Xd.trans WZ)⟩
def K3(G:Gl K mg a):Fq P w K mg base 4 a.a6 (Mo a):=by
 refine fq G.a6.toDG xo (λr u=>⟨_,(pb (pK 3 xo (pT v0 G.c.toCls G.Y (yx G) r (qb U2)))
 (pb (pK 4 xo (pV (pW sj rfl G.z sf (qb (pA (pI (pA v0) U3)))) (pM (qb (pA (pI (pA v0) U1))))))
 (pj (pL (pT v0 G.c.toCls G.k (qK G) r (qb (pM (pX pq (ra U1 U3 v4))))))))),?_⟩)
 rintro ds M Q ⟨M0,b,A,V,l,c,n,i,z,rfl,cu,hc,hn,hi,⟨j,k,ej,ek,XH,YO⟩,q⟩
 have hz:=dF;have ei:V.calls[i]?=some V.calls[i]:=cU hi;generalize V.calls[i]=ci at ei;obtain⟨ka,qi⟩:=cu.call ei;obtain⟨kb,qj⟩:=cu.call ek;obtain⟨ad,md,h1,h2,h3,h4,_⟩:=qi.cell;obtain⟨ad',md',g1,g2,g3,g4,_⟩:=qj.cell;have ZX:sC l V i (.breaks z)=[.merge i j (k.ms++[ci.cr])]:=by unfold sC;dsimp only;rw[ej,ei];dsimp only;rw[ek];rfl
 rw[ZX]at q;have ok:(Ev.merge i j (k.ms++[ci.cr])).ok V:=⟨hi,(cS.mp ek).1,XH,by rw[cT,YO];show 3<=100;decide⟩;refine pf cu.at_ ⟨rfl,_,⟨rfl,rfl⟩,A,V,z,by rw[cu.b],cu.bd,dN cu.sz.ca hc,?_⟩;rw[show Ak V z=.int (j:Nat)from by unfold Ak;rw[ej];rfl];refine pf cu.at_ (i' rfl (i' rfl (i' cu.bd.ca (i' (rf qj.e1) (pf g1 (i' rfl (i' g4 ?_)))))));refine pf cu.at_ (i' rfl (i' rfl (i' cu.bd.ca (i' (rf qi.e1) (pf h1 (i' rfl ⟨oZ rfl,?_⟩))))));refine⟨(by intro y;rw[List.map_eq_nil_iff]at y;rw[y]at YO;cases YO),(by rw[cQ,YO];show 2+1<=sizeLine;omega),?_⟩;rw[show k.ms.map D.str++[D.str ci.cr]=(k.ms++[ci.cr]).map D.str by rw[dH];rfl];refine pf cu.at_ ⟨rfl,_,⟨rfl,rfl⟩,oZ rfl,b,A,V,.merge i j (k.ms++[ci.cr]),rfl,cu.b,cu.bd,cu.lim hc (by omega),ok,λM2 A2 eb WZ XQ=>?_⟩;exact⟨M2,.refl,q M2 A2 ((cu.after ok eb WZ XQ).mono (cZ _) (by omega)) WZ⟩
def Qb(G:Gl K mg a):Fq P w K mg base 5 a.a7 (Jw a):=by
 refine fq G.a7.toDG xO (λr u=>⟨_,(pb (pK 3 xO (pI U2 pk))
 (pj (pP (pG u U3 pq)
 (pj (pL (pF (K4 G) r G.a5 (pX v0 (ra U1 (pI U2 pk) (pI U2 pk))))))
 (pj (pP (pG u U3 pq)
 (pj (pL (pT v0 G.c.toCls G.k (qK G) r (qb (pM (ra pq U1 (pI U2 pk)))))))
 (pj (pP (pG u U3 pq)
 (pj (pL (pF (K3 G) r G.a6 (ra v0 U1 (pI U2 pk)))))
 (pj (pL (pT v0 G.c.toCls G.k (qK G) r (qb (pM (ra pq U1 U3))))))))))))),?_⟩)
 rintro ds M Q ⟨M0,b,A,V,l,c,n,i,e,rfl,cu,hc,hn,hi,he,q⟩
 have one:∀(ev:Ev) (ok:ev.ok V),ev.nw=0->sC l V i e=[ev]->∀M2 A2,A2.b=A.b->qM A M A2 M2->pJ a M2 A2 (pU V ev)->∃WM,qm WM M2/\Q .mI WM:=λev ok h0 h1 M2 A2 eb WZ XQ=>by rw[h1]at q;have c2:=cu.after ok eb WZ XQ;rw[h0]at c2;exact⟨M2,.refl,q M2 A2 (c2.mono (cZ _) (by omega)) WZ⟩
 cases e with
 | rings z ps=>exact⟨M0,b,A,V,l,c,n,i,z,ps,rfl,cu,hc,hn,hi,he.1,he.2.1,he.2.2.1,he.2.2.2,λM' A' c1 st=>⟨M',.refl,q M' A' c1 st⟩⟩
 | waits z=>exact pf cu.at_ ⟨rfl,_,⟨rfl,rfl⟩,oZ rfl,b,A,V,.waits i z,rfl,cu.b,cu.bd,cu.lim hc (by omega),hi,one (.waits i z) hi rfl rfl⟩
 | breaks z=>exact⟨M0,b,A,V,l,c,n,i,z,rfl,cu,hc,hn,hi,he,λM' A' c1 st=>⟨M',.refl,q M' A' c1 st⟩⟩
 | engaged z=>exact pf cu.at_ ⟨rfl,_,⟨rfl,rfl⟩,oZ rfl,b,A,V,.over i "engaged",rfl,cu.b,cu.bd,cu.lim hc (by omega),hi,one (.over i "engaged") hi rfl rfl⟩
 | barred=>exact pf cu.at_ ⟨rfl,_,⟨rfl,rfl⟩,oZ rfl,b,A,V,.over i "barred",rfl,cu.b,cu.bd,cu.lim hc (by omega),hi,one (.over i "barred") hi rfl rfl⟩
 | ring ns=>exact pf cu.at_ ⟨rfl,_,⟨rfl,rfl⟩,oZ rfl,b,A,V,.over i "ring",rfl,cu.b,cu.bd,cu.lim hc (by omega),hi,one (.over i "ring") hi rfl rfl⟩
def HH{l:pE}{V:qe}{i:Nat}{k:pz}{e:vn}(ok:qY l)(wf:zp l V (some i))(hk:V.calls[i]?=some k)(h:GY l V k.cr e):DJ l V i e:=by
 cases e with
 | rings z ps=>obtain⟨hz,W8,rfl⟩:=h;have h1:=(FR (l:=l) (V:=V) (c:=k.cr) (z:=z));have h2:=(ok.of hz).1.2.1;exact⟨hz,W8,λx hx=>(h1.1 x hx).2,by have:=h1.2;omega⟩
 | breaks z=>
  obtain⟨x,rfl,hb⟩:=h;obtain⟨j,d,e1,e2,e3,e4,e5,_⟩:=GN hb;refine⟨j,d,e1,e2,λy=>?_,e5⟩;subst y;rw[hk]at e2;cases e2;have sh:=(wf.ok i k hk).sh;rw[show(some i==some i)=true from fC _]at sh;rcases sh with g|g
  .rw[g.1]at e3;exact absurd e3 (by decide)
  .cases g.1
 | _=>trivial
def JE(G:Gl K mg a):Fq P w K mg base 9 a.af (Qe a):=by
 refine fq G.af.toDG vX (λr u=>⟨_,(pb (pK 2 vX (pI (pA v0) U1))
 (pb (pK 3 vX (pF (Lp G) r G.aY (pX v0 (ra (pA U2) (pI (pA U2) (EO pk)) (rR (pA U2) sP (sL (EO pk)))))))
 (pb (pK 4 vX (pI U3 pk))
 (pb (pK 5 vX (pI U3 pk))
 (pb (pL (pF (PY G) r G.a4 (ra v0 U1 v5)))
 (pb (pP (W3.b3 (yI (pG u (pI v4 pk) pq) (x8 (pG u (pQ qu rfl G.g qp (qb v5)) pk))))
 (pb (pK 6 vX (pI (pI v5 (EO pk)) pk))
 (pj (pL (pT v0 G.c.toCls G.k (qK G) r (qb (pM (pX pq (pX U1 (ra v6 (pI (pI v4 pk) pk) v6)))))))))
 pH)
 (pj (pL (pF (Qb G) r G.a7 (ra v0 U1 v4)))))))))),?_⟩)
 rintro ds M Q ⟨M0,b,A,V,l,c,n,i,k,rfl,cu,hc,hn,wf,hk,q⟩
 obtain⟨ka,ci⟩:=cu.call hk;obtain⟨ad,md,h1,h2,h3,h4,n1,n2⟩:=ci.cell;have Xs:=wf.ok i k hk;have hi:=(cS.mp hk).1;obtain⟨z,hz⟩:∃z,k.way.getLast?=some z:=by
  cases e:k.way.getLast? with
  | none=>exact absurd (gg.mp e) Xs.wy.1
  | some z=>exact⟨z,rfl⟩
 have XO:z∈l.nm:=Xs.wy.2 z (ia hz);have hdn:∀x∈k.way.dropLast,x∈l.nm:=λx hx=>Xs.wy.2 x (ib _ hx);have hwl:=(cu.sz.cs k (qS hk)).1;have hev:vF l V i=rh i none (uz l V k.cr z k.way.dropLast).2++(sW i (uz l V k.cr z k.way.dropLast).2 (uz l V k.cr z k.way.dropLast).1++sC l V i (uz l V k.cr z k.way.dropLast).1):=by
  unfold vF;rw[hk];have:k.way.getLastD Str.empty=z:=by rw[gG,hz];rfl
  dsimp only[Option.elim];rw[this]
 rw[hev]at q;have ro:wG l V k.cr (l.nm.length+1) [] (uz l V k.cr z k.way.dropLast):=xD cu.ok _ _ _ _ XO hdn;have rl:=ro.len;have eo:=HH cu.ok wf hk ro.e;have nl:l.nm.length<=11:=by have p8:=cu.ok.p8;have g3:=cu.ok.g3;unfold pE.nm pE.pn pE.gn;rw[cT,cQ,cQ];omega
 have re:=ro.e;refine Qy (t:=Gk _ _) (λδ M'=>M=M'/\δ=[some (.ref b),some (.int ((i:Nat):Int)),some (.ref ka.p),none,none,none,none]) (λnx0 h=>pf cu.at_ (i' rfl (i' rfl (i' ci.bd.ca (i' (rf ci.e1) (h _ _ ⟨rfl,rfl⟩)))))) ?_
 rintro δ _ ⟨rfl,rfl⟩
 refine Qy (t:=Gk _ _) (λδ M'=>qm M M'/\∃r,M r=none/\oS M' r=some (rg (uz l V k.cr z k.way.dropLast).2)/\δ=[some (.ref b),some (.int ((i:Nat):Int)),some (.ref ka.p),some (.tup [(uz l V k.cr z k.way.dropLast).1.d,.ref r]),none,none,none]) (λnx0 h=>?_) ?_
 .refine pf h1 (i' rfl (pf h1 (i' rfl (i' h2 (i' (Pa hz) (pf h1 (i' rfl (i' h2 λp hp=>?_))))))));rw[show L3.uM (k.way.map D.str) none (some (-1:Int))=k.way.dropLast.map D.str from(Ls _).trans (List.map_dropLast).symm];have t:=qm.new (c:=.lst (k.way.dropLast.map D.str)) hp;have lp:=@pC M p (k.way.dropLast.map D.str);refine⟨A,V,l,k.cr,z,p,k.way.dropLast,by rw[cu.b],(cu.rd hc wf).sub t,XO,wf.nx,lp,by rw[List.length_dropLast];omega,λr M' s hr lr=>?_⟩;exact h _ _ ⟨t.trans s,r,t.none hr,lr,rfl⟩
 rintro δ M1 ⟨s1,r,hr,lr,rfl⟩
 generalize uz l V k.cr z k.way.dropLast=R at lr ro rl eo re q;obtain⟨e,st⟩:=R;have cu1:=cu.sub s1;have rl:st.length<=0+(l.nm.length+1):=rl;refine⟨M0,b,A,V,l,c,n,i,st,r,rfl,cu1,hc,by omega,by omega,hi,lr,cu.bd.nM hr,λM2 A2 c2 WZ=>?_⟩;have same:=uE i st none V;have XD:i<(qk V (rh i none st)).calls.length:=by rw[same.len];exact hi
 have Zs:oS M2 r=some (rg st):=rG (WZ.1 r _ (cu.bd.nM hr) (pR lr));rw[qT,qT]at q;have ZX:=λV' (h:tN V V')=>h.ends (l:=l) i e;have Zi:∀V',tN V V'->DJ l V' i e:=λV' h=>by
  cases e with
  | breaks z'=>obtain⟨j,d,a1,a2,a3,a4⟩:=eo;obtain⟨d',b1,b2⟩:=h.at_ a2;exact⟨j,d',by rw[h.nA];exact a1,b1,a3,by rw[show d'.ms=d.ms from show d'.bare.ms=d.bare.ms by rw[b2]];exact a4⟩
  | rings _ _=>exact eo
  | _=>trivial
 generalize qk V (rh i none st)=V2 at c2 XD same q;have XR:∀(M3:Mp) (A3:sZ) (V3:qe),ub a M0 M3 b A3 V3 l c (n+2*st.length+1)->qM A M A3 M3->tN V V3->i<V3.calls.length->V3=qk V2 (sW i st e)->Jw a [.ref b,.int ((i:Nat):Int),e.d] M3 λ_ M'=>∃WM,qm WM M'/\Q .mI WM:=λM3 A3 V3 c3 s3 XS hi3 e3=>⟨M0,b,A3,V3,l,c,_,i,e,rfl,c3,hc,by omega,hi3,Zi V3 XS,λM4 A4 c4 s4=>⟨M4,.refl,q M4 A4 (by
  rw[<-e3];rw[ZX V3 XS]at c4;exact c4.mono (cZ _) (by omega)) (s3.trans s4)⟩⟩
 have c2':=c2.mono (cZ c) (show n+2*st.length<=n+2*st.length+1 by omega);have X8:=(qM.sub s1 (A:=A)).trans WZ;cases e with
 | ring ns=>
  obtain⟨x,ns',rfl⟩:=fZ (show ns≠[]from re);refine i' Zs ?_;cases hl:st.getLast? with
  | none=>have:st=[]:=gg.mp hl;subst this;exact XR M2 A2 V2 c2' X8 same XD rfl
  | some s0=>
   have Yw:0<st.length:=by cases st with|nil=>cases hl|cons _ _=>exact mx _
   have hd:decide ((0:Int)<((rg st).length:Int))=true:=dQ (by unfold rg;rw[cQ];omega);refine AC (c:=decide ((0:Int)<((rg st).length:Int))) hd ?_;have hat1:wn (rg st) (-1)=some (.tup [.str s0.1,vY s0.2]):=by
    unfold wn;have e1:FX (rg st).length (-1)=some (st.length - 1):=by unfold rg;rw[cQ];unfold FX;simp;omega
    rw[e1];show(rg st)[st.length - 1]?=_;unfold rg;rw[dq,<-jt,hl];rfl
   have hrv:sW i st (.ring (x::ns'))=[.leg ⟨i,s0.1,x,s0.1⟩]:=by unfold sW;dsimp only;rw[hl];rfl
   rw[hrv]at XR;refine i' Zs (i' hat1 ?_);refine pf c2.at_ ⟨rfl,_,⟨rfl,rfl⟩,i' (yZ _ _) ⟨oZ rfl,b,A2,V2,.leg ⟨i,s0.1,x,s0.1⟩,rfl,c2.b,c2.bd,c2.lim hc (by omega),XD,λM3 A3 eb XE bd3=>?_⟩⟩;have XS:=same.trans (zc V2 ⟨i,s0.1,x,s0.1⟩);exact XR M3 A3 _ (c2.after (e:=.leg ⟨i,s0.1,x,s0.1⟩) XD eb XE bd3) (X8.trans XE) XS (by rw[XS.len];exact hi) rfl
 | rings z' ps=>exact XR M2 A2 V2 c2' X8 same XD rfl
 | waits z'=>exact XR M2 A2 V2 c2' X8 same XD rfl
 | breaks z'=>exact XR M2 A2 V2 c2' X8 same XD rfl
 | engaged z'=>exact XR M2 A2 V2 c2' X8 same XD rfl
 | barred=>exact XR M2 A2 V2 c2' X8 same XD rfl
def Mn(G:Gl K mg a):Fq P w K mg base 10 a.a8 (MJ a):=by
 refine fq G.a8.toDG zo (λr u=>⟨_,(pb (pK 3 zo (pQ qu rfl G.g qp (qb (pA v0))))
 (pb (pL (pT v0 G.c.toCls G.k (qK G) r (qb (pM (ra pq U3 U1)))))
 (pb (pL (pT v0 G.c.toCls G.k (qK G) r (qb (pM (pX pq (pX U3 (ra U1 U2 U1)))))))
 (pj (pL (pF (JE G) r G.af (rP v0 U3))))))),?_⟩)
 rintro ds M Q ⟨M0,b,A,V,l,c,n,y,z,rfl,cu,hc,hn,wf,q⟩
 have lc:((A.cs.map λk=>D.ref k.p).length:Int)=(V.calls.length:Nat):=by rw[cQ,cu.bd.len]
 refine pf cu.at_ (i' rfl (i' cu.bd.ca ?_));rw[lc];refine pf cu.at_ ⟨rfl,_,⟨rfl,rfl⟩,oZ rfl,b,A,V,.new V.calls.length y,rfl,cu.b,cu.bd,cu.lim (by omega) (by omega),trivial,λM1 A1 eb1 Xd bd1=>?_⟩;have c1:=cu.after (e:=.new V.calls.length y) trivial eb1 Xd bd1;have ok2:(Ev.leg ⟨V.calls.length,y,z,y⟩).ok (pU V (.new V.calls.length y)):=by show V.calls.length<(V.calls++[yV y]).length;rw[cT];exact fk _
 refine pf c1.at_ ⟨rfl,_,⟨rfl,rfl⟩,oZ rfl,b,A1,_,.leg ⟨V.calls.length,y,z,y⟩,rfl,c1.b,c1.bd,c1.lim (by show c+1<=_;omega) (by omega),ok2,λM2 A2 Y4 WZ XQ=>?_⟩;have c2:=c1.after ok2 Y4 WZ XQ;obtain⟨k,hk⟩:∃k,(qk V [.new V.calls.length y,.leg ⟨V.calls.length,y,z,y⟩]).calls[V.calls.length]?=some k:=by
  have:V.calls.length<(qk V [.new V.calls.length y,.leg ⟨V.calls.length,y,z,y⟩]).calls.length:=by show V.calls.length<((V.calls++[yV y]).modify _ _).length;rw[eP];exact ok2
  exact⟨_,cU this⟩
 refine⟨M0,b,A2,_,l,c+1,n+2,V.calls.length,k,rfl,c2,by omega,by omega,wf,hk,λM3 A3 c3 XE=>⟨M3,.refl,q M3 A3 ?_ (Xd.trans (WZ.trans XE))⟩⟩;unfold FK;rw[qT];exact c3.mono (cZ _) (by omega)
noncomputable def EA(V:qe)(x:Str):D:=CD (uy V x)
abbrev DY:=Ki EA
def Lz(a:Ad):rb:=λds M Q=>F8 λA V l x z=>ds=[.ref A.b,.str x,.str z]/\Rd a M A V l/\x∈l.pn/\Q (CD (GU l V x z)) M
inductive vv(a:Ad)(M:Mp)(L:List Addr):List rA->List pz->Prop
 | nil:vv a M L [] []
 | cons (k:rA) (c:pz) (ks:List rA) (cs:List pz) (h:rJ a M L k c) (r:vv a M L ks cs):vv a M L (k::ks) (c::cs)
def tR.nf(w:Str)(m:Nat):Prop:=((w="answer"\/w="hang"\/w="hold"\/w="back")/\m=1)\/((w="hand"\/w="join")/\m=2)
def LI(a:Ad):rb:=λds M Q=>IE λwd x r L ks cs=>ds=[.str wd,.str x,.ref r]/\oS M r=some (List.map (λk:rA=>D.ref k.p) ks)/\vv a M L ks cs/\tR.nf wd cs.length/\Q (.bl (Je wd x cs)) M
def Jm(a:Ad):rb:=λds M Q=>IE λA V l wd x ns=>ds=[.ref A.b,.str wd,.str x,.tup (List.map D.int ns)]/\Rd a M A V l/\x∈l.pn/\tR.nf wd ns.length/\Q (CD (Mg l V wd x ns)) M
def SJ(a:Ad):rb:=λds M Q=>CF λA V b i=>ds=[.ref A.b,.str (Th b),.int i]/\pJ a M A V/\Q (CD (Qd V b i)) M
def Hu(a:Ad):rb:=λds M Q=>CF λA V l e=>ds=[.ref A.b,tR.d e]/\Rd a M A V l/\e.ng/\Q (CD (xj l V e)) M
noncomputable def Wl(m:Nat):D->D
 | .int i=>.bl (zr m i)
 | _=>.bl false
noncomputable def V5(A:sZ):D->D
 | .int i=>(A.cs[i.toNat]?).elim .mI λk=>.ref k.p
 | _=>.mI
theorem QH{a:Ad}{M:Mp}{A:sZ}{V:qe}(bd:pJ a M A V):∀{ns:List Int},ns.all (zr V.calls.length)=true->∃ks,vv a M (A.lists++V.fo) ks (tI V ns)/\(ns.map D.int).map (V5 A)=ks.map (λk:rA=>D.ref k.p)/\(tI V ns).length=ns.length/\∀i∈ns,∃k,0<=i/\A.cs[i.toNat]?=some k
 | [],_=>⟨[],.nil,rfl,rfl,λi hi=>by cases hi⟩
 | i::r,h=>by
  rw[eO,dO]at h;obtain⟨ks,h1,h2,h3,h4⟩:=QH bd h.2;have hh:(decide (0<=i)&&decide (i<V.calls.length))=true:=h.1;rw[dO,dY,dY]at hh;have hi:i.toNat<V.calls.length:=by omega
  have hk:i.toNat<A.cs.length:=by rw[bd.len];exact hi
  have e1:A.cs[i.toNat]?=some A.cs[i.toNat]:=cU hk;have e2:V.calls[i.toNat]?=some V.calls[i.toNat]:=cU hi;have ec:tI V (i::r)=V.calls[i.toNat]::tI V r:=by unfold tI;rw[List.filterMap_cons_some (f:=λi:Int=>V.calls[i.toNat]?) e2]
  rw[ec];refine⟨A.cs[i.toNat]::ks,.cons _ _ _ _ (bd.cs _ _ _ e1 e2) h1,?_,eG Nat.succ h3,λj hj=>?_⟩
  .rw[dP,dP,h2];show(A.cs[i.toNat]?).elim _ _::_=_;rw[e1];rfl
  .rcases cY.mp hj with rfl|hj
   .exact⟨_,hh.1,e1⟩
   .exact h4 j hj
def vv.sub{a:Ad}{M M':Mp}{L:List Addr}{ks:List rA}{cs:List pz}(h:vv a M L ks cs)(s:qm M M'):vv a M' L ks cs:=by
 induction h with
 | nil=>exact .nil
 | cons k c ks cs h r ih=>exact .cons k c ks cs (h.sub s) ih
def Su{bs:List Bool}{i:Int}(h:zr bs.length i=true):wn (bs.map D.bl) i=some (.bl (bs.getD i.toNat false)):=by
 have hh:(decide (0<=i)&&decide (i<bs.length))=true:=h;rw[dO,dY,dY]at hh;obtain⟨n,rfl⟩:=d9 hh.1;have hn:n<bs.length:=by omega
 refine ua ?_;rw[dq,cU hn];show some (D.bl bs[n])=some (.bl (bs.getD n false));rw[fY,cU hn];rfl
def DR(G:Gl K mg a):Fq P w K mg base 4 a.ae (DY a):=by
 refine fq G.ae.toDG yD (λr u=>⟨_,(pb (pP (pG u (pT v0 G.c.toCls G.bC (LY G) r (qb U1)) rQ)
 (pj (pD pq))
 pH)
 (pb (pP (pG u (pT v0 G.c.toCls G.bD (HP G) r (qb U1)) rQ)
 (pj (pD pq))
 pH)
 (pj (pD rQ)))),?_⟩)
 rintro ds M Q ⟨A,V,x,rfl,bd,hk,q⟩
 unfold EA uy at q;refine pf bd.at_ ⟨rfl,_,⟨rfl,rfl⟩,A,V,x,rfl,bd,hk,?_⟩;unfold MO;cases e:ET V x with
 | some j=>rw[e]at q;exact⟨M,.refl,q⟩
 | none=>
  rw[e]at q;refine pf bd.at_ ⟨rfl,_,⟨rfl,rfl⟩,A,V,x,rfl,bd,hk,?_⟩;unfold S7;cases e:IW V x with
  | some j=>rw[e]at q;exact⟨M,.refl,q⟩
  | none=>rw[e]at q;exact⟨M,.refl,q⟩
def MC(G:Gl K mg a):Fq P w K mg base 5 a.aZ (Lz a):=by
 refine fq G.aZ.toDG wg (λr u=>⟨_,(pb (pP (pG u U2 (vE (pA v0) G.h.toCls G.al (yr G) r))
 (pj (pD pq))
 pH)
 (pb (pK 3 wg (pF (DR G) r G.ae (rP v0 U1)))
 (pb (pP (W3.b3 (yI (pG u U3 rQ) (x8 (yM (vK (pT v0 G.c.toCls G.V (yS G) r (qb U1)))))))
 (pj (pD pq))
 pH)
 (pj (pD U3))))),?_⟩)
 rintro ds M Q ⟨A,V,l,x,z,rfl,rd,hx,q⟩
 obtain⟨ph,gr,ws,X6,pr,gd,rs,i1,_⟩:=rd.pl;have p8:=rd.ok.p8;have g3:=rd.ok.g3;unfold GU at q;refine pf rd.bd.at_ (i' rfl (pf i1 ⟨rfl,_,⟨rfl,rfl⟩,V.p,l,rfl,rd.pl,by omega,by omega,λp hp=>i' pC ⟨rfl,qx _,?_⟩⟩));have t:=qm.new (c:=.lst (l.nm.map D.str)) hp;have Xf:=rd.sub t;generalize pB M p (.lst (l.nm.map D.str))=M1 at t Xf ⊢;show if (!(inD (.str z) (l.nm.map D.str)))=true then _ else _
 rw[sr];refine qF (c:=!(hasS l.nm z)) (λg=>?_) (λg=>?_)
 .rw[cX (by simpa using g)]at q;exact⟨M,t,q⟩
 rw[cV (by simpa using g)]at q;refine⟨A,V,x,rfl,Xf.bd,Xf.k,?_⟩;unfold EA;cases e:uy V x with
 | some w0=>rw[e]at q;exact⟨M,t,q⟩
 | none=>
  rw[e]at q;refine pf Xf.bd.at_ ⟨rfl,_,⟨rfl,rfl⟩,A,V,l,x,rfl,Xf,hx,?_⟩;refine qF (c:=!(tV l V x)) (λg=>?_) (λg=>?_)
  .rw[g]at q;exact⟨M,t,q⟩
  .rw[show(!(tV l V x))=false from dD.mpr g]at q;exact⟨M,t,q⟩
def Ma(G:Gl K mg a):Fq P w K mg base 3 a.a0 (LI a):=by
 refine fq G.a0.toDG LN (λr u=>⟨_,(pb (pP (pG u v0 pq)
 (pj (pD (qh u U1 (pA (pI U2 pk)))))
 pH)
 (pb (pP (pG u v0 pq)
 (pj (pD (pT (pI U2 pk) G.e.toCls G.bG (Lx G) r (qb U1))))
 pH)
 (pb (pP (pG u v0 pq)
 (pj (pD (pT (pI U2 pk) G.e.toCls G.ax (Gi G) r (qb U1))))
 pH)
 (pb (pP (pG u v0 pq)
 (pj (pD (qh u (pA (pI U2 pk)) U1)))
 pH)
 (pj (pD (tj (qh u (pA (pI U2 pk)) U1) (sO (pT (pI U2 pk) G.e.toCls G.ax (Gi G) r (qb U1)))))))))),?_⟩)
 rintro ds M Q ⟨wd,x,r,L,ks,cs,rfl,lr,Zc,hw,q⟩
 cases Zc with
 | nil=>rcases hw with⟨_,h⟩|⟨_,h⟩<;>cases h
 | cons k c ks cs hc Xq=>
 obtain⟨ad,md,h1,h2,h3,h4,_⟩:=id hc;have a0:=yZ (.ref k.p) (ks.map λk:rA=>D.ref k.p);have hold:∀K:DK,K (.bl (c.hd==some x)) M->Option.elim (yd M 9 (CD c.hd) (.str x)) False λb=>K (.bl b) M:=λK hK=>by
  cases e:c.hd with
  | none=>rw[e]at hK;exact hK
  | some y=>rw[e]at hK;exact hK
 rcases hw with⟨rfl|rfl|rfl|rfl,h⟩|⟨hw,h⟩
 .exact i' lr (i' a0 (pf h1 (i' rfl (Dz h3 ⟨M,.refl,q⟩))))
 .exact i' lr (i' a0 (pf h1 ⟨rfl,_,⟨rfl,rfl⟩,L,k,c,x,rfl,hc,M,.refl,q⟩))
 .exact i' lr (i' a0 (pf h1 ⟨rfl,_,⟨rfl,rfl⟩,L,k,c,x,rfl,hc,M,.refl,q⟩))
 .exact i' lr (i' a0 (pf h1 (i' rfl (hold _ ⟨M,.refl,q⟩))))
 .cases Xq with
  | nil=>cases h
  | cons k' d ks cs hd _=>
   obtain⟨ad',md',f1,_⟩:=id hd;have a1:wn (.ref k.p::.ref k'.p::ks.map λk:rA=>D.ref k.p) 1=some (.ref k'.p):=ua (j:=1) rfl;have qq:Q (.bl ((c.hd==some x)&&d.mU x)) M:=by
    rcases hw with rfl|rfl
    .exact q
    .exact q
   rcases hw with rfl|rfl
   all_goals
    refine i' lr (i' a0 (pf h1 (i' rfl ?_)));cases e:c.hd with
    | none=>rw[e]at qq;exact⟨M,.refl,qq⟩
    | some y=>
     rw[e]at qq;have qq:Q (.bl ((y==x)&&d.mU x)) M:=qq;refine qF (c:=y==x) (λg=>?_) (λg=>?_)
     .rw[g,eE]at qq;exact i' lr (i' a1 (pf f1 ⟨rfl,_,⟨rfl,rfl⟩,L,k',d,x,rfl,hd,M,.refl,qq⟩))
     .rw[show(y==x)=false from dD.mpr g,eM]at qq;exact⟨M,.refl,qq⟩
def OB(G:Gl K mg a):Fq P w K mg base 5 a.a1 (Jm a):=by
 refine fq G.a1.toDG tQ (λr u=>⟨_,(pb (pP (yM (vK (pQ (E5 rfl) rfl G.bO Fw (qb (qD rfl (xQ (ix:=[none,some 0]) (N':=["number","board"])) (qC U3) (qA 0) rH (uo u pk v0 (pQ qu rfl G.g qp (qb (pA U1)))))))))
 (pj (pD pq))
 pH)
 (pb (vg (i:=4) tQ.nd rfl (Or.inl rfl) rfl (xQ (ix:=[none,some 0]) (N':=["number","board"])) (qC U3) (qA 0) rH (pI (pA U1) v0))
 (pb (pP (yM (vK (pF (Ma G) r G.a0 (ra U1 U2 v4))))
 (pj (pD pq))
 pH)
 (pb (pP (pG u U1 (pM (rP pq pq)))
 (pj (pD rQ))
 pH)
 (pb (pK 5 tQ (pF (DR G) r G.ae (rP v0 U2)))
 (pb (pP (W3.b3 (yI (pG u v5 rQ) (yI (vK (pT (pI v4 pk) G.e.toCls G.av (F9 G) r (qb U2))) (x8 (yM (vK (pT v0 G.c.toCls G.V (yS G) r (qb U2))))))))
 (pj (pD pq))
 pH)
 (pj (pD v5)))))))),?_⟩)
 rintro ds M Q ⟨A,V,l,wd,x,ns,rfl,rd,hx,hw,q⟩
 have hz:=dF;have Zw:ns.length<=2:=by rcases hw with⟨_,h⟩|⟨_,h⟩<;>omega
 have lca:((A.cs.map λk=>D.ref k.p).length:Int)=V.calls.length:=by rw[cQ,rd.bd.len]
 unfold Mg at q;refine rq (f:=Wl V.calls.length) trivial _ [] _ (by rw[cQ];simp only[dE];omega) (λd hd k hk=>?_) λp hp=>?_
 .obtain⟨i,_,rfl⟩:=dw.mp hd;have hk:k (.bl (decide (0<=i)&&decide (i<V.calls.length))) M:=hk;refine qF (c:=decide (0<=i)) (λg=>?_) (λg=>?_)
  .rw[g,eE]at hk;refine pf rd.bd.at_ (i' rfl (i' rd.bd.ca ?_));rw[lca];exact hk
  .rw[show decide (0<=i)=false from dD.mpr g,eM]at hk;exact hk
 have em:[]++(ns.map D.int).map (Wl V.calls.length)=ns.map λi=>D.bl (zr V.calls.length i):=by rw[dW,dU];rfl
 rw[em];have t:=qm.new (c:=.lst (ns.map λi=>D.bl (zr V.calls.length i))) hp;refine i' pC (i' (xZ (zr V.calls.length) ns) ?_);have Xf:=rd.sub t;generalize pB M p (.lst (ns.map λi=>D.bl (zr V.calls.length i)))=M1 at t Xf ⊢;rw[zC];refine qF (c:=!(ns.all (zr V.calls.length))) (λg=>?_) (λXM=>?_)
 .rw[cX (by simpa using g)]at q;exact⟨M,t,q⟩
 have XM:ns.all (zr V.calls.length)=true:=by simpa using XM
 rw[cV (by rw[XM];exact Bool.noConfusion)]at q;obtain⟨ks,hks,eks,lcs,YG⟩:=QH Xf.bd XM;refine rq (f:=V5 A) trivial _ [] _ (by rw[cQ];simp only[dE];omega) (λd hd k0 hk=>?_) λp2 WT=>?_
 .obtain⟨i,hi,rfl⟩:=dw.mp hd;obtain⟨k,i0,e1⟩:=YG i hi;obtain⟨n,rfl⟩:=d9 i0;have e1:A.cs[n]?=some k:=e1;have hk:k0 ((A.cs[n]?).elim .mI λk=>.ref k.p) M1:=hk;rw[e1]at hk;exact pf Xf.bd.at_ (i' rfl (i' rfl (i' Xf.bd.ca (i' (rf e1) hk))))
 rw[dW,eks];have t2:=qm.new (c:=.lst (ks.map λk:rA=>D.ref k.p)) WT;have l2:=@pC M1 p2 (ks.map λk:rA=>D.ref k.p);have YR:=Xf.sub t2;have s2:=t.trans t2;generalize pB M1 p2 (.lst (ks.map λk:rA=>D.ref k.p))=M2 at l2 YR s2 t2 ⊢;have hks:=hks.sub t2;generalize tI V ns=cs at hks lcs q;refine⟨wd,x,p2,_,ks,cs,rfl,l2,hks,by rw[lcs];exact hw,?_⟩;refine qF (c:=!Je wd x cs) (λg=>?_) (λg=>?_)
 .rw[cX (by simpa using g)]at q;exact⟨M,s2,q⟩
 rw[cV (by simpa using g)]at q;have two:∀wd:Str,(wd=="answer"||wd=="back")=true->Q (CD (if ((uy V x).isNone&&(cs.head?.elim false (λc=>c.mL x)&&!(tV l V x)))=true then some "full" else uy V x)) M->cs.length=1->DY a [.ref A.b,.str x] M2 λdue M3=>uw (RH (Pz (b3 (k3 .Is (v3 5) (c3 .mI))) (Pz (b3 (Ax "waits_with" (λD s=>D=a.e/\s=vw a) (i3 (v3 4) (c3 (.int 0))) (ve (v3 2) wY))) (Tz (b3 (Ax "is_free" (λD s=>D=a.c/\s=xb a) (v3 0) (ve (v3 2) wY)))))) (QZ (c3 (.str "full"))) Wh) (QZ (v3 5)) {nx:=λ_ M'=>∃WM,qm WM M'/\Q .mI WM,rt:=λd M'=>∃WM,qm WM M'/\Q d WM} [some (.ref A.b),some (.str wd),some (.str x),some (.tup (ns.map D.int)),some (.ref p2),some due] M3:=λwd _ q hl=>by
  cases hks with
  | nil=>cases hl
  | cons k c ks cs hc _=>
  have q:Q (CD (if ((uy V x).isNone&&(c.mL x&&!(tV l V x)))=true then some "full" else uy V x)) M:=q;obtain⟨ad,md,h1,_⟩:=id hc;refine⟨A,V,x,rfl,YR.bd,YR.k,?_⟩;unfold EA;cases e:uy V x with
  | some w0=>rw[e]at q;exact⟨M,s2,q⟩
  | none=>
   rw[e]at q;refine i' l2 (i' (yZ _ _) (pf h1 ⟨rfl,_,⟨rfl,rfl⟩,_,k,c,x,rfl,hc,?_⟩));refine qF (c:=c.mL x) (λg1=>?_) (λg1=>?_)
   .rw[g1]at q;refine pf YR.bd.at_ ⟨rfl,_,⟨rfl,rfl⟩,A,V,l,x,rfl,YR,hx,?_⟩;refine qF (c:=!(tV l V x)) (λg=>?_) (λg=>?_)
    .rw[g]at q;exact⟨M,s2,q⟩
    .rw[show(!(tV l V x))=false from dD.mpr g]at q;exact⟨M,s2,q⟩
   .rw[show c.mL x=false from dD.mpr g1]at q;exact⟨M,s2,q⟩
 rcases hw with⟨rfl|rfl|rfl|rfl,h⟩|⟨rfl|rfl,h⟩
 .exact⟨oZ rfl,rfl,rfl,two "answer" rfl q (lcs.trans h)⟩
 .exact⟨oZ rfl,rfl,rfl,M,s2,q⟩
 .exact⟨oZ rfl,rfl,rfl,M,s2,q⟩
 .exact⟨oZ rfl,rfl,rfl,two "back" rfl q (lcs.trans h)⟩
 .exact⟨oZ rfl,rfl,rfl,M,s2,q⟩
 .exact⟨oZ rfl,rfl,rfl,M,s2,q⟩
def RP(G:Gl K mg a):Fq P w K mg base 1 a.a2 (SJ a):=by
 refine fq G.a2.toDG yy (λr u=>⟨_,(pb (pP (yM (GW u pk U2 (pQ qu rfl G.g qp (qb (pA v0)))))
 (pj (pD pq))
 pH)
 (pb (pP (pG u (pI (pA v0) U2) (qh u U1 pq))
 (pj (pD pq))
 pH)
 (pj (pD rQ)))),?_⟩)
 rintro ds M Q ⟨A,V,b,i,rfl,bd,q⟩
 unfold Qd at q;have YG:zr V.on.length i=(decide (0<=i)&&decide (i<V.on.length)):=rfl;have lon:((V.on.map D.bl).length:Int)=V.on.length:=by rw[cQ]
 have no:zr V.on.length i=false->Q (.str "wish") M:=λh=>by rw[cX h]at q;exact q
 have yes:zr V.on.length i=true->Q (CD (if (V.on.getD i.toNat false==b)=true then some "wish" else none)) M:=λh=>by rw[h,cV Bool.noConfusion]at q;exact q
 refine qF (c:=decide (0<=i)) (λg0=>?_) (λg0=>⟨M,.refl,no (by rw[YG,show decide (0<=i)=false from dD.mpr g0];rfl)⟩);refine pf bd.at_ (i' rfl (i' bd.on ?_));rw[lon];refine qF (c:=!(decide (i<(V.on.length:Int)))) (λg1=>⟨M,.refl,no (by rw[YG,g0,show decide (i<(V.on.length:Int))=false by simpa using g1];rfl)⟩) (λg1=>?_);have h:zr V.on.length i=true:=by rw[YG,g0,show decide (i<(V.on.length:Int))=true by simpa using g1];rfl
 have q:=yes h;refine pf bd.at_ (i' rfl (i' rfl (i' bd.on (i' (Su h) ?_))));have es:(Th b=="on")=b:=by cases b<;>rfl
 show if (V.on.getD i.toNat false==(Th b=="on"))=true then _ else _
 rw[es];refine qF (λg=>?_) (λg=>?_)
 .rw[cX g]at q;exact⟨M,.refl,q⟩
 .rw[cV g]at q;exact⟨M,.refl,q⟩
def HN(G:Gl K mg a):Fq P w K mg base 6 a.a3 (Hu a):=by
 refine fq G.a3.toDG Ca (λr u=>⟨_,(pb (pK 2 Ca (pI U1 pk))
 (pb (pP (pG u U2 pq)
 (pj (pD rQ))
 pH)
 (pb (pP (pG u U2 (pM (rP pq pq)))
 (pj (pD (pF (RP G) r G.a2 (ra v0 U2 (pI U1 pk)))))
 pH)
 (pb (pP (pG u (pI U1 pk) (vE (pA v0) G.h.toCls G.N (sA G) r))
 (pj (pD pq))
 pH)
 (pb (pP (pG u U2 pq)
 (pj (pD (pF (MC G) r G.aZ (ra v0 (pI U1 pk) (pI U1 pk)))))
 pH)
 (pj (pD (pF (OB G) r G.a1 (pX v0 (ra U2 (pI U1 pk) (rR U1 (sL pk) sP))))))))))),?_⟩)
 rintro ds M Q ⟨A,V,l,e,rfl,rd,hf,q⟩
 obtain⟨ph,gr,ws,X6,pr,gd,rs,i1,_⟩:=rd.pl;have p8:=rd.ok.p8;cases e with
 | turn=>exact⟨M,.refl,q⟩
 | sw b i=>
  cases b with
  | true=>exact⟨oZ rfl,rfl,rfl,A,V,true,i,rfl,rd.bd,M,.refl,q⟩
  | false=>exact⟨oZ rfl,rfl,rfl,A,V,false,i,rfl,rd.bd,M,.refl,q⟩
 | call x z=>
  have q:Q (CD (if hasS l.pn x=false then some "name" else GU l V x z)) M:=q;refine⟨oZ rfl,rfl,rfl,?_⟩;refine pf rd.bd.at_ (i' rfl (pf i1 ⟨rfl,_,⟨rfl,rfl⟩,V.p,l,rfl,rd.pl,by omega,λp WT=>i' pC ⟨rfl,qx _,?_⟩⟩));have t:=qm.new (c:=.lst (l.pn.map D.str)) WT;have Xf:=rd.sub t;generalize pB M p (.lst (l.pn.map D.str))=M1 at t Xf ⊢;show if (!(inD (.str x) (l.pn.map D.str)))=true then _ else _
  rw[sr];refine qF (c:=!(hasS l.pn x)) (λg=>?_) (λg=>?_)
  .rw[cX (by simpa using g)]at q;exact⟨M,t,q⟩
  .have g:hasS l.pn x=true:=by simpa using g
   rw[g,cV Bool.noConfusion]at q;exact⟨A,V,l,x,z,rfl,Xf,qP.mp g,M,t,q⟩
 | num wd x ns=>
  have q:Q (CD (if hasS l.pn x=false then some "name" else Mg l V wd x ns)) M:=q;have hf:tR.nf wd ns.length:=hf;have key:∀(M1:Mp),qm M M1->if (!(inD (.str x) (l.pn.map D.str)))=true then(∃WM,qm WM M1/\Q (.str "name") WM)else Jm a [.ref A.b,.str wd,.str x,.tup (ns.map D.int)] M1 λd M'=>∃WM,qm WM M'/\Q d WM:=λM1 t=>by
   rw[sr];refine qF (c:=!(hasS l.pn x)) (λg=>?_) (λg=>?_)
   .rw[cX (by simpa using g)]at q;exact⟨M,t,q⟩
   .have g:hasS l.pn x=true:=by simpa using g
    rw[g,cV Bool.noConfusion]at q;exact⟨A,V,l,wd,x,ns,rfl,rd.sub t,qP.mp g,hf,M,t,q⟩
  have one:ns.length=1->∃i,ns=[i]:=List.length_eq_one_iff.mp;have two:ns.length=2->∃i j,ns=[i,j]:=λh=>by
   match ns,h with
   | [i,j],_=>exact⟨i,j,rfl⟩
  rcases id hf with⟨rfl|rfl|rfl|rfl,h⟩|⟨rfl|rfl,h⟩
  .obtain⟨i,rfl⟩:=one h;exact⟨oZ rfl,rfl,rfl,pf rd.bd.at_ (i' rfl (pf i1 ⟨rfl,_,⟨rfl,rfl⟩,V.p,l,rfl,rd.pl,by omega,λp WT=>i' pC ⟨rfl,qx _,key _ (.new WT)⟩⟩))⟩
  .obtain⟨i,rfl⟩:=one h;exact⟨oZ rfl,rfl,rfl,pf rd.bd.at_ (i' rfl (pf i1 ⟨rfl,_,⟨rfl,rfl⟩,V.p,l,rfl,rd.pl,by omega,λp WT=>i' pC ⟨rfl,qx _,key _ (.new WT)⟩⟩))⟩
  .obtain⟨i,rfl⟩:=one h;exact⟨oZ rfl,rfl,rfl,pf rd.bd.at_ (i' rfl (pf i1 ⟨rfl,_,⟨rfl,rfl⟩,V.p,l,rfl,rd.pl,by omega,λp WT=>i' pC ⟨rfl,qx _,key _ (.new WT)⟩⟩))⟩
  .obtain⟨i,rfl⟩:=one h;exact⟨oZ rfl,rfl,rfl,pf rd.bd.at_ (i' rfl (pf i1 ⟨rfl,_,⟨rfl,rfl⟩,V.p,l,rfl,rd.pl,by omega,λp WT=>i' pC ⟨rfl,qx _,key _ (.new WT)⟩⟩))⟩
  .obtain⟨i,j,rfl⟩:=two h;exact⟨oZ rfl,rfl,rfl,pf rd.bd.at_ (i' rfl (pf i1 ⟨rfl,_,⟨rfl,rfl⟩,V.p,l,rfl,rd.pl,by omega,λp WT=>i' pC ⟨rfl,qx _,key _ (.new WT)⟩⟩))⟩
  .obtain⟨i,j,rfl⟩:=two h;exact⟨oZ rfl,rfl,rfl,pf rd.bd.at_ (i' rfl (pf i1 ⟨rfl,_,⟨rfl,rfl⟩,V.p,l,rfl,rd.pl,by omega,λp WT=>i' pC ⟨rfl,qx _,key _ (.new WT)⟩⟩))⟩
def Df(V:qe)(x:Str):Prop:=∀c∈V.calls,¬Bb c x
def EN{V:qe}{x:Str}(h:uy V x=none):Df V x:=by
 unfold uy at h;cases e1:ET V x with
 | some j=>rw[e1]at h;cases h
 | none=>
  cases e2:IW V x with
  | some j=>rw[e1,e2]at h;cases h
  | none=>
   intro c hc g;have h1:=ju.mp e1 c hc;have h2:=ju.mp e2 c hc;rcases g with g|g
   .rw[h1]at g;cases g
   .rw[h2]at g;cases g
def sH{c:pz}(h:c.st="rings"){x:Str}:Bb c x↔x=c.cr:=by unfold Bb pz.mZ pz.mR pz.mS;rw[h];simp(decide:=true)
def DF{c:pz}(h:c.st="waits"){x:Str}:Bb c x↔x=c.cr:=by unfold Bb pz.mZ pz.mR pz.mS;rw[h];simp(decide:=true)
def tH{c:pz}(h:c.st="talks"){x:Str}:Bb c x↔x∈c.ms:=by unfold Bb pz.mZ pz.mR pz.mS;rw[h,<-qP];simp(decide:=true)
def Bo{c:pz}(h:c.st="held"){x:Str}:Bb c x↔x∈c.ms/\c.hd≠some x:=by unfold Bb pz.mZ pz.mR;rw[h,<-qP];simp(decide:=true)
def Gg{c:pz}(h:c.st="over"){x:Str}:¬Bb c x:=by unfold Bb pz.mZ pz.mR pz.mS;rw[h];simp(decide:=true)
def sJ{c:pz}(h:c.st="rings"){x:Str}:c.hasB x=true↔x=c.cr\/x∈c.at_:=by unfold pz.hasB;rw[h,<-qP];simp(decide:=true)
def DX{c:pz}(h:c.st="waits"){x:Str}:c.hasB x=true↔x=c.cr:=by unfold pz.hasB;rw[h];simp(decide:=true)
def sS{c:pz}(h:c.st="talks"\/c.st="held"){x:Str}:c.hasB x=true↔x∈c.ms:=by unfold pz.hasB;rw[<-qP];rcases h with h|h<;>(rw[h];simp(decide:=true))
def Ge{c:pz}(h:c.st="over"){x:Str}:c.hasB x=false:=by unfold pz.hasB;rw[h];simp(decide:=true)
def rX{c:pz}{x:Str}:c.mL x=true↔c.st="waits"/\x∈c.at_:=by unfold pz.mL;rw[dO,eY,qP]
theorem EB{α:Type}(f:α->Bool):∀{l:List α} {i:Nat} {c:α} (c':α),l[i]?=some c->((l.set i c').filter f).length+(if f c=true then 1 else 0)=(l.filter f).length+(if f c'=true then 1 else 0)
 | [],_,_,_,h=>by simp at h
 | x::r,0,c,c',h=>by cases h;rw[List.set_cons_zero,gJ,gJ];split<;>split<;>simp
 | x::r,i+1,c,c',h=>by
  have ih:=EB f (l:=r) (i:=i) (c:=c) c' (by simpa using h);rw[kW,gJ,gJ];split
  .rw[dZ,dZ];omega
  .exact ih
def zp.set{l:pE}{V V':qe}{o o':Option Nat}{i:Nat}{c c':pz}(h:zp l V o)(e:V'.calls=V.calls.set i c')(hc:V.calls[i]?=some c)(ho:∀j,j≠i->(o==some j)=(o'==some j))(ok:vO l (o'==some i) c')(he:∀x,Bb c' x->Bb c x\/Df V x)(hu:∀x,c'.hasB x=true->c.hasB x=true\/(uS V x:Int)<wH l x)(hw:∀x,c'.mL x=true->c.mL x=true\/Au V x=false)(nx:um l V'):zp l V' o':=by
 have si:∀{j:Nat} {d:pz},V'.calls[j]?=some d->(j=i/\d=c')\/(j≠i/\V.calls[j]?=some d):=λ{j d} g=>by rw[e]at g;exact(E7 g).imp (λg=>⟨g.1,g.2.1⟩) id
 have key:∀(j:Nat) cj x,j≠i->V.calls[j]?=some cj->Bb c' x->Bb cj x->False:=λj cj x hj e1 g1 g2=>by
  rcases he x g1 with z|z
  .exact hj (h.un j i cj c x e1 hc g2 z)
  .exact z cj (qS e1) g2
 have keyw:∀(j:Nat) cj x,j≠i->V.calls[j]?=some cj->c'.mL x=true->cj.mL x=true->False:=λj cj x hj e1 g1 g2=>by
  rcases hw x g1 with z|z
  .exact hj (h.wt j i cj c x e1 hc g2 z)
  .unfold Au at z;exact absurd g2 (by rw[kZ.mp z cj (qS e1)|>dD.mpr];exact Bool.noConfusion)
 refine⟨λj d g=>?_,λm n cm cn x e1 e2 g1 g2=>?_,λx hx=>?_,λm n cm cn x e1 e2 g1 g2=>?_,nx⟩
 .rcases si g with⟨rfl,rfl⟩|⟨hj,g⟩
  .exact ok
  .rw[<-ho j hj];exact h.ok j d g
 .rcases si e1 with⟨rfl,rfl⟩|⟨hm,e1⟩<;>rcases si e2 with⟨rfl,rfl⟩|⟨hn,e2⟩
  .rfl
  .exact(key n cn x hn e2 g1 g2).elim
  .exact(key m cm x hm e1 g2 g1).elim
  .exact h.un m n cm cn x e1 e2 g1 g2
 .have cs:=EB (λk:pz=>k.hasB x) c' hc;have hl:=h.ln x hx;unfold uS at hl ⊢;rw[e];by_cases g:c'.hasB x=true
  .rw[cX g]at cs;rcases hu x g with z|z
   .rw[cX z]at cs;omega
   .unfold uS at z;omega
  .rw[cV g]at cs;omega
 .rcases si e1 with⟨rfl,rfl⟩|⟨hm,e1⟩<;>rcases si e2 with⟨rfl,rfl⟩|⟨hn,e2⟩
  .rfl
  .exact(keyw n cn x hn e2 g1 g2).elim
  .exact(keyw m cm x hm e1 g2 g1).elim
  .exact h.wt m n cm cn x e1 e2 g1 g2
def zp.add{l:pE}{V V':qe}{c':pz}(h:WF l V)(e:V'.calls=V.calls++[c'])(ok:vO l true c')(he:∀x,Bb c' x->Df V x)(hu:∀x,c'.hasB x=true->(uS V x:Int)<wH l x)(hw:∀x,c'.mL x=false)(nx:um l V'):zp l V' (some V.calls.length):=by
 have si:∀{j:Nat} {d:pz},V'.calls[j]?=some d->(j=V.calls.length/\d=c')\/(j≠V.calls.length/\V.calls[j]?=some d):=λ{j d} g=>by
  rw[e]at g;by_cases z:j<V.calls.length
  .rw[eJ z]at g;exact .inr ⟨by omega,g⟩
  .have:=(cS.mp g).1;rw[cT,dG]at this;have z:j=V.calls.length:=by omega
   subst z;rw[eF (cZ _)]at g;simp only[gI,iC,jm]at g;exact .inl ⟨rfl,g.symm⟩
 refine⟨λj d g=>?_,λm n cm cn x e1 e2 g1 g2=>?_,λx hx=>?_,λm n cm cn x e1 e2 g1 g2=>?_,nx⟩
 .rcases si g with⟨rfl,rfl⟩|⟨hj,g⟩
  .rw[fC];exact ok
  .rw[show(some V.calls.length==some j)=false by simpa using dI hj];exact h.ok j d g
 .rcases si e1 with⟨rfl,rfl⟩|⟨hm,e1⟩<;>rcases si e2 with⟨rfl,rfl⟩|⟨hn,e2⟩
  .rfl
  .exact(he x g1 cn (qS e2) g2).elim
  .exact(he x g2 cm (qS e1) g1).elim
  .exact h.un m n cm cn x e1 e2 g1 g2
 .have hl:=h.ln x hx;unfold uS at hl ⊢;rw[e,je,cT,gJ];split
  .rename_i g;have:=hu x g;unfold uS at this;simp only[iR,dG];omega
  .simp only[iR,dE];omega
 .rcases si e1 with⟨rfl,rfl⟩|⟨hm,e1⟩<;>rcases si e2 with⟨rfl,rfl⟩|⟨hn,e2⟩
  .rfl
  .rw[hw x]at g1;cases g1
  .rw[hw x]at g2;cases g2
  .exact h.wt m n cm cn x e1 e2 g1 g2
noncomputable def pz.core(c:pz):pz:={c with way:=[],si:=0}
def ze(V V':qe):Prop:=V'.calls.map pz.core=V.calls.map pz.core
def ze.at_{V V':qe}(h:ze V V'){i:Nat}{c':pz}(e:V'.calls[i]?=some c'):∃c,V.calls[i]?=some c/\c'.core=c.core:=by
 have:=eG (·[i]?) h;simp only[dq,e]at this;cases e':V.calls[i]? with
 | none=>rw[e']at this;cases this
 | some c=>rw[e']at this;exact⟨c,rfl,c9 this⟩
def ze.used{V V':qe}(h:ze V V')(x:Str):uS V' x=uS V x:=by
 have key:∀cs:List pz,(cs.filter (·.hasB x)).length=((cs.map pz.core).filter (·.hasB x)).length:=λcs=>by rw[gQ,cQ];rfl
 unfold uS;rw[key,h,<-key]
def ze.wf{l:pE}{V V':qe}{o:Option Nat}(h:ze V V')(wf:zp l V o)(hw:∀(i:Nat) c',V'.calls[i]?=some c'->c'.way≠[]/\∀z∈c'.way,z∈l.nm)(nx:um l V'):zp l V' o:=by
 refine⟨λi c' e=>?_,λi j ci cj x e1 e2 g1 g2=>?_,λx hx=>by rw[h.used];exact wf.ln x hx,λi j ci cj x e1 e2 g1 g2=>?_,nx⟩
 .obtain⟨c,ec,ee⟩:=h.at_ e;have k:=wf.ok i c ec;have k1:c'.at_=c.at_:=show c'.core.at_=c.core.at_ by rw[ee]
  have k2:c'.ms=c.ms:=show c'.core.ms=c.core.ms by rw[ee]
  have k3:c'.cr=c.cr:=show c'.core.cr=c.core.cr by rw[ee]
  exact⟨by show QM _ c'.core;rw[ee];exact k.sh,by rw[k3];exact k.cr,by rw[k1];exact k.at_,by rw[k2];exact k.ms,by rw[k1];exact k.an,by rw[k2];exact k.mn,by rw[k1,k3];exact k.ca,hw i c' e⟩
 .obtain⟨di,a1,a2⟩:=h.at_ e1;obtain⟨dj,b1,b2⟩:=h.at_ e2;exact wf.un i j di dj x a1 b1 (by show Bb di.core x;rw[<-a2];exact g1) (by show Bb dj.core x;rw[<-b2];exact g2)
 .obtain⟨di,a1,a2⟩:=h.at_ e1;obtain⟨dj,b1,b2⟩:=h.at_ e2;exact wf.wt i j di dj x a1 b1 (by show di.core.mL x=true;rw[<-a2];exact g1) (by show dj.core.mL x=true;rw[<-b2];exact g2)
def tN.core{V V':qe}(h:tN V V'):ze V V':=by have:=eG (List.map pz.core) h;rw[dU,dU]at this;exact this
def J1(V:qe):ze V (pU V .turn):=by show(V.calls.map pz.tick).map pz.core=V.calls.map pz.core;rw[dU];refine gu λc _=>?_;show(pz.tick c).core=c.core;unfold pz.tick;split<;>rfl
def A5{l:pE}{V:qe}(wf:WF l V):WF l (pU V .turn):=(J1 V).wf wf (λi c' e=>by
 have e:(V.calls.map pz.tick)[i]?=some c':=e;rw[dq]at e;cases q:V.calls[i]? with
 | none=>rw[q]at e;cases e
 | some c=>
  rw[q]at e;have e:c.tick=c':=c9 e;have hw:c.tick.way=c.way:=by unfold pz.tick;split<;>rfl
  rw[<-e,hw];exact(wf.ok i c q).wy) wf.nx
def Uj{l:pE}{V:qe}{b:Bool}{i:Nat}(wf:WF l V):WF l (pU V (.sw b i)):=⟨wf.ok,wf.un,wf.ln,wf.wt,wf.nx⟩
def D9{l:pE}{V:qe}{o:Option Nat}{i:Nat}{z:Str}{ns:List Nat}(wf:zp l V o):zp l (pU V (.asks i z ns)) o:=⟨wf.ok,wf.un,wf.ln,wf.wt,wf.nx⟩
def Ik{l:pE}{V:qe}{o:Option Nat}{v:rK}(wf:zp l V o)(hz:v.g∈l.nm):zp l (pU V (.leg v)) o:=(zc V v).core.wf wf (λi c' e=>by
 have e:(V.calls.modify v.i (·.go v.g))[i]?=some c':=e;rw[iS]at e;cases q:V.calls[i]? with
 | none=>rw[q]at e;cases e
 | some c=>
  rw[q]at e;have k:=(wf.ok i c q).wy;have e:(if v.i=i then c.go v.g else c)=c':=c9 e;by_cases g:v.i=i
  .rw[cX g]at e;rw[<-e];refine⟨by show c.way++[v.g]≠[];simp,λz hz'=>?_⟩;rcases dR.mp (show z∈c.way++[v.g]from hz')with y|y
   .exact k.2 z y
   .rw[df.mp y];exact hz
  .rw[cV g]at e;rw[<-show c=c' from e];exact k) wf.nx
theorem Bm{l:pE}{o:Option Nat}(i:Nat):∀(st:sU) (q:Option Str) {V:qe},zp l V o->(∀s∈st,s.1∈l.nm)->zp l (qk V (rh i q st)) o
 | [],_,V,wf,_=>wf
 | (y,gs)::r,none,V,wf,h=>Bm i r (some y) (D9 wf) λs hs=>h s (dv _ hs)
 | (y,gs)::r,some u,V,wf,h=>Bm i r (some y) (D9 (Ik wf (h _ dC))) λs hs=>h s (dv _ hs)
def rn{V:qe}{i:Nat}{c:pz}{f:pz->pz}(h:V.calls[i]?=some c):(xi V i f).calls=V.calls.set i (f c):=by unfold xi;rw[tM h]
def A8{i:Nat}:∀j,j≠i->((some i:Option Nat)==some j)=((none:Option Nat)==some j):=λj hj=>by rw[show((some i:Option Nat)==some j)=false by simpa using dI hj];rfl
def U9{l:pE}{V:qe}{i:Nat}{c:pz}(wf:zp l V (some i))(hc:V.calls[i]?=some c):c.st="rings"/\c.ms=[]/\c.hd=none/\c.wd=none/\c.at_=[]:=by
 have sh:=(wf.ok i c hc).sh;rw[fC]at sh;rcases sh with g|g
 .exact⟨g.1,g.2.1,g.2.2.1,g.2.2.2.1,g.2.2.2.2.1 rfl⟩
 .cases g.1
def OY{l:pE}{c:pz}{o:Bool}{w:Str}(k:vO l o c)(hw:w∈Nt):vO l false (c.over w):=⟨.inr ⟨rfl,.inr (.inr (.inr ⟨rfl,rfl,rfl,rfl,w,hw,rfl⟩))⟩,k.cr,(λx hx=>by cases hx),(λx hx=>by cases hx),eD,eD,(λhx=>by cases hx),k.wy⟩
def wC{l:pE}{V V':qe}{o:Option Nat}{i:Nat}{c:pz}{w:Str}(wf:zp l V o)(hc:V.calls[i]?=some c)(ho:o=none\/o=some i)(hw:w∈Nt)(e:V'.calls=V.calls.set i (c.over w))(nx:um l V'):WF l V':=
 wf.set e hc (λj hj=>by rcases ho with rfl|rfl;rfl;exact A8 j hj) (OY (wf.ok i c hc) hw) (λx g=>(Gg rfl g).elim) (λx g=>by rw[Ge (c:=c.over w) rfl]at g;cases g) (λx g=>by have:=(rX.mp g).1;exact absurd this (show("over":Str)≠"waits" by decide)) nx
def HG{l:pE}{V:qe}{c z:Str}(h:(l.mE z).Nodup):(xt l V c z).Nodup:=by
 unfold xt;split
 .cases(uR (l.mE z) (y0 V z)).filter λx=>hasS (ug l V c z) x with
  | nil=>exact eD
  | cons y r=>exact dM.mpr ⟨dz,eD⟩
 .exact h.sublist fU
def LF(ps:List (Str×Int))(z:Str)(n:Int)(y:Str):(zZ ps z n).find? (λp=>decide (p.1=y))=if y=z then some (z,n)else ps.find? λp=>decide (p.1=y):=by
 unfold zZ;by_cases h:ps.any (λp=>decide (p.1=z))=true
 .rw[cX h];induction ps with
  | nil=>cases h
  | cons p r ih=>
   rw[dP,fF,fF];by_cases hp:p.1=z
   .rw[cX hp];by_cases hy:y=z
    .rw[cX hy,hy];simp[hp]
    .rw[cV hy];have n1:decide (p.1=y)=false:=eK (λq=>hy (q.symm.trans hp));simp only[n1];by_cases hr:r.any (λp=>decide (p.1=z))=true
     .have:=ih hr;rw[cV hy]at this;exact this
     .have hr:∀q∈r,¬q.1=z:=λq hq g=>hr (gx.mpr ⟨q,hq,dQ g⟩);rw[show r.map (λp=>if p.1=z then(p.1,n)else p)=r from(gu λq hq=>cV (hr q hq)).trans (i9 _)]
   .rw[cV hp];have hr:r.any (λp=>decide (p.1=z))=true:=by
     rw[fX,gP]at h;rcases h with g|g
     .exact absurd (fN g) hp
     .exact g
    have ih:=ih hr;by_cases hy:y=z
    .rw[cX hy]at ih ⊢;have n1:decide (p.1=y)=false:=eK (λq=>hp (q.trans hy));simp only[n1];exact ih
    .rw[cV hy]at ih ⊢;cases decide (p.1=y)with
     | true=>rfl
     | false=>exact ih
 .rw[cV h,List.find?_append];have hr:∀q∈ps,¬q.1=z:=λq hq g=>h (gx.mpr ⟨q,hq,dQ g⟩);by_cases hy:y=z
  .subst hy;rw[cX rfl,gR.mpr λq hq=>by simpa using hr q hq,Option.none_or];simp
  .rw[cV hy,fF,eK (λq:z=y=>hy q.symm)];simp
def Nw{l:pE}{V:qe}{z:Str}{n:Int}(h:um l V)(h0:0<=n)(h1:n<=((l.mE z).length:Int)):um l (pU V (.next z n)):=λy hy ht=>by
 show ∃v,(zZ V.ps z n).find? _=some v/\_;rw[LF];by_cases e:y=z
 .subst e;rw[cX rfl];exact⟨_,rfl,h0,h1⟩
 .rw[cV e];exact h y hy ht
def E9{l:pE}{V:qe}{x:Str}(h:tV l V x=true):(uS V x:Int)<wH l x:=fN h
def KA{l:pE}{V V':qe}{o:Option Nat}{i:Nat}{c:pz}{w x:Str}(wf:zp l V o)(hc:V.calls[i]?=some c)(e:V'.calls=V.calls.set i (c.over w))(hx:Bb c x):Df V' x:=λd hd g=>by
 rw[e]at hd;obtain⟨j,hj,ed⟩:=gL hd;have ej:(V.calls.set i (c.over w))[j]?=some d:=by rw[cU hj,ed]
 rcases E7 ej with⟨_,rfl,_⟩|⟨W8,ej⟩
 .exact Gg rfl g
 .exact W8 (wf.un j i d c x ej hc g hx)
def JQ{V V':qe}{i:Nat}{c:pz}{w x:Str}(hc:V.calls[i]?=some c)(e:V'.calls=V.calls.set i (c.over w))(hx:c.hasB x=true):uS V' x+1=uS V x:=by
 have:=EB (λk:pz=>k.hasB x) (c.over w) hc;unfold uS;rw[e];simp only[hx,iX,Ge (c:=c.over w) rfl]at this
 simpa using this
def GL{l:pE}{V V':qe}{o:Option Nat}{i j:Nat}{c d:pz}{ms:List Str}(wf:zp l V o)(ho:o=none\/o=some i)(hc:V.calls[i]?=some c)(hd:V.calls[j]?=some d)(XH:i≠j)(e:V'.calls=(V.calls.set i (c.over "merged")).set j (d.mem ms))(nx:um l V')(dt:d.st="talks")(m1:ms.Nodup)(m2:ms.length=2\/ms.length=3)(m3:∀x∈ms,x∈d.ms\/(Bb c x/\c.hasB x=true))(m4:∀x∈ms,x∈l.pn):WF l V':=by
 have e1:(xi V i (·.over "merged")).calls=V.calls.set i (c.over "merged"):=rn hc;have w1:WF l (xi V i (·.over "merged")):=wC wf hc ho (by decide) e1 wf.nx;have hd1:(xi V i (·.over "merged")).calls[j]?=some d:=by rw[e1,fA XH];exact hd
 have kd:=w1.ok j d hd1;have kd':d.hd=none/\d.wd=none/\d.at_=[]:=by
  rcases kd.sh with g|⟨_,g|g|⟨_,g⟩|g⟩
  .rw[dt]at g;exact absurd g.1 (by decide)
  .rw[dt]at g;exact absurd g.1 (by decide)
  .exact⟨g.2.2.1,g.2.2.2.1,g.2.2.2.2⟩
  .rw[dt]at g;exact absurd g.1 (by decide)
  .rw[dt]at g;exact absurd g.1 (by decide)
 refine w1.set (c':=d.mem ms) (by rw[e,e1]) hd1 (λ_ _=>rfl) ⟨.inr ⟨rfl,.inr (.inl ⟨dt,m2,kd'.1,kd'.2.1,kd'.2.2⟩)⟩,kd.cr,kd.at_,m4,kd.an,m1,kd.ca,kd.wy⟩ (λx g=>?_) (λx g=>?_) (λx g=>?_) nx
 .have g:=(tH (c:=d.mem ms) dt).mp g;rcases m3 x g with y|y
  .exact .inl ((tH dt).mpr y)
  .exact .inr (KA wf hc e1 y.1)
 .have g:=(sS (c:=d.mem ms) (.inl dt)).mp g;rcases m3 x g with y|y
  .exact .inl ((sS (.inl dt)).mpr y)
  .have:=JQ hc e1 y.2;have:=wf.ln x (m4 x g);exact .inr (by omega)
 .have:=(rX.mp g).1;rw[show(d.mem ms).st="talks" from dt]at this;exact absurd this (by decide)
def Rc{l:pE}{V V1:qe}{i:Nat}{c:pz}{e:vn}(ok:qY l)(wf:zp l V1 (some i))(same:ze V V1)(hc:V1.calls[i]?=some c)(he:GY l V c.cr e):WF l (qk V1 (sC l V1 i e)):=by
 obtain⟨p1,p2,p3,p4,p5⟩:=U9 wf hc;have k:=wf.ok i c hc;have hi:=(cS.mp hc).1;cases e with
 | rings z ps=>
  obtain⟨hz,W8,rfl⟩:=he;obtain⟨⟨q1,q2,q3,q4⟩,_⟩:=ok.of hz;obtain⟨r1,r2⟩:=FR (l:=l) (V:=V) (c:=c.cr) (z:=z);generalize YK:xt l V c.cr z=ps at W8 r1 r2;have WN:∀V2:qe,V2.calls=V1.calls->um l V2->WF l (pU V2 (.rings i ps)):=λV2 e2 nx=>by
   have e3:(pU V2 (.rings i ps)).calls=V1.calls.set i (c.ring ps):=by show(xi (qH V2 _) i _).calls=_;rw[rn (c:=c) (by show V2.calls[i]?=_;rw[e2];exact hc)];show V2.calls.set i _=_;rw[e2]
   have free:∀x∈ps,tV l V x=true/\x≠c.cr:=λx hx=>by have h:=(fE.mp (r1 x hx).1).2;simp only[dO,gD]at h;exact⟨h.2,by simpa using h.1⟩
   refine wf.set e3 hc A8 ⟨.inl ⟨rfl,p2,p3,p4,(λh=>by cases h),λ_=>W8⟩,k.cr,λx hx=>q4 x (r1 x hx).2,k.ms,by rw[<-YK];exact HG q3,k.mn,λhx=>(free _ hx).2 rfl,k.wy⟩ (λx g=>?_) (λx g=>?_) (λx g=>?_) nx
   .exact .inl ((sH p1).mpr ((sH (c:=c.ring ps) rfl).mp g))
   .rcases(sJ (c:=c.ring ps) rfl).mp g with y|y
    .exact .inl ((sJ p1).mpr (.inl y))
    .refine .inr ?_;rw[same.used];exact E9 (free x y).1
   .exact absurd (rX.mp g).1 (show("rings":Str)≠"waits" by decide)
  show WF l (qk V1 ((if (l.mM z=="turns")=true then _ else _)++[.rings i ps]));rw[qT];by_cases ht:(l.mM z=="turns")=true
  .rw[cX ht];have lp:0<(l.mE z).length:=fu.mpr q1;refine WN _ rfl (Nw wf.nx (eL _ (by omega)) (Int.le_of_lt (eI _ (by omega))))
  .rw[cV ht];exact WN V1 rfl wf.nx
 | waits z=>
  obtain⟨hz,W8,hw⟩:=he;have e3:(pU V1 (.waits i z)).calls=V1.calls.set i (c.wait z):=rn (V:=qH V1 _) hc;have hw1:Au V1 z=false:=by
   unfold Au at hw ⊢;have key:∀cs:List pz,cs.any (·.mL z)=(cs.map pz.core).any (·.mL z):=λcs=>by rw[jI];rfl
   rw[key,same,<-key];exact hw
  refine wf.set e3 hc A8 ⟨.inr ⟨rfl,.inl ⟨rfl,p2,p3,p4,rfl⟩⟩,k.cr,λx hx=>by rw[df.mp hx];exact hz,k.ms,dM.mpr ⟨dz,eD⟩,k.mn,λhx=>W8 (df.mp hx).symm,k.wy⟩ (λx g=>?_) (λx g=>?_) (λx g=>?_) wf.nx
  .exact .inl ((sH p1).mpr ((DF (c:=c.wait z) rfl).mp g))
  .exact .inl ((sJ p1).mpr (.inl ((DX (c:=c.wait z) rfl).mp g)))
  .have:=(rX.mp g).2;rw[df.mp this];exact .inr hw1
 | breaks z=>
  obtain⟨x,rfl,hb⟩:=he;obtain⟨j,d0,t1,t2,t3,t4,t5,t6⟩:=GN hb;have ht:vC V1 z=some j:=by
   rw[<-t1];unfold vC;have key:∀cs:List pz,cs.findIdx? (·.mS z)=(cs.map pz.core).findIdx? (·.mS z):=λcs=>by rw[gX];rfl
   rw[key,same,<-key]
  obtain⟨d,ed,ec⟩:∃d,V1.calls[j]?=some d/\d.core=d0.core:=by
   have:=eG (·[j]?) same;simp only[dq,t2]at this;cases q:V1.calls[j]? with
   | none=>rw[q]at this;cases this
   | some d=>rw[q]at this;exact⟨d,rfl,c9 this⟩
  have ds:d.st="talks":=by rw[show d.st=d0.st from show d.core.st=d0.core.st by rw[ec]];exact t3
  have dm:d.ms=d0.ms:=show d.core.ms=d0.core.ms by rw[ec]
  have XH:i≠j:=λy=>by subst y;rw[hc]at ed;cases ed;rw[p1]at ds;exact absurd ds (by decide)
  have ZX:sC l V1 i (.breaks z)=[.merge i j (d.ms++[c.cr])]:=by unfold sC;dsimp only;rw[ht,hc];dsimp only;rw[ed];rfl
  rw[ZX];have ncr:c.cr∉d.ms:=λy=>XH (wf.un i j c d c.cr hc ed ((sH p1).mpr rfl) ((tH ds).mpr y));have kd:=wf.ok j d ed;refine GL (V':=pU V1 (.merge i j (d.ms++[c.cr]))) (ms:=d.ms++[c.cr]) wf (.inr rfl) hc ed XH ?_ wf.nx ds ?_ (.inr ?_) (λx hx=>?_) (λx hx=>?_)
  .show(V1.calls.modify i _).modify j _=_;rw[tM hc,tM (show(V1.calls.set i _)[j]?=some d by rw[fA XH];exact ed)]
  .refine gj.mpr ⟨kd.mn,dM.mpr ⟨dz,eD⟩,λx hx y hy q=>ncr ?_⟩;rw[df.mp hy]at q;rw[<-q];exact hx
  .rw[cT,dm,t5];rfl
  .rcases dR.mp hx with y|y
   .exact .inl y
   .rw[df.mp y];exact .inr ⟨(sH p1).mpr rfl,(sJ p1).mpr (.inl rfl)⟩
  .rcases dR.mp hx with y|y
   .exact kd.ms x y
   .rw[df.mp y];exact k.cr
 | engaged z=>exact wC (V':=pU V1 (.over i "engaged")) wf hc (.inr rfl) (by decide) (rn (V:=qH V1 _) hc) wf.nx
 | barred=>exact wC (V':=pU V1 (.over i "barred")) wf hc (.inr rfl) (by decide) (rn (V:=qH V1 _) hc) wf.nx
 | ring ns=>exact wC (V':=pU V1 (.over i "ring")) wf hc (.inr rfl) (by decide) (rn (V:=qH V1 _) hc) wf.nx
def QI{l:pE}{V:qe}{i:Nat}{k:pz}(ok:qY l)(wf:zp l V (some i))(hk:V.calls[i]?=some k):WF l (qk V (vF l V i)):=by
 have Xs:=wf.ok i k hk;unfold vF;rw[hk];dsimp only[Option.elim];obtain⟨z,hz⟩:∃z,k.way.getLast?=some z:=by
  cases e:k.way.getLast? with
  | none=>exact absurd (gg.mp e) Xs.wy.1
  | some z=>exact⟨z,rfl⟩
 rw[show k.way.getLastD Str.empty=z by rw[gG,hz];rfl];have ro:wG l V k.cr (l.nm.length+1) [] (uz l V k.cr z k.way.dropLast):=xD ok _ _ _ _ (Xs.wy.2 z (ia hz)) λx hx=>Xs.wy.2 x (ib _ hx);generalize uz l V k.cr z k.way.dropLast=R at ro;obtain⟨e,st⟩:=R;have snm:∀s∈st,s.1∈l.nm:=λs hs=>(ro.nm s hs).elim (λh=>by cases h) id;have w1:=Bm i st none wf snm;have Xk:=uE i st none V;rw[qT,qT];dsimp only;have WN:∀V1:qe,zp l V1 (some i)->tN V V1->WF l (qk V1 (sC l V i e)):=λV1 w s=>by
  rw[<-s.ends];obtain⟨c',e1,e2⟩:=s.at_ hk;have hcr:c'.cr=k.cr:=show c'.bare.cr=k.bare.cr by rw[e2]
  exact Rc ok w s.core e1 (by rw[hcr];exact ro.e)
 cases e with
 | ring ns=>
  obtain⟨x,ns',rfl⟩:=fZ (show ns≠[]from ro.e);cases hl:st.getLast? with
  | none=>rw[show sW i st (.ring (x::ns'))=[]by unfold sW;dsimp only;rw[hl];rfl];exact WN _ w1 Xk
  | some s0=>rw[show sW i st (.ring (x::ns'))=[.leg ⟨i,s0.1,x,s0.1⟩]by unfold sW;dsimp only;rw[hl];rfl];exact WN _ (Ik (v:=⟨i,s0.1,x,s0.1⟩) w1 (ro.wy _ rfl x dC)) (Xk.trans (zc _ _))
 | rings _ _=>exact WN _ w1 Xk
 | waits _=>exact WN _ w1 Xk
 | breaks _=>exact WN _ w1 Xk
 | engaged _=>exact WN _ w1 Xk
 | barred=>exact WN _ w1 Xk
def Fg{l:pE}{V:qe}{y z:Str}(wf:WF l V)(hy:y∈l.pn)(hz:z∈l.nm)(hi:Df V y)(hf:tV l V y=true):zp l (qk V [.new V.calls.length y,.leg ⟨V.calls.length,y,z,y⟩]) (some V.calls.length):=by
 have e:(qk V [.new V.calls.length y,.leg ⟨V.calls.length,y,z,y⟩]).calls=V.calls++[(yV y).go z]:=by show(V.calls++[yV y]).modify V.calls.length _=_;rw[tM (c:=yV y) (by rw[eF (cZ _),gI];rfl),j8 _ _ (cZ _),gI];rfl
 refine wf.add e ⟨.inl ⟨rfl,rfl,rfl,rfl,λ_=>rfl,(λh=>by cases h)⟩,hy,(λx h=>by cases h),(λx h=>by cases h),eD,eD,(λh=>by cases h),ft _ _,λx h=>by rw[df.mp h];exact hz⟩ (λx h=>?_) (λx h=>?_) (λx=>?_) wf.nx
 .rw[(sH (c:=(yV y).go z) rfl).mp h];exact hi
 .rcases(sJ (c:=(yV y).go z) rfl).mp h with g|g
  .rw[g];exact E9 hf
  .cases g
 .cases q:((yV y).go z).mL x with
  | false=>rfl
  | true=>exact absurd (rX.mp q).1 (show("rings":Str)≠"waits" by decide)
def HJ{V:qe}{y z:Str}:∃k,(qk V [.new V.calls.length y,.leg ⟨V.calls.length,y,z,y⟩]).calls[V.calls.length]?=some k:=by
 have:V.calls.length<(qk V [.new V.calls.length y,.leg ⟨V.calls.length,y,z,y⟩]).calls.length:=by show V.calls.length<((V.calls++[yV y]).modify _ _).length;rw[eP,cT];exact fk _
 exact⟨_,cU this⟩
def Bi{l:pE}{V:qe}{i:Nat}{c:pz}{x y:Str}{fs:List Nat}(wf:WF l V)(hc:V.calls[i]?=some c)(hs:c.st="rings")(hy:y∈l.nm):zp l (qk V [.asks i x fs,.quiet i,.leg ⟨i,x,y,x⟩]) (some i):=by
 refine Ik (v:=⟨i,x,y,x⟩) ?_ hy;have k:=wf.ok i c hc;have w1:WF l (pU V (.asks i x fs)):=D9 wf;have sh:c.ms=[]/\c.hd=none/\c.wd=none:=by
  rcases k.sh with g|⟨_,g|g|⟨_,g⟩|g⟩
  .exact⟨g.2.1,g.2.2.1,g.2.2.2.1⟩
  all_goals(rw[hs]at g;exact absurd g.1 (by decide))
 refine w1.set (i:=i) (c:=c) (c':=c.nF) (rn (V:=qH (pU V (.asks i x fs)) _) hc) hc (λj hj=>(A8 j hj).symm) ?_ (λx g=>.inl ?_) (λx g=>.inl ?_) (λx g=>?_) wf.nx
 .rw[fC];exact⟨.inl ⟨hs,sh.1,sh.2.1,sh.2.2,λ_=>rfl,(λh=>by cases h)⟩,k.cr,(λx h=>by cases h),k.ms,eD,k.mn,(λh=>by cases h),k.wy⟩
 .exact(sH hs).mpr ((sH (c:=c.nF) hs).mp g)
 .rcases(sJ (c:=c.nF) hs).mp g with y|y
  .exact(sJ hs).mpr (.inl y)
  .cases y
 .have:=(rX.mp g).1;rw[show c.nF.st="rings" from hs]at this;exact absurd this (by decide)
inductive UU(l:pE)(V:qe)(i:Nat):List Nat->Prop
 | no:UU l V i []
 | on (c:pz) (k:Nat) (r:List Nat) (b:Bool) (x y:Str) (n:Int):V.calls[i]?=some c->c.st="rings"->l.mF[k]?=some (b,.silent x y n)->c.way.getLast?=some x->y∈l.nm->UU l V i (k::r)
def Ez{l:pE}{V:qe}{i:Nat}(ok:qY l):UU l V i (yf l V i):=by
 unfold yf;cases e:V.calls[i]? with
 | none=>exact .no
 | some c=>
  dsimp only[Option.elim];by_cases hs:(c.st=="rings")=true
  .rw[cX hs];cases q:HS l V (Gh c)with
   | nil=>exact .no
   | cons k r=>
    obtain⟨⟨b,w⟩,e1,e2⟩:=Fd (i:=k) (by rw[q];exact dC);cases w with
    | silent x y n=>unfold Gh at e2;rw[dO,eY]at e2;exact .on c k r b x y n e (eq_of_beq hs) e1 e2.1 (BJ ok (fi e1) (z:=Str.empty) rfl)
    | _=>cases e2
  .rw[cV hs];exact .no
def xS{l:pE}{V:qe}{i k:Nat}{r:List Nat}{b:Bool}{x y:Str}{n:Int}(h:l.mF[k]?=some (b,.silent x y n)):tK l V i (k::r)=[.asks i x (k::r),.quiet i,.leg ⟨i,x,y,x⟩]++vF l (qk V [.asks i x (k::r),.quiet i,.leg ⟨i,x,y,x⟩]) i:=by unfold tK;simp only[List.head?_cons,lR,h]
def A7{V:qe}{i:Nat}{c:pz}{x y:Str}{fs:List Nat}(h:V.calls[i]?=some c):(qk V [.asks i x fs,.quiet i,.leg ⟨i,x,y,x⟩]).calls[i]?=some (c.nF.go y):=by show((V.calls.modify i pz.nF).modify i _)[i]?=_;rw[iS,iS,h];simp
def D3{l:pE}{V:qe}{i:Nat}(ok:qY l)(wf:WF l V):WF l (qk V (tK l V i (yf l V i))):=by
 have d:=Ez (V:=V) (i:=i) ok;generalize yf l V i=fs at d;cases d with
 | no=>exact wf
 | on c k r b x y n hc hs hk hw hy=>rw[xS hk,qT];exact QI ok (Bi wf hc hs hy) (A7 hc)
theorem Ex{l:pE}(ok:qY l):∀(is:List Nat) {V:qe},WF l V->WF l (qk V (rj l is V))
 | [],_,wf=>wf
 | i::r,V,wf=>by unfold rj;rw[qT];exact Ex ok r (D3 ok wf)
theorem DS(l:pE)(i:Nat):∀(is:List Nat) (V:qe),rj l (is++[i]) V=rj l is V++tK l (qk V (rj l is V)) i (yf l (qk V (rj l is V)) i)
 | [],V=>by show tK l V i _++[]=[]++_;rw[eU];rfl
 | j::r,V=>by show tK l V j _++rj l (r++[i]) _=(tK l V j _++rj l r _)++_;rw[DS l i r,fh,show rj l (j::r) V=tK l V j (yf l V j)++rj l r (qk V (tK l V j (yf l V j)))from rfl,qT]
def tS{ss:List Str}{x y:Str}:y∈rD ss x↔y∈ss/\y≠x:=by unfold rD;rw[fE,gD,gq]
theorem xJ{x:Str}:∀{ss:List Str},ss.Nodup->x∈ss->(rD ss x).length+1=ss.length
 | [],_,h=>by cases h
 | y::r,nd,h=>by
  have nd:=dM.mp nd;unfold rD;rw[gJ];by_cases e:y=x
  .subst e;rw[show(!(y==y))=false by simp,cV (by decide),kD.mpr λz hz=>by
    have:z≠y:=λq=>nd.1 (q ▸ hz)
    simpa using this]
   rfl
  .have h:x∈r:=by
    rcases cY.mp h with q|q
    .exact absurd q.symm e
    .exact q
   rw[cX (by simpa using e)];have:=xJ nd.2 h;unfold rD at this;rw[dZ,dZ,this]
def P7{l:pE}{V:qe}{i:Nat}{c:pz}{x:Str}(wf:WF l V)(hc:V.calls[i]?=some c)(hl:c.nu x=true):WF l (qk V (uV V x i)):=by
 have k:=wf.ok i c hc;unfold uV;rw[hc];dsimp only[Option.elim];by_cases h1:c.mR x=true
 .rw[cX h1];exact wC (V':=pU V (.over i "left")) wf hc (.inl rfl) (by decide) (rn (V:=qH V _) hc) wf.nx
 .rw[cV h1];have e1:(pU V (.leaves i x)).calls=V.calls.set i (c.drop x):=rn (V:=qH V _) hc;by_cases h2:hasS c.at_ x=true
  .rw[cX h2];by_cases h3:rD c.at_ x=[]
   .rw[cX h3];refine wC (V':=pU (pU V (.leaves i x)) (.over i "refused")) wf hc (.inl rfl) (by decide) (w:="refused") ?_ wf.nx;have h4:(pU V (.leaves i x)).calls[i]?=some (c.drop x):=by rw[e1,fB (cS.mp hc).1]
    show(xi (qH (pU V (.leaves i x)) _) i _).calls=_;rw[rn (V:=qH (pU V (.leaves i x)) _) h4];show(pU V (.leaves i x)).calls.set i _=_;rw[e1,jE];rfl
   .rw[cV h3];have hs:c.st="rings"/\c.ms=[]/\c.hd=none/\c.wd=none:=by
     rcases k.sh with g|⟨_,g|g|⟨_,g⟩|g⟩
     .exact⟨g.1,g.2.1,g.2.2.1,g.2.2.2.1⟩
     .exfalso;have:=xJ k.an (qP.mp h2);rw[g.2.2.2.2]at this;exact h3 (gm.mp (by omega))
     .rw[g.2.2.2.2]at h2;cases h2
     .rw[g.2.2.2.2.2]at h2;cases h2
     .rw[g.2.2.2.1]at h2;cases h2
    refine wf.set (V':=pU V (.leaves i x)) (c':=c.drop x) e1 hc (λ_ _=>rfl) ⟨.inl ⟨hs.1,by show rD c.ms x=[];rw[hs.2.1];rfl,hs.2.2.1,hs.2.2.2,(λh=>by cases h),λ_=>h3⟩,k.cr,λy hy=>k.at_ y (tS.mp hy).1,λy hy=>k.ms y (tS.mp hy).1,k.an.sublist fU,k.mn.sublist fU,λhy=>k.ca (tS.mp hy).1,k.wy⟩ (λy g=>?_) (λy g=>?_) (λy g=>?_) wf.nx
    .exact .inl ((sH hs.1).mpr ((sH (c:=c.drop x) hs.1).mp g))
    .refine .inl ((sJ hs.1).mpr (((sJ (c:=c.drop x) hs.1).mp g).imp id λh=>(tS.mp h).1))
    .have:=(rX.mp g).1;rw[show(c.drop x).st="rings" from hs.1]at this;exact absurd this (by decide)
  .rw[cV h2];by_cases h3:2<c.ms.length
   .rw[cX h3];have hx:x∈c.ms:=by unfold pz.nu at hl;rw[dD.mpr h1,dD.mpr h2,fL,fL]at hl;exact qP.mp hl
    have hs:c.st="talks"/\c.ms.length=3/\c.hd=none/\c.wd=none/\c.at_=[]:=by
     rcases k.sh with g|⟨_,g|g|⟨_,g⟩|g⟩
     .rw[g.2.1]at h3;cases h3
     .rw[g.2.1]at h3;cases h3
     .exact⟨g.1,g.2.1.elim (λq=>by omega) id,g.2.2⟩
     .omega
     .rw[g.2.1]at h3;cases h3
    have dl:=xJ k.mn hx;refine wf.set (V':=pU V (.leaves i x)) (c':=c.drop x) e1 hc (λ_ _=>rfl) ⟨.inr ⟨rfl,.inr (.inl ⟨hs.1,.inl (by show(rD c.ms x).length=2;omega),hs.2.2.1,hs.2.2.2.1,by show rD c.at_ x=[];rw[hs.2.2.2.2];rfl⟩)⟩,k.cr,λy hy=>k.at_ y (tS.mp hy).1,λy hy=>k.ms y (tS.mp hy).1,k.an.sublist fU,k.mn.sublist fU,λhy=>k.ca (tS.mp hy).1,k.wy⟩ (λy g=>?_) (λy g=>?_) (λy g=>?_) wf.nx
    .exact .inl ((tH hs.1).mpr (tS.mp ((tH (c:=c.drop x) hs.1).mp g)).1)
    .exact .inl ((sS (.inl hs.1)).mpr (tS.mp ((sS (c:=c.drop x) (.inl hs.1)).mp g)).1)
    .have:=(rX.mp g).1;rw[show(c.drop x).st="talks" from hs.1]at this;exact absurd this (by decide)
   .rw[cV h3];exact wC (V':=pU V (.over i "done")) wf hc (.inl rfl) (by decide) (rn (V:=qH V _) hc) wf.nx
def Kp{l:pE}{V:qe}{i:Nat}{c:pz}{x:Str}(wf:WF l V)(hc:V.calls[i]?=some c)(hx:hasS c.at_ x=true)(hi:Df V x)(hf:c.mL x=true->tV l V x=true):WF l (pU V (.talks i [c.cr,x])):=by
 have k:=wf.ok i c hc;have hx:=qP.mp hx;have W8:c.cr≠x:=λq=>k.ca (q ▸ hx);have hs:(c.st="rings"\/c.st="waits")/\c.wd=none:=by
  rcases k.sh with g|⟨_,g|g|⟨_,g⟩|g⟩
  .exact⟨.inl g.1,g.2.2.2.1⟩
  .exact⟨.inr g.1,g.2.2.2.1⟩
  .rw[g.2.2.2.2]at hx;cases hx
  .rw[g.2.2.2.2.2]at hx;cases hx
  .rw[g.2.2.2.1]at hx;cases hx
 have ec:Bb c c.cr/\c.hasB c.cr=true:=by
  rcases hs.1 with g|g
  .exact⟨(sH g).mpr rfl,(sJ g).mpr (.inl rfl)⟩
  .exact⟨(DF g).mpr rfl,(DX g).mpr rfl⟩
 refine wf.set (V':=pU V (.talks i [c.cr,x])) (c':=c.nA [c.cr,x]) (rn (V:=qH V _) hc) hc (λ_ _=>rfl) ⟨.inr ⟨rfl,.inr (.inl ⟨rfl,.inl rfl,rfl,hs.2,rfl⟩)⟩,k.cr,(λy h=>by cases h),(λy h=>?_),eD,?_,(λh=>by cases h),k.wy⟩ (λy g=>?_) (λy g=>?_) (λy g=>?_) wf.nx
 .rcases cY.mp h with g|g
  .rw[g];exact k.cr
  .rw[df.mp g];exact k.at_ x hx
 .exact dM.mpr ⟨λh=>W8 (df.mp h),dM.mpr ⟨dz,eD⟩⟩
 .rcases cY.mp ((tH (c:=c.nA [c.cr,x]) rfl).mp g)with h|h
  .rw[h];exact .inl ec.1
  .rw[df.mp h];exact .inr hi
 .rcases cY.mp ((sS (c:=c.nA [c.cr,x]) (.inl rfl)).mp g)with h|h
  .rw[h];exact .inl ec.2
  .rw[df.mp h];rcases hs.1 with q|q
   .exact .inl ((sJ q).mpr (.inr hx))
   .exact .inr (E9 (hf (rX.mpr ⟨q,hx⟩)))
 .exact absurd (rX.mp g).1 (show("talks":Str)≠"waits" by decide)
def Aa{c:pz}{x:Str}:c.mU x=true↔c.st="talks"/\x∈c.ms/\c.ms.length=2:=by unfold pz.mU pz.mS;rw[dO,dO,eY,qP,eY,and_assoc]
def MY{l:pE}{c:pz}(k:vO l false c)(h:c.st="talks"):c.hd=none/\c.wd=none/\c.at_=[]:=by
 rcases k.sh with g|⟨_,g|g|⟨_,g⟩|g⟩
 .rw[h]at g;exact absurd g.1 (by decide)
 .rw[h]at g;exact absurd g.1 (by decide)
 .exact g.2.2
 .rw[h]at g;exact absurd g.1 (by decide)
 .rw[h]at g;exact absurd g.1 (by decide)
def EU{l:pE}{c:pz}{x:Str}(k:vO l false c)(h:c.hd=some x):c.st="held"/\c.ms.length=2/\x∈c.ms/\c.wd=none/\c.at_=[]:=by
 rcases k.sh with g|⟨_,g|g|⟨y,g⟩|g⟩
 .rw[h]at g;cases g.2.2.1
 .rw[h]at g;cases g.2.2.1
 .rw[h]at g;cases g.2.2.1
 .have e:=g.2.2.1;rw[h]at e;cases e;exact⟨g.1,g.2.1,g.2.2.2⟩
 .rw[h]at g;cases g.2.2.1
def NX{l:pE}{V:qe}{i:Nat}{c:pz}{x:Str}(wf:WF l V)(hc:V.calls[i]?=some c)(hx:c.mU x=true):WF l (pU V (.held i x)):=by
 have k:=wf.ok i c hc;obtain⟨h1,h2,h3⟩:=Aa.mp hx;obtain⟨s1,s2,s3⟩:=MY k h1;refine wf.set (V':=pU V (.held i x)) (c':=c.hold x) (rn (V:=qH V _) hc) hc (λ_ _=>rfl) ⟨.inr ⟨rfl,.inr (.inr (.inl ⟨x,rfl,h3,rfl,h2,s2,s3⟩))⟩,k.cr,k.at_,k.ms,k.an,k.mn,k.ca,k.wy⟩ (λy g=>.inl ?_) (λy g=>.inl ?_) (λy g=>?_) wf.nx
 .exact(tH h1).mpr ((Bo (c:=c.hold x) rfl).mp g).1
 .exact(sS (.inl h1)).mpr ((sS (c:=c.hold x) (.inr rfl)).mp g)
 .exact absurd (rX.mp g).1 (show("held":Str)≠"waits" by decide)
def Os{l:pE}{V:qe}{i:Nat}{c:pz}{x:Str}(wf:WF l V)(hc:V.calls[i]?=some c)(hx:c.hd=some x)(hi:Df V x):WF l (pU V (.talks i c.ms)):=by
 have k:=wf.ok i c hc;obtain⟨h1,h2,h3,h4,h5⟩:=EU k hx;refine wf.set (V':=pU V (.talks i c.ms)) (c':=c.nA c.ms) (rn (V:=qH V _) hc) hc (λ_ _=>rfl) ⟨.inr ⟨rfl,.inr (.inl ⟨rfl,.inl h2,rfl,h4,rfl⟩)⟩,k.cr,(λy h=>by cases h),k.ms,eD,k.mn,(λh=>by cases h),k.wy⟩ (λy g=>?_) (λy g=>.inl ?_) (λy g=>?_) wf.nx
 .have g:=(tH (c:=c.nA c.ms) rfl).mp g;by_cases e:y=x
  .rw[e];exact .inr hi
  .exact .inl ((Bo h1).mpr ⟨g,λq=>e (c9 (q.symm.trans hx))⟩)
 .exact(sS (.inr h1)).mpr ((sS (c:=c.nA c.ms) (.inl rfl)).mp g)
 .exact absurd (rX.mp g).1 (show("talks":Str)≠"waits" by decide)
def Ds{c:pz}{x:Str}(nd:c.ms.Nodup)(h2:c.ms.length=2)(hx:x∈c.ms):qy c x∈c.ms/\qy c x≠x:=by
 have dl:=xJ nd hx;obtain⟨y,r,e⟩:=List.exists_cons_of_length_pos (show 0<(rD c.ms x).length by omega);have hm:y∈rD c.ms x:=by rw[e];exact dC
 unfold qy;rw[e];exact tS.mp hm
def Fm{l:pE}{V:qe}{i j:Nat}{c d:pz}{w x:Str}(wf:WF l V)(hc:V.calls[i]?=some c)(hd:V.calls[j]?=some d)(h1:c.hd=some x)(h2:d.mU x=true):i≠j/\WF l (pU V (.merge i j (if (w=="hand")=true then[qy c x,qy d x]else[x,qy c x,qy d x]))):=by
 have k:=wf.ok i c hc;have kd:=wf.ok j d hd;obtain⟨c1,c2,c3,c4,c5⟩:=EU k h1;obtain⟨d1,d2,d3⟩:=Aa.mp h2;obtain⟨a1,a2⟩:=Ds k.mn c2 c3;obtain⟨b1,b2⟩:=Ds kd.mn d3 d2;have XH:i≠j:=λq=>by subst q;rw[hc]at hd;cases hd;rw[c1]at d1;exact absurd d1 (by decide)
 refine⟨XH,?_⟩;have ea:Bb c (qy c x):=(Bo c1).mpr ⟨a1,λq=>a2 (c9 (q.symm.trans h1))⟩;have ab:qy c x≠qy d x:=λq=>XH (wf.un i j c d _ hc hd ea (by rw[q];exact(tH d1).mpr b1));generalize hms:(if (w=="hand")=true then[qy c x,qy d x]else[x,qy c x,qy d x])=ms;have mm:∀y∈ms,y=x\/y=qy c x\/y=qy d x:=λy hy=>by
  rw[<-hms]at hy;split at hy
  .rcases cY.mp hy with g|g
   .exact .inr (.inl g)
   .exact .inr (.inr (df.mp g))
  .rcases cY.mp hy with g|g
   .exact .inl g
   .rcases cY.mp g with g|g
    .exact .inr (.inl g)
    .exact .inr (.inr (df.mp g))
 have n2:[qy c x,qy d x].Nodup:=dM.mpr ⟨λh=>ab (df.mp h),dM.mpr ⟨dz,eD⟩⟩;refine GL (V':=pU V (.merge i j ms)) (ms:=ms) wf (.inl rfl) hc hd XH ?_ wf.nx d1 ?_ ?_ (λy hy=>?_) (λy hy=>?_)
 .show(V.calls.modify i _).modify j _=_;rw[tM hc,tM (show(V.calls.set i _)[j]?=some d by rw[fA XH];exact hd)]
 .rw[<-hms];split
  .exact n2
  .refine dM.mpr ⟨λh=>?_,n2⟩;rcases cY.mp h with g|g
   .exact a2 g.symm
   .exact b2 (df.mp g).symm
 .rw[<-hms];split
  .exact .inl rfl
  .exact .inr rfl
 .rcases mm y hy with g|g|g
  .rw[g];exact .inl d2
  .rw[g];exact .inr ⟨ea,(sS (.inr c1)).mpr a1⟩
  .rw[g];exact .inl b1
 .rcases mm y hy with g|g|g
  .rw[g];exact k.ms x c3
  .rw[g];exact k.ms _ a1
  .rw[g];exact kd.ms _ b1
def Sm{V:qe}{i:Int}(h:zr V.calls.length i=true):∃c,V.calls[i.toNat]?=some c:=by unfold zr at h;rw[dO,dY,dY]at h;exact⟨_,cU (by omega)⟩
def Ep{V:qe}{x:Str}{b:Bool}(h:(if ((uy V x).isNone&&b)=true then some ("full":Str)else uy V x)=none):uy V x=none/\b=false:=by
 cases e:uy V x with
 | some w=>rw[e]at h;cases h
 | none=>
  rw[e]at h;cases b with
  | true=>cases h
  | false=>exact⟨rfl,rfl⟩
inductive Dw(l:pE)(V:qe)(x:Str):Str->List Int->Prop
 | answer (i:Int) (c:pz):0<=i->V.calls[i.toNat]?=some c->hasS c.at_ x=true->Df V x->(c.mL x=true->tV l V x=true)->Dw l V x "answer" [i]
 | hang (i:Int) (c:pz):0<=i->V.calls[i.toNat]?=some c->c.nu x=true->Dw l V x "hang" [i]
 | hold (i:Int) (c:pz):0<=i->V.calls[i.toNat]?=some c->c.mU x=true->Dw l V x "hold" [i]
 | back (i:Int) (c:pz):0<=i->V.calls[i.toNat]?=some c->c.hd=some x->Df V x->Dw l V x "back" [i]
 | two (w:Str) (i j:Int) (c d:pz):0<=i->0<=j->w="hand"\/w="join"->V.calls[i.toNat]?=some c->V.calls[j.toNat]?=some d->c.hd=some x->d.mU x=true->Dw l V x w [i,j]
def EE{l:pE}{V:qe}{w x:Str}{ns:List Int}(f:(tR.num w x ns).ng)(h:xj l V (.num w x ns)=none):x∈l.pn/\Dw l V x w ns:=by
 have hp:hasS l.pn x=true:=by
  cases q:hasS l.pn x with
  | true=>rfl
  | false=>unfold xj at h;dsimp only at h;rw[cX q]at h;cases h
 refine⟨qP.mp hp,?_⟩;unfold xj at h;dsimp only at h;rw[cV (by rw[hp];decide)]at h;unfold Mg at h;cases q1:ns.all (zr V.calls.length)with
 | false=>rw[cX q1]at h;cases h
 | true=>
 rw[cV (by rw[q1];decide)]at h;cases q2:Je w x (tI V ns)with
 | false=>rw[cX q2]at h;cases h
 | true=>
 rw[cV (by rw[q2];decide)]at h;have z:∀i∈ns,0<=i/\∃c,V.calls[i.toNat]?=some c:=λi hi=>by have g:=eA.mp q1 i hi;refine⟨?_,Sm g⟩;unfold zr at g;rw[dO,dY]at g;exact g.1
 rcases f with⟨fw,fl⟩|⟨fw,fl⟩
 .match ns,fl with
  | [i],_=>
   obtain⟨hi,c,hc⟩:=z i dC;have ec:tI V [i]=[c]:=by unfold tI;rw[fT,hc];rfl
   rw[ec]at h q2;rcases fw with rfl|rfl|rfl|rfl
   .rw[cV (by decide)]at h;obtain⟨h1,h2⟩:=Ep h;refine .answer i c hi hc q2 (EN h1) λhw=>?_;have h2:(c.mL x&&!(tV l V x))=false:=h2;rw[hw]at h2
    simpa using h2
   .exact .hang i c hi hc q2
   .exact .hold i c hi hc q2
   .rw[cV (by decide)]at h;exact .back i c hi hc (eq_of_beq q2) (EN (Ep h).1)
 .match ns,fl with
  | [i,j],_=>
   obtain⟨hi,c,hc⟩:=z i dC;obtain⟨hj,d,hd⟩:=z j (dv _ dC);have ec:tI V [i,j]=[c,d]:=by unfold tI;rw[fT,hc];dsimp only;rw[fT,hd];rfl
   rw[ec]at q2;have q3:((c.hd==some x)&&d.mU x)=true:=by rcases fw with rfl|rfl<;>exact q2
   rw[dO]at q3;exact .two w i j c d hi hj fw hc hd (eq_of_beq q3.1) q3.2
def A6{l:pE}{V:qe}{y z:Str}(h:xj l V (.call y z)=none):y∈l.pn/\z∈l.nm/\Df V y/\tV l V y=true:=by
 unfold xj at h;dsimp only at h;cases q:hasS l.pn y with
 | false=>rw[cX q]at h;cases h
 | true=>
 rw[cV (by rw[q];decide)]at h;unfold GU at h;cases q1:hasS l.nm z with
 | false=>rw[cX q1]at h;cases h
 | true=>
 rw[cV (by rw[q1];decide)]at h;obtain⟨h1,h2⟩:=Ep h;exact⟨qP.mp q,qP.mp q1,EN h1,by simpa using h2⟩
def Qw{l:pE}{V:qe}{b:Bool}{i:Int}(h:xj l V (.sw b i)=none):0<=i/\i.toNat<V.on.length:=by
 unfold xj Qd at h;dsimp only at h;cases q:zr V.on.length i with
 | false=>rw[cX q]at h;cases h
 | true=>unfold zr at q;rw[dO,dY,dY]at q;omega
def xc{V:qe}{w x:Str}{i:Nat}{c:pz}(h:V.calls[i]?=some c):AR V w x i=if (w=="answer")=true then .talks i [c.cr,x]else if (w=="hold")=true then .held i x else .talks i c.ms:=by unfold AR;rw[h];rfl
def Fz{V:qe}{w x:Str}{i j:Nat}{c d:pz}(h:V.calls[i]?=some c)(g:V.calls[j]?=some d):Dn V w x i j=.merge i j (if (w=="hand")=true then[qy c x,qy d x]else[x,qy c x,qy d x]):=by unfold Dn;rw[h,g];rfl
def Tg{l:pE}{V:qe}{e:tR}(ok:qY l)(wf:WF l V)(f:e.ng)(h:xj l V e=none):WF l (qk V (wc l V e)):=by
 cases e with
 | call y z=>obtain⟨h1,h2,h3,h4⟩:=A6 h;obtain⟨k,hk⟩:=HJ (V:=V) (y:=y) (z:=z);show WF l (qk V (_++vF l _ _));rw[qT];exact QI ok (Fg wf h1 h2 h3 h4) hk
 | turn=>exact Ex ok _ (A5 wf)
 | sw b i=>exact Uj wf
 | num w x ns=>
  obtain⟨_,n⟩:=EE f h;cases n with
  | answer i c hi hc h1 h2 h3=>show WF l (pU V (AR V "answer" x i.toNat));rw[xc hc];exact Kp wf hc h1 h2 h3
  | hang i c hi hc h1=>exact P7 wf hc h1
  | hold i c hi hc h1=>show WF l (pU V (AR V "hold" x i.toNat));rw[xc hc];exact NX wf hc h1
  | back i c hi hc h1 h2=>show WF l (pU V (AR V "back" x i.toNat));rw[xc hc];exact Os wf hc h1 h2
  | two _ i j c d hi hj hw hc hd h1 h2=>show WF l (pU V (Dn V w x i.toNat j.toNat));rw[Fz hc hd];exact(Fm wf hc hd h1 h2).2
def Oh(a:Ad):rb:=λds M Q=>Mu λM0 b A V l c n x i k=>ds=[.ref b,.str x,.int ((i:Nat):Int)]/\ub a M0 M b A V l c n/\c<=1000000/\n<=7000000/\V.calls[i]?=some k/\∀M' A',ub a M0 M' b A' (qk V (uV V x i)) l c (n+2)->qM A M A' M'->Q .mI M'
def Pv(a:Ad):rb:=λds M Q=>IE λA V l L k c=>ds=[.ref A.b,.ref (rA.p k)]/\Rd a M A V l/\rJ a M L k c/\Q (vY (HS l V (Gh c))) M
def Ot(a:Ad):rb:=λds M Q=>Mu λM0 b A V l c n i k r=>ds=[.ref b,.int ((i:Nat):Int),vY (k::r)]/\ub a M0 M b A V l c n/\c<=1000000/\n<=6900000/\WF l V/\UU l V i (k::r)/\∀M' A',ub a M0 M' b A' (qk V (tK l V i (k::r))) l c (n+33)->qM A M A' M'->Q .mI M'
def OK(a:Ad):rb:=λds M Q=>SS λM0 b A V l c n=>ds=[.ref b]/\ub a M0 M b A V l c n/\c<=10000/\n<=6000000/\WF l V/\∀M' A',ub a M0 M' b A' (qk V (FD l V)) l c (n+1+33*c)->qM A M A' M'->Q .mI M'
def Sf{a:Ad}{M:Mp}{L:List Addr}{k:rA}{c:pz}{v:Wi}{r:Addr}{Q:DK}(h:M r=some (.ins (v.cls a) v.nG))(hk:rJ a M L k c)(q:Q (.bl (Gh c v)) M):LZ a v [.ref r,.ref k.p] M Q:=by
 cases v with
 | silent x y n=>exact⟨r,L,k,c,rfl,h,hk,q⟩
 | _=>exact⟨_,_,rfl,q⟩
def NS(G:Gl K mg a):Fq P w K mg base 4 a.a9 (Oh a):=by
 refine fq G.a9.toDG Bp (λr u=>⟨_,(pb (pK 3 Bp (pI (pA v0) U2))
 (pj (pP (vK (pT U3 G.e.toCls G.X (BW G) r (qb U1)))
 (pj (pL (pT v0 G.c.toCls G.k (qK G) r (qb (pM (ra pq U2 pq))))))
 (pj (pP (pG u U1 (pA U3))
 (pb (pL (pT v0 G.c.toCls G.k (qK G) r (qb (pM (ra pq U2 U1)))))
 (pj (pP (pG u (pQ qu rfl G.g qp (qb (pA U3))) pk)
 (pj (pL (pT v0 G.c.toCls G.k (qK G) r (qb (pM (ra pq U2 pq))))))
 pH)))
 (pj (pP (pG u (pQ qu rfl G.g qp (qb (pA U3))) pk)
 (pj (pL (pT v0 G.c.toCls G.k (qK G) r (qb (pM (ra pq U2 U1))))))
 (pj (pL (pT v0 G.c.toCls G.k (qK G) r (qb (pM (ra pq U2 pq))))))))))))),?_⟩)
 rintro ds M Q ⟨M0,b,A,V,l,cc,n,x,i,c,rfl,cu,Za,hn,hc,q⟩
 obtain⟨ka,ci⟩:=cu.call hc;obtain⟨ad,md,h1,h2,h3,h4,n1,n2⟩:=ci.cell;have hi:=(cS.mp hc).1;refine pf cu.at_ (i' rfl (i' rfl (i' ci.bd.ca (i' (rf ci.e1) ?_))));refine pf h1 ⟨rfl,_,⟨rfl,rfl⟩,_,ka,c,x,rfl,ci.cell,?_⟩;unfold uV at q;rw[hc]at q;dsimp only[Option.elim]at q;have over:∀(w0:Str),(∀M' A',ub a M0 M' b A' (qk V [.over i w0]) l cc (n+2)->qM A M A' M'->Q .mI M')->∀(M1:Mp) (A1:sZ),A1.b=A.b->qM A M A1 M1->pJ a M1 A1 (pU V (.over i w0))->∃WM,qm WM M1/\Q .mI WM:=λw0 q M1 A1 eb st bd=>⟨M1,.refl,q M1 A1 ((cu.after (e:=.over i w0) hi eb st bd).mono (cZ _) (by omega)) st⟩;refine qF (c:=c.mR x) (λg=>?_) (λg=>?_)
 .rw[cX g]at q;exact pf cu.at_ ⟨rfl,_,⟨rfl,rfl⟩,oZ rfl,b,A,V,.over i "left",rfl,cu.b,cu.bd,cu.lim Za (by omega),hi,over "left" q⟩
 rw[cV g]at q;refine pf h1 (i' rfl (i' h3 ⟨rfl,qx _,?_⟩));show if inD (.str x) (c.at_.map D.str)=true then _ else _
 rw[sr];refine qF (c:=hasS c.at_ x) (λg2=>?_) (λg2=>?_)
 .rw[cX g2]at q;refine pf cu.at_ ⟨rfl,_,⟨rfl,rfl⟩,oZ rfl,b,A,V,.leaves i x,rfl,cu.b,cu.bd,cu.lim Za (by omega),hi,λM1 A1 eb st bd=>?_⟩;have c1:=cu.after (e:=.leaves i x) hi eb st bd;have Zc:(pU V (.leaves i x)).calls=V.calls.set i (c.drop x):=rn (V:=qH V _) hc;have hc1:(pU V (.leaves i x)).calls[i]?=some (c.drop x):=by rw[Zc,fB hi]
  obtain⟨ad',md',g1,Y2,g3,g4,_⟩:=c1.bd.cs i ka _ (st.2.2.1 i ka ci.e1) hc1;have le0:((((c.drop x).at_.map D.str).length:Int)==0)=decide (rD c.at_ x=[]):=by rw[cQ,gi,eY,dY];show((rD c.at_ x).length:Int)=0↔_;rw[<-gm];omega
  refine pf g1 (i' rfl (i' g3 ?_));refine qF (c:=(((c.drop x).at_.map D.str).length:Int)==0) (λg5=>?_) (λg5=>?_)
  .rw[le0,dY]at g5;rw[cX g5]at q;have Xx:i<(pU V (.leaves i x)).calls.length:=(cS.mp hc1).1;refine pf c1.at_ ⟨rfl,_,⟨rfl,rfl⟩,oZ rfl,b,A1,_,.over i "refused",rfl,c1.b,c1.bd,c1.lim Za (by omega),Xx,λM2 A2 Y4 WZ XQ=>?_⟩;exact⟨M2,.refl,q M2 A2 (c1.after (e:=.over i "refused") Xx Y4 WZ XQ) (st.trans WZ)⟩
  .rw[le0,dY]at g5;rw[cV g5]at q;exact⟨M1,.refl,q M1 A1 (c1.mono (cZ _) (by omega)) st⟩
 .rw[cV g2]at q;refine pf h1 (i' rfl (i' h4 ?_));have lm:decide ((2:Int)<((c.ms.map D.str).length:Int))=decide (2<c.ms.length):=by rw[cQ,gi,dY,dY];omega
  refine qF (c:=decide ((2:Int)<((c.ms.map D.str).length:Int))) (λg3=>?_) (λg3=>?_)
  .rw[lm,dY]at g3;rw[cX g3]at q;refine pf cu.at_ ⟨rfl,_,⟨rfl,rfl⟩,oZ rfl,b,A,V,.leaves i x,rfl,cu.b,cu.bd,cu.lim Za (by omega),hi,λM1 A1 eb st bd=>?_⟩;exact⟨M1,.refl,q M1 A1 ((cu.after (e:=.leaves i x) hi eb st bd).mono (cZ _) (by omega)) st⟩
  .rw[lm,dY]at g3;rw[cV g3]at q;exact pf cu.at_ ⟨rfl,_,⟨rfl,rfl⟩,oZ rfl,b,A,V,.over i "done",rfl,cu.b,cu.bd,cu.lim Za (by omega),hi,over "done" q⟩
def Pj(G:Gl K mg a):Fq P w K mg base 2 a.ba (Pv a):=by
 refine fq G.ba.toDG yl (λr u=>⟨_,(pb (pK 2 yl (pA (pA v0)))
 (pj (pD (pW sj rfl G.z sf (qb (qD rfl (xQ (ix:=[none,none,some 2,some 1]) (N':=["i","on","wishes","call"])) (wU rfl G.bV (qb (pA v0))) (uL (n:=2) rfl (qB (qA 0) (qB (qA 1) tZ))) (vM (W3.b3 (yI (vK U1) (x8 (vK (EV (R:=FM a) (pI U2 v0) (Uh G) (r.mono (by first|decide|omega)) (qb U3))))))) v0)))))),?_⟩)
 rintro ds M Q ⟨A,V,l,L,k,c,rfl,rd,hk,q⟩
 obtain⟨ph,gr,ws,X6,pr,gd,rs,i1,i2,i3,i4,i5,i6,i7,i8⟩:=rd.pl;refine pf rd.bd.at_ (i' rfl (pf i1 (i' rfl ?_)));refine pf rd.bd.at_ (i' rfl (i' rd.bd.on ?_));refine Jo (rest:=[some (.ref ws),some (.ref k.p)]) rd.on rd.ok.w16 rd.bd.on (λi w0 ew y kk hkk=>?_) λp hp=>i' pC ⟨M,.new hp,q⟩;obtain⟨r,e1,e2⟩:=Bc i8 ew;exact i' i4 (i' e1 (pf e2 ⟨by cases w0.2<;>rfl,_,⟨w0.2,rfl,rfl⟩,Sf e2 hk hkk⟩))
def N8(G:Gl K mg a):Fq P w K mg base 10 a.bb (Ot a):=by
 refine fq G.bb.toDG Cm (λr u=>⟨_,(pb (pK 3 Cm (Ce (R:=L0 a) (pI (pA (pA v0)) (pI U2 pk)) (Rk G) (r.mono (by first|decide|omega))))
 (pb (pL (pT v0 G.c.toCls G.k (qK G) r (qb (pM (pX pq (ra U1 (pI U3 pk) U2))))))
 (pb (pL (pT v0 G.c.toCls G.k (qK G) r (qb (pM (rP pq U1)))))
 (pb (pL (pT v0 G.c.toCls G.k (qK G) r (qb (pM (pX pq (pX U1 (ra (pI U3 pk) (pI U3 pk) (pI U3 pk))))))))
 (pj (pL (pF (JE G) r G.af (rP v0 U1)))))))),?_⟩)
 rintro ds M Q ⟨M0,b,A,V,l,c,n,i,k,r,rfl,cu,hc,hn,wf,du,q⟩
 obtain⟨ph,gr,ws,X6,pr,gd,rs,i1,i2,i3,i4,i5,i6,i7,i8⟩:=cu.pl;cases du with
 | on k0 _ _ b0 x y m hk hs hw hl hy=>
  have hi:=(cS.mp hk).1;rw[xS hw]at q;rw[qT]at q;obtain⟨r0,e1,e2⟩:=Bc i8 hw;refine pf cu.at_ (i' rfl (pf i1 (i' rfl (i' (yZ _ _) (i' i4 (i' e1 (pf e2 ⟨rfl,_,⟨⟨.silent x y m,rfl⟩,rfl⟩,r0,.silent x y m,rfl,e2,?_⟩)))))));refine pf cu.at_ ⟨rfl,_,⟨rfl,rfl⟩,oZ rfl,b,A,V,.asks i x (k::r),rfl,cu.b,cu.bd,cu.lim hc (by omega),trivial,λM1 A1 eb1 Xd bd1=>?_⟩;have c1:=cu.after (e:=.asks i x (k::r)) trivial eb1 Xd bd1;refine pf c1.at_ ⟨rfl,_,⟨rfl,rfl⟩,oZ rfl,b,A1,_,.quiet i,rfl,c1.b,c1.bd,c1.lim hc (by omega),hi,λM2 A2 Y4 WZ XQ=>?_⟩;have c2:=c1.after (e:=.quiet i) hi Y4 WZ XQ;have XD:i<(pU (pU V (.asks i x (k::r))) (.quiet i)).calls.length:=by show i<(V.calls.modify i pz.nF).length;rw[eP];exact hi
  refine pf c2.at_ ⟨rfl,_,⟨rfl,rfl⟩,oZ rfl,b,A2,_,.leg ⟨i,x,y,x⟩,rfl,c2.b,c2.bd,c2.lim hc (by omega),XD,λM3 A3 eb3 XE bd3=>?_⟩;have c3:=c2.after (e:=.leg ⟨i,x,y,x⟩) XD eb3 XE bd3;exact⟨M0,b,A3,_,l,c,n+3,i,_,rfl,c3,hc,by omega,Bi wf hk hs hy,A7 hk,λM4 A4 c4 st4=>⟨M4,.refl,q M4 A4 (c4.mono (cZ _) (by omega)) (Xd.trans (WZ.trans (XE.trans st4)))⟩⟩
def OJ(G:Gl K mg a):Fq P w K mg base 11 a.bc (OK a):=by
 refine fq G.bc.toDG tJ (λr u=>⟨_,(pb (pL (pT v0 G.c.toCls G.k (qK G) r (qb (pM (qb pq)))))
 (pj (uk eW rfl (wU rfl G.bV (qb (pW su rfl G.r sv (qb (pA v0))))) (uL (n:=2) rfl (qB (rW 1 tJ) (qB (rW 2 tJ) tZ)))
 (pj (pP (pG u (pA U2) pq)
 (pb (pK 3 tJ (pF (Pj G) r G.ba (rP v0 U2)))
 (pj (pP (pG u (pQ qu rfl G.g qp (qb U3)) pk)
 (pj (pL (pF (N8 G) r G.bb (ra v0 U1 U3))))
 pH)))
 pH))))),?_⟩)
 rintro ds M Q ⟨M0,b,A,V,l,c,n,rfl,cu,hc,hn,wf,q⟩
 refine pf cu.at_ ⟨rfl,_,⟨rfl,rfl⟩,oZ rfl,b,A,V,.turn,rfl,cu.b,cu.bd,cu.lim (by omega) (by omega),trivial,λM1 A1 eb st bd=>?_⟩;have c1:=cu.after (e:=.turn) trivial eb st bd;have wf1:=A5 wf;have lv:(pU V .turn).calls.length=V.calls.length:=cQ ..;have ev:FD l V=.turn::rj l (List.range V.calls.length) (pU V .turn):=rfl;rw[ev,<-lv]at q;have q:∀M' A',ub a M0 M' b A' (qk (pU V .turn) (rj l (List.range (pU V .turn).calls.length) (pU V .turn))) l c (n+1+33*c)->qM A M A' M'->Q .mI M':=q;have c1:ub a M0 M1 b A1 (pU V .turn) l c (n+1):=c1;generalize pU V .turn=V1 at c1 wf1 q bd;refine pf c1.at_ (i' rfl (i' c1.bd.ca λr hr=>i' pC ?_));have t:=qm.new (c:=.lst (A1.cs.map λk=>D.ref k.p)) hr;have lr:=@pC M1 r (A1.cs.map λk=>D.ref k.p);have nf:=c1.bd.nM hr;have c2:=c1.sub t;have cl:V1.calls.length<=c:=c1.sz.ca;generalize pB M1 r (.lst (A1.cs.map λk=>D.ref k.p))=M2 at t lr c2 ⊢;refine vk (ux 0 (A1.cs.map λk=>D.ref k.p)) (λpre δ M'=>(∃A',ub a M0 M' b A' (qk V1 (rj l (List.range pre.length) V1)) l c (n+1+33*pre.length)/\qM A1 M2 A' M')/\∃y1 y2 y3,δ=[some (.ref b),y1,y2,y3]) (λpre δ M' j=>?_) _ [] _ _ rfl ⟨⟨A1,c2,.refl⟩,none,none,none,rfl⟩ ?_ ?_
 .obtain⟨⟨A',c3,XE⟩,_⟩:=j;exact rG (XE.1 r _ nf (pR lr))
 .rintro pre d post e δ M' ⟨⟨A',c3,XE⟩,y1,y2,y3,rfl⟩ nx WU
  rw[cT,dG,iQ,DS,qT]at WU;have wf3:=Ex cu.ok (List.range pre.length) wf1;generalize qk V1 (rj l (List.range pre.length) V1)=V3 at c3 wf3 WU;obtain⟨x,hx,rfl⟩:=IP e;rw[dq]at hx;cases ek:A1.cs[pre.length]? with
  | none=>rw[ek]at hx;cases hx
  | some k=>
   rw[ek]at hx;have hx:D.ref k.p=x:=c9 hx;subst hx;have hp:pre.length<c:=by have:=(cS.mp ek).1;rw[c1.bd.len]at this;omega
   have ek3:=XE.2.2.1 _ k ek;have hi:pre.length<V3.calls.length:=by rw[<-c3.bd.len];exact(cS.mp ek3).1
   have ec:V3.calls[pre.length]?=some V3.calls[pre.length]:=cU hi;generalize V3.calls[pre.length]=cv at ec;have ca:=c3.bd.cs _ k cv ek3 ec;obtain⟨ad,md,g1,_⟩:=ca;refine⟨rfl,pf g1 (i' rfl ?_)⟩;have hdv:yf l V3 pre.length=if (cv.st=="rings")=true then HS l V3 (Gh cv)else[]:=by unfold yf;rw[ec];rfl
   have mI:yf l V3 pre.length=[]->∀y1' y2' y3',nx [some (.ref b),y1',y2',y3'] M':=λh0 y1' y2' y3'=>WU _ _ ⟨⟨A',by rw[h0];exact c3.mono (cZ _) (by omega),XE⟩,_,_,_,rfl⟩;have du:=Ez (V:=V3) (i:=pre.length) cu.ok;refine qF (c:=cv.st=="rings") (λg=>?_) (λg=>mI (by rw[hdv,cV g]) _ _ _);rw[cX g]at hdv;refine⟨A',V3,l,_,k,cv,by rw[c3.b],c3.rd (by omega) wf3,c3.bd.cs _ k cv ek3 ec,?_⟩;rw[<-hdv];cases hdq:yf l V3 pre.length with
   | nil=>exact mI hdq _ _ _
   | cons k0 r0=>rw[hdq]at du WU;refine AC (dQ (by rw[cQ];show(0:Int)<((k0::r0).length:Nat);rw[dZ];omega)) ?_;exact⟨M0,b,A',V3,l,c,_,pre.length,k0,r0,rfl,c3,by omega,by omega,wf3,du,λM4 A4 c4 st4=>WU _ _ ⟨⟨A4,c4.mono (cZ _) (by omega),XE.trans st4⟩,_,_,_,rfl⟩⟩
 .rintro δ M' ⟨⟨A',c3,XE⟩,y1,y2,y3,rfl⟩
  have hl:(ux 0 (A1.cs.map λk=>D.ref k.p)).length=V1.calls.length:=by rw[vm,cQ,c1.bd.len]
  rw[hl]at c3;exact⟨M',.refl,q M' A' (c3.mono (cZ _) (by omega)) (st.trans ((qM.sub t).trans XE))⟩
inductive Qj(l:pE)(V:qe):tR->Ev->Prop
 | sw (b:Bool) (i:Nat):i<V.on.length->Qj l V (.sw b (i:Nat)) (.sw b i)
 | answer (x:Str) (i:Nat) (c:pz):V.calls[i]?=some c->Qj l V (.num "answer" x [(i:Nat)]) (.talks i [c.cr,x])
 | hold (x:Str) (i:Nat) (c:pz):V.calls[i]?=some c->Qj l V (.num "hold" x [(i:Nat)]) (.held i x)
 | back (x:Str) (i:Nat) (c:pz):V.calls[i]?=some c->Qj l V (.num "back" x [(i:Nat)]) (.talks i c.ms)
 | two (w x:Str) (i j:Nat) (c d:pz):i≠j->w="hand"\/w="join"->V.calls[i]?=some c->V.calls[j]?=some d->rD c.ms x≠[]->rD d.ms x≠[]->Qj l V (.num w x [(i:Nat),(j:Nat)]) (.merge i j (if (w=="hand")=true then[qy c x,qy d x]else[x,qy c x,qy d x]))
def Gd(a:Ad):rb:=λds M Q=>F8 λA V l e ev=>ds=[.ref A.b,tR.d e]/\Rd a M A V l/\Qj l V e ev/\Q ev.d M
def Rw(a:Ad):rb:=λds M Q=>SR λM0 b A V l c n e=>ds=[.ref b,tR.d e]/\ub a M0 M b A V l c n/\c<10000/\n<=5000000/\WF l V/\e.ng/\xj l V e=none/\∀M' A',ub a M0 M' b A' (qk V (wc l V e)) l (c+1) (n+40+33*c)->qM A M A' M'->Q .mI M'
def Wa(a:Ad)(M0 M:Mp)(b:Addr)(A:sZ)(V:qe)(l:pE)(c n:Nat)(e:tR)(Q:DK):Prop:=xj l V e=none->∀M' A' r,ub a M0 M' b A' (qk V (wc l V e)) l (c+1) (n+40+33*c)->qM A M A' M'->M' r=none->Q (.ref r) (pB M' r (.lst ((wc l V e).map Ev.d)))
def Tp(a:Ad):Gp:=λds M Q R=>SR λM0 b A V l c n e=>ds=[.ref b,tR.d e]/\ub a M0 M b A V l c n/\c<10000/\n<=5000000/\WF l V/\e.ng/\Wa a M0 M b A V l c n e Q/\(xj l V e≠none->R a.J M)
def Rd.call{a:Ad}{M:Mp}{A:sZ}{V:qe}{l:pE}(rd:Rd a M A V l){i:Nat}{c:pz}(e:V.calls[i]?=some c):∃k,A.cs[i]?=some k/\rJ a M (A.lists++V.fo) k c:=by
 have hi:i<A.cs.length:=by rw[rd.bd.len];exact(cS.mp e).1
 exact⟨A.cs[i],cU hi,rd.bd.cs i _ c (cU hi) e⟩
def yu{i:Int}(h:0<=i):∃m:Nat,i=(m:Int):=d9 h
def Iy{c:pz}{x:Str}(nd:c.ms.Nodup)(h2:c.ms.length=2)(hx:x∈c.ms):rD c.ms x≠[]:=λz=>by have:=xJ nd hx;rw[z]at this;simp only[dE]at this;omega
def MR(G:Gl K mg a):Fq P w K mg base 2 a.bd (Gd a):=by
 refine fq G.bd.toDG tE (λr u=>⟨_,(pb (pK 2 tE (pI U1 pk))
 (pb (pP (pG u U2 (pM (rP pq pq)))
 (pj (pD (pM (rP U2 (pI U1 pk)))))
 pH)
 (pb (pK 3 tE (pI U1 pk))
 (pb (pK 4 tE (pI U1 pk))
 (pb (pK 5 tE (pI (pA v0) v4))
 (pb (pP (pG u U2 pq)
 (pj (pD (pM (ra pq v4 (pM (rP (pA v5) U3))))))
 pH)
 (pb (pP (pG u U2 pq)
 (pj (pD (pM (ra pq v4 U3))))
 pH)
 (pb (pP (pG u U2 pq)
 (pj (pD (pM (ra pq v4 (pW sj rfl G.z sf (qb (pA v5)))))))
 pH)
 (pb (pK 6 tE (pI U1 pk))
 (pb (pK 7 tE (pM (rP (pT v5 G.e.toCls G.aw (Ha G) r (qb U3)) (pT (pI (pA v0) v6) G.e.toCls G.aw (Ha G) r (qb U3)))))
 (pb (pP (pG u U2 pq)
 (pj (pD (pM (pX pq (ra v4 v6 v7)))))
 pH)
 (pj (pD (pM (pX pq (ra v4 v6 (pV (pM (qb U3)) v7))))))))))))))))),?_⟩)
 rintro ds M Q ⟨A,V,l,e,ev,rfl,rd,sg,q⟩
 cases sg with
 | sw b i hi=>
  cases b with
  | true=>exact⟨oZ rfl,rfl,rfl,oZ rfl,M,.refl,q⟩
  | false=>exact⟨oZ rfl,rfl,rfl,oZ rfl,M,.refl,q⟩
 | answer x i c hc=>obtain⟨k,ek,ca⟩:=rd.call hc;obtain⟨ad,md,h1,h2,h3,h4,n1,n2⟩:=ca;refine⟨oZ rfl,rfl,rfl,?_⟩;refine pf rd.bd.at_ (i' rfl (i' rfl (i' rd.bd.ca (i' (rf ek) ?_))));exact pf h1 (i' rfl ⟨oZ rfl,oZ rfl,M,.refl,q⟩)
 | hold x i c hc=>obtain⟨k,ek,ca⟩:=rd.call hc;refine⟨oZ rfl,rfl,rfl,?_⟩;refine pf rd.bd.at_ (i' rfl (i' rfl (i' rd.bd.ca (i' (rf ek) ?_))));exact⟨oZ rfl,M,.refl,q⟩
 | back x i c hc=>obtain⟨k,ek,ca⟩:=rd.call hc;obtain⟨ad,md,h1,h2,h3,h4,n1,n2⟩:=ca;refine⟨oZ rfl,rfl,rfl,?_⟩;refine pf rd.bd.at_ (i' rfl (i' rfl (i' rd.bd.ca (i' (rf ek) ?_))));exact pf h1 (i' rfl (i' h4 ⟨oZ rfl,M,.refl,q⟩))
 | two wd x i j c d XH hw hc hd nc nd=>
  obtain⟨k,ek,ca⟩:=rd.call hc;obtain⟨k',ek',ca'⟩:=rd.call hd;have ca0:=ca;have ca1:=ca';obtain⟨ad,md,h1,h2,h3,h4,n1,n2⟩:=ca0;obtain⟨ad',md',f1,_⟩:=ca1;obtain⟨y1,r1,e1⟩:=fZ nc;obtain⟨y2,r2,e2⟩:=fZ nd;have o1:qy c x=y1:=by unfold qy;rw[e1];rfl
  have o2:qy d x=y2:=by unfold qy;rw[e2];rfl
  rw[o1,o2]at q;rcases hw with rfl|rfl
  .refine⟨oZ rfl,rfl,rfl,?_⟩;refine pf rd.bd.at_ (i' rfl (i' rfl (i' rd.bd.ca (i' (rf ek) ?_))));refine pf h1 ⟨rfl,_,⟨rfl,rfl⟩,_,k,c,x,y1,r1,rfl,ca,(rd.ms c (qS hc)).2,e1,?_⟩;refine pf rd.bd.at_ (i' rfl (i' rfl (i' rd.bd.ca (i' (rf ek') ?_))));refine pf f1 ⟨rfl,_,⟨rfl,rfl⟩,_,k',d,x,y2,r2,rfl,ca',(rd.ms d (qS hd)).2,e2,?_⟩;exact⟨oZ rfl,oZ rfl,M,.refl,q⟩
  .refine⟨oZ rfl,rfl,rfl,?_⟩;refine pf rd.bd.at_ (i' rfl (i' rfl (i' rd.bd.ca (i' (rf ek) ?_))));refine pf h1 ⟨rfl,_,⟨rfl,rfl⟩,_,k,c,x,y1,r1,rfl,ca,(rd.ms c (qS hc)).2,e1,?_⟩;refine pf rd.bd.at_ (i' rfl (i' rfl (i' rd.bd.ca (i' (rf ek') ?_))));refine pf f1 ⟨rfl,_,⟨rfl,rfl⟩,_,k',d,x,y2,r2,rfl,ca',(rd.ms d (qS hd)).2,e2,?_⟩;exact⟨oZ rfl,oZ rfl,ft _ _,by show 1+2<=sizeLine;have hz:=dF;omega,oZ rfl,M,.refl,q⟩
def Ri(G:Gl K mg a):Fq P w K mg base 12 a.be (Rw a):=by
 refine fq G.be.toDG MU (λr u=>⟨_,(pb (pK 2 MU (pI U1 pk))
 (pj (pP (pG u U2 pq)
 (pj (pL (pF (Mn G) r G.a8 (ra v0 (pI U1 pk) (pI U1 pk)))))
 (pj (pP (pG u U2 pq)
 (pj (pL (pF (NS G) r G.a9 (ra v0 (pI U1 pk) (pI U1 pk)))))
 (pj (pP (pG u U2 pq)
 (pj (pL (pF (OJ G) r G.bc (qb v0))))
 (pj (pL (pT v0 G.c.toCls G.k (qK G) r (qb (pF (MR G) r G.bd (rP v0 U1))))))))))))),?_⟩)
 rintro ds M Q ⟨M0,b,A,V,l,c,n,e,rfl,cu,hc,hn,wf,hf,hr,q⟩
 have rd:=cu.rd (by omega) wf;have one:∀(ev:Ev),Qj l V e ev->wc l V e=[ev]->ev.ok V->ev.nw=0->zJ (M b) λC fs'=>fs'.lookup ("apply":Str)=none/\∃sp,(C=a.c/\sp=vQ a)/\Gd a [.ref b,e.d] M λd M1=>sp [.ref b,d] M1 λ_ M'=>∃WM,qm WM M'/\Q .mI WM:=λev sg he ok h0=>by refine pf cu.at_ ⟨rfl,_,⟨rfl,rfl⟩,A,V,l,e,ev,by rw[cu.b],rd,sg,b,A,V,ev,rfl,cu.b,cu.bd,cu.lim (by omega) (by omega),ok,λM1 A1 eb st bd=>?_⟩;rw[he]at q;have c1:=cu.after ok eb st bd;rw[h0]at c1;exact⟨M1,.refl,q M1 A1 (c1.mono (by omega) (by omega)) st⟩
 cases e with
 | call y z=>obtain⟨h1,h2,h3,h4⟩:=A6 hr;exact⟨M0,b,A,V,l,c,n,y,z,rfl,cu,by omega,by omega,Fg wf h1 h2 h3 h4,λM' A' c1 st=>⟨M',.refl,q M' A' (c1.mono (by omega) (by omega)) st⟩⟩
 | turn=>exact⟨M0,b,A,V,l,c,n,rfl,cu,by omega,by omega,wf,λM' A' c1 st=>⟨M',.refl,q M' A' (c1.mono (by omega) (by omega)) st⟩⟩
 | sw b0 i=>
  obtain⟨h1,h2⟩:=Qw hr;obtain⟨i,rfl⟩:=yu h1;cases b0 with
  | true=>exact one (.sw true i) (.sw true i h2) rfl h2 rfl
  | false=>exact one (.sw false i) (.sw false i h2) rfl h2 rfl
 | num wd x ns=>
  obtain⟨hx,no⟩:=EE hf hr;cases no with
  | answer i c0 hi hc0 h1 h2 h3=>obtain⟨i,rfl⟩:=yu hi;have lt:=(cS.mp hc0).1;exact one (.talks i [c0.cr,x]) (.answer x i c0 hc0) (eG (λev=>[ev]) (xc hc0)) ⟨lt,by show 2<=100;decide⟩ rfl
  | hang i c0 hi hc0 h1=>obtain⟨i,rfl⟩:=yu hi;exact⟨M0,b,A,V,l,c,n,x,i,c0,rfl,cu,by omega,by omega,hc0,λM' A' c1 st=>⟨M',.refl,q M' A' (c1.mono (by omega) (by omega)) st⟩⟩
  | hold i c0 hi hc0 h1=>obtain⟨i,rfl⟩:=yu hi;have lt:=(cS.mp hc0).1;exact one (.held i x) (.hold x i c0 hc0) (eG (λev=>[ev]) (xc hc0)) lt rfl
  | back i c0 hi hc0 h1 h2=>obtain⟨i,rfl⟩:=yu hi;have lt:=(cS.mp hc0).1;exact one (.talks i c0.ms) (.back x i c0 hc0) (eG (λev=>[ev]) (xc hc0)) ⟨lt,(cu.sz.cs c0 (qS hc0)).2.2⟩ rfl
  | two _ i j c0 d0 hi hj hw hc0 hd0 h1 h2=>
   obtain⟨i,rfl⟩:=yu hi;obtain⟨j,rfl⟩:=yu hj;have lt:=(cS.mp hc0).1;have lt':=(cS.mp hd0).1;have XH:=(Fm (w:=wd) wf hc0 hd0 h1 h2).1;have k0:=wf.ok _ c0 hc0;have k1:=wf.ok _ d0 hd0;obtain⟨_,u2,u3,_⟩:=EU k0 h1;obtain⟨_,v2,v3⟩:=Aa.mp h2;have sg:=Qj.two (l:=l) wd x i j c0 d0 XH hw hc0 hd0 (Iy k0.mn u2 u3) (Iy k1.mn v3 v2);have ok:(Ev.merge i j (if (wd=="hand")=true then[qy c0 x,qy d0 x]else[x,qy c0 x,qy d0 x])).ok V:=⟨lt,lt',XH,by split;exact(by decide:2<=100);exact(by decide:3<=100)⟩;have he:wc l V (.num wd x [(i:Int),(j:Int)])=[.merge i j (if (wd=="hand")=true then[qy c0 x,qy d0 x]else[x,qy c0 x,qy d0 x])]:=eG (λev=>[ev]) (Fz hc0 hd0);rcases hw with rfl|rfl
   .exact one _ sg he ok rfl
   .exact one _ sg he ok rfl
def JV(G:Gl K mg a):xh P w K mg base (BI P w) 1 a.I.f a.I.d a.I.p (wj K "word"):=
 LH G.I.toDG Bs λWR A outer s H E=>JM (Pu (pv 0) (pv 1))
def TZ(G:Gl K mg a):U7 P w K mg base 13 a.Q (Tp a):=by
 refine Uw G.Q.toDG Ih (by walk_at "m") (λ_ _ _ _ _ _ R hr hR=>⟨_,(pb (pK 2 Ih (pF (HN G) hr G.a3 (rP v0 U1)))
 (pb (pP (pG (V9 hr) U2 rQ)
 (pj (Ke G.b4 (JV G) (hr.mono (by first|decide|omega)) G.I.b G.b5 G.I.at_ rfl G.bW hR (qb U2)))
 pH)
 (pb (pK 3 Ih (pQ qu rfl G.g qp (qb (pA v0))))
 (pb (pL (pF (Ri G) hr G.be (rP v0 U1)))
 (pj (pD (rR (pA v0) (sL U3) sP))))))),?_⟩)
 .rintro ds M Q ⟨M0,b,A,V,l,c,n,e,rfl,cu,hc,hn,wf,hf,q,rr⟩
  refine⟨A,V,l,e,by rw[cu.b],cu.rd (by omega) wf,hf,?_⟩;cases er:xj l V e with
  | some w0=>exact⟨rfl,rr (by rw[er];exact λh=>by cases h)⟩
  | none=>
   refine pf cu.at_ (i' rfl (i' cu.bd.lo ?_));refine⟨M0,b,A,V,l,c,n,e,rfl,cu,hc,hn,wf,hf,er,λM' A' c1 st=>?_⟩;refine pf c1.at_ (i' rfl (i' c1.bd.lo λp hp=>?_));have hcut:L3.uM ((qk V (wc l V e)).log.map Ev.d) (some (((V.log.map Ev.d).length:Nat):Int)) none=(wc l V e).map Ev.d:=by rw[wD,dH,HV _ _ (by rw[cT];omega),List.drop_left]
   rw[hcut];exact⟨_,.refl,q er M' A' p c1 st hp⟩
def PC(a:Ad):rb:=λds M Q=>SR λM0 b A V l c n e=>ds=[.ref b,tR.d e]/\ub a M0 M b A V l c n/\c<10000/\n<=5000000/\WF l V/\e.ng/\Wa a M0 M b A V l c n e Q/\(xj l V e≠none->Q .mI M)
def PZ(G:Gl K mg a):Fq P w K mg base 14 a.bw (PC a):=by
 refine fq G.bw.toDG vA (λr u=>⟨_,(pb (pK 2 vA rQ)
 (pb (P9 (ix:=2) (Lo (TZ G) (r.mono (by first|decide|omega)) rfl G.Q.mg G.Q.toDG.kp G.Q.b (rP v0 U1)) rfl rfl rfl G.bW vA.nd rfl rfl (λev E'=>
 (pj (pK 2 vA rQ))))
 (pj (pD U2)))),?_⟩)
 rintro ds M Q ⟨M0,b,A,V,l,c,n,e,rfl,cu,hc,hn,wf,hf,q,qf⟩
 refine⟨λC M'=>(C=a.J/\xj l V e≠none)/\M=M',?_,?_⟩
 .exact⟨M0,b,A,V,l,c,n,e,rfl,cu,hc,hn,wf,hf,λh M' A' r c1 st hm=>⟨_,.refl,q h M' A' r c1 st hm⟩,λh=>⟨⟨rfl,h⟩,rfl⟩⟩
 .rintro C M' ⟨⟨rfl,h⟩,rfl⟩
  exact⟨G.b6,M,.refl,qf h⟩
noncomputable def vB(g:uj):Bool:=g.2.1==("turns":Str)
noncomputable def uX(l:pE):List (Str×Int):=(l.groups.filter vB).map λg=>(g.1,0)
noncomputable def V0(p:Addr)(h:Int)(l:pE)(F:List Addr):qe:=⟨p,h,0,[],[],uX l,l.mF.map (·.1),[],F⟩
def FJ(a:Ad):rb:=λds M Q=>F8 λb p h F (l:pE)=>ds=[.ref b,.ref p,.int h]/\M b=some (.ins a.c [])/\sT a M p l/\qY l/\p≠b/\(∀x∈F,∃c,M x=some c)/\∀M' A,A.b=b->rT b M M'->(∀x∈A.foot,x=b\/M x=none)->pJ a M' A (V0 p h l F)->Q .mI M'
noncomputable def MM(g:D):Bool:=match g with
 | .tup (_::.str m::_)=>m=="turns"
 | _=>false
noncomputable def QK(d:D):D:=.tup [C1 d,.int 0]
def Io(gs:List uj):((gs.map qO).filter MM).map QK=(gs.filter vB).map λg=>D.tup [.str g.1,.int 0]:=by rw[gQ,dU];rfl
def JX(l:pE):((l.groups.filter vB).map λg=>((Sum.inr g.1:qV),D.int 0))=tG (uX l):=by unfold tG uX;rw[dU];rfl
def Ci(G:Gl K mg a):Fq P w K mg base 1 a.M (FJ a):=by
 refine fq G.M.toDG C9 (λr u=>⟨_,(pb (pZ v0 U1)
 (pb (pZ v0 U2)
 (pb (pZ v0 pk)
 (pb (pZ v0 (qJ sF))
 (pb (pZ v0 (qJ sF))
 (pb (pZ v0 (pW (Ek rfl) rfl G.bU D8 (qb (qD rfl (xQ (ix:=[none]) (N':=["group"])) (qC (pA U1)) (qA 0) (vM (pG u (pI v0 pk) pq)) (pM (rP (pI v0 pk) pk))))))
 (pb (pZ v0 (pW su rfl G.r sv (qb (pA U1))))
 (pj (pZ v0 (qJ sF)))))))))),?_⟩)
 rintro ds M Q ⟨b,p,h,F,l,rfl,hb,⟨ph,gr,ws,on,pr,gd,rs,i1,i2,i3,i4,i5,i6,i7,i8⟩,ok,nbp,hF,q⟩
 have hz:=dF;have l2:=ok.g3;refine pf hb ⟨(G.E "plan" rfl),by show 0<1000;decide,?_⟩;have k1:rT b M (pB M b (.ins a.c [("plan",.ref p)])):=.put;have b1:pB M b (.ins a.c [("plan",.ref p)]) b=some (.ins a.c [("plan",.ref p)]):=pN;show uw _ _ _ _ (pB M b (.ins a.c [("plan",.ref p)]));generalize pB M b (.ins a.c [("plan",.ref p)])=N1 at k1 b1 ⊢;refine pf b1 ⟨(G.E "hour" rfl),by show 1<1000;decide,?_⟩;have k2:=k1.trans (rT.put (p:=b) (c:=.ins a.c [("plan",.ref p),("hour",.int h)]));have b2:pB N1 b (.ins a.c [("plan",.ref p),("hour",.int h)]) b=some (.ins a.c [("plan",.ref p),("hour",.int h)]):=pN;show uw _ _ _ _ (pB N1 b (.ins a.c [("plan",.ref p),("hour",.int h)]));generalize pB N1 b (.ins a.c [("plan",.ref p),("hour",.int h)])=N2 at k2 b2 ⊢;refine pf b2 ⟨(G.E "turn" rfl),by show 2<1000;decide,?_⟩;have k3:=k2.trans (rT.put (p:=b) (c:=.ins a.c [("plan",.ref p),("hour",.int h),("turn",.int 0)]));have b3:pB N2 b (.ins a.c [("plan",.ref p),("hour",.int h),("turn",.int 0)]) b=some (.ins a.c [("plan",.ref p),("hour",.int h),("turn",.int 0)]):=pN;show uw _ _ _ _ (pB N2 b (.ins a.c [("plan",.ref p),("hour",.int h),("turn",.int 0)]));generalize pB N2 b (.ins a.c [("plan",.ref p),("hour",.int h),("turn",.int 0)])=N3 at k3 b3 ⊢;clear k1 k2 b1 b2;refine⟨oZ rfl,λca hca=>?_⟩;obtain⟨n4,e4,k4,c4,b4⟩:=sX (fs':=[("plan",.ref p),("hour",.int h),("turn",.int 0),("calls",.ref ca)]) (c:=.lst []) b3 hca;refine pf e4 ⟨(G.E "calls" rfl),by show 3<1000;decide,?_⟩;show uw _ _ _ _ (pB (pB N3 ca (.lst [])) b (.ins a.c [("plan",.ref p),("hour",.int h),("turn",.int 0),("calls",.ref ca)]));generalize pB (pB N3 ca (.lst [])) b (.ins a.c [("plan",.ref p),("hour",.int h),("turn",.int 0),("calls",.ref ca)])=N4 at k4 c4 b4 ⊢;have YM:=k3.trans k4;have z1:M ca=none:=rE k3 b3 hca;have lc4:oS N4 ca=some []:=rG c4;refine⟨oZ rfl,λle hle=>?_⟩;obtain⟨n5,e5,k5,c5,b5⟩:=sX (fs':=[("plan",.ref p),("hour",.int h),("turn",.int 0),("calls",.ref ca),("legs",.ref le)]) (c:=.lst []) b4 hle;refine pf e5 ⟨(G.E "legs" rfl),by show 4<1000;decide,?_⟩;show uw _ _ _ _ (pB (pB N4 le (.lst [])) b (.ins a.c [("plan",.ref p),("hour",.int h),("turn",.int 0),("calls",.ref ca),("legs",.ref le)]));generalize pB (pB N4 le (.lst [])) b (.ins a.c [("plan",.ref p),("hour",.int h),("turn",.int 0),("calls",.ref ca),("legs",.ref le)])=N5 at k5 c5 b5 ⊢;have YN:=YM.trans k5;have z2:M le=none:=rE YM b4 hle;have le5:oS N5 le=some []:=rG c5;have mcl:le≠ca:=λz=>by rw[z,pR lc4]at hle;cases hle
 have lc5:=k5.lst (pS lc4 b4) lc4;have p5:=YN _ _ nbp i1;have g5:=YN.lst (pS i3 hb) i3;clear k3 k4 k5 YM lc4 c4 c5 e4 e5 b3 b4;refine pf p5 (i' rfl (i' g5 ?_));refine tL (f:=QK) (t:=MM) g5 _ [] _ (by rw[cQ];simp only[dE];omega) (λd hd k hk=>?_) (λd hd _ k hk=>?_) λq1 Xr=>?_
 .obtain⟨v,_,rfl⟩:=dw.mp hd;exact hk
 .obtain⟨v,_,rfl⟩:=dw.mp hd;exact⟨oZ rfl,hk⟩
 rw[dW,Io];have Zm:=qm.new (c:=.lst ((l.groups.filter vB).map λg=>D.tup [.str g.1,.int 0])) Xr;refine i' pC (i' (wQ (λg:uj=>g.1) (λ_=>D.int 0) _) ⟨yz (iw (List.Sublist.map _ fU) (iw (jr _ _) ok.nd)),λnx WU=>?_⟩);have z3:M nx=none:=rE YN b5 (Zm.none WU);obtain⟨n6,e6,k6,c6,b6⟩:=sX (fs':=[("plan",.ref p),("hour",.int h),("turn",.int 0),("calls",.ref ca),("legs",.ref le),("nexts",.ref nx)]) (c:=.dk ((l.groups.filter vB).map λg=>((Sum.inr g.1:qV),D.int 0))) (Zm _ _ b5) WU;refine pf e6 ⟨(G.E "nexts" rfl),by show 5<1000;decide,?_⟩;have k6:=Zm.keep.trans k6;have Yx:vT "nexts" (.ref nx) [("plan",.ref p),("hour",.int h),("turn",.int 0),("calls",.ref ca),("legs",.ref le)]=([("plan",.ref p),("hour",.int h),("turn",.int 0),("calls",.ref ca),("legs",.ref le),("nexts",.ref nx)]:List (Str×D)):=rfl;rw[Yx];generalize pB (pB (pB N5 q1 (.lst ((l.groups.filter vB).map λg=>D.tup [.str g.1,.int 0]))) nx (.dk ((l.groups.filter vB).map λg=>((Sum.inr g.1:qV),D.int 0)))) b (.ins a.c [("plan",.ref p),("hour",.int h),("turn",.int 0),("calls",.ref ca),("legs",.ref le),("nexts",.ref nx)])=N6 at k6 b6 c6 ⊢;have x6:y9 N6 nx=some ((l.groups.filter vB).map λg=>((Sum.inr g.1:qV),D.int 0)):=BN c6;have kk6:=YN.trans k6;have lc6:=k6.lst (pS lc5 b5) lc5;have le6:=k6.lst (pS le5 b5) le5;have p6:=kk6 _ _ nbp i1;have o6:=kk6.lst (pS i5 hb) i5;clear YN k6 lc5 p5 g5 e6 c6;refine pf p6 (i' rfl (i' o6 λYC ZV=>?_));have z4:M YC=none:=rE kk6 b6 ZV;obtain⟨n7,e7,k7,c7,b7⟩:=sX (fs':=[("plan",.ref p),("hour",.int h),("turn",.int 0),("calls",.ref ca),("legs",.ref le),("nexts",.ref nx),("on",.ref YC)]) (c:=.lst (l.mF.map λw=>D.bl w.1)) b6 ZV;refine pf e7 ⟨(G.E "on" rfl),by show 6<1000;decide,?_⟩;have Yx:vT "on" (.ref YC) [("plan",.ref p),("hour",.int h),("turn",.int 0),("calls",.ref ca),("legs",.ref le),("nexts",.ref nx)]=([("plan",.ref p),("hour",.int h),("turn",.int 0),("calls",.ref ca),("legs",.ref le),("nexts",.ref nx),("on",.ref YC)]:List (Str×D)):=rfl;rw[Yx];generalize pB (pB N6 YC (.lst (l.mF.map λw=>D.bl w.1))) b (.ins a.c [("plan",.ref p),("hour",.int h),("turn",.int 0),("calls",.ref ca),("legs",.ref le),("nexts",.ref nx),("on",.ref YC)])=N7 at k7 b7 c7 ⊢;have kk7:=kk6.trans k7;have lc7:=k7.lst (pS lc6 b6) lc6;have le7:=k7.lst (pS le6 b6) le6;have x7:=k7.dk (Cd x6 b6) x6;have lo7:oS N7 YC=some ((l.mF.map (·.1)).map D.bl):=by rw[dU];exact rG c7
 refine⟨oZ rfl,λlg hlg=>?_⟩;obtain⟨n8,e8,k8,c8,b8⟩:=sX (fs':=tP (.ref p) h 0 ca le nx YC lg) (c:=.lst []) b7 hlg;refine pf e8 ⟨(G.E "log" rfl),by show 7<1000;decide,_,.refl,?_⟩;have apart:∀{N:Mp} {x y:Addr} {ds:List D},N x=none->oS N y=some ds->x≠y:=λ{N x y ds} h1 h2 z=>by have:=pR h2;rw[<-z,h1]at this;cases this
 have y5:=rE kk7 b7 hlg;refine q _ ⟨b,ca,le,nx,YC,lg,[]⟩ rfl (kk7.trans k8) (λx hx=>?_) ⟨b8,k8.lst (pS lc7 b7) lc7,k8.lst (pS le7 b7) le7,?_,k8.lst (pS lo7 b7) lo7,rG c8,rfl,λi k c e=>by simp at e,?_,dM.mpr ⟨dz,eD⟩,λx hx=>?_⟩
 rotate_right
 .by_cases z:x=b
  .exact⟨_,by rw[z];exact b8⟩
  .obtain⟨c,e⟩:=hF x hx;exact⟨c,(kk7.trans k8) x c z e⟩
 .have hx:x∈[b,nx,ca,le,YC,lg]:=by
   unfold sZ.foot sZ.lists at hx
   simpa using hx
  simp only[cY,dz,eQ]at hx;rcases hx with rfl|rfl|rfl|rfl|rfl|rfl
  .exact .inl rfl
  .exact .inr z3
  .exact .inr z1
  .exact .inr z2
  .exact .inr z4
  .exact .inr y5
 .show y9 _ nx=some (tG (uX l));rw[<-JX];exact k8.dk (Cd x7 b7) x7
 .have m1:=apart hlg lc7;have m2:=apart hlg le7;have m3:=apart hlg lo7;have m4:=apart ZV lc6;have m5:=apart ZV le6;show[ca,le,YC,lg].Nodup;simp only[dM,cY,dz,eQ,fH,not_false_eq_true,eD,and_true];exact⟨⟨dI mcl,dI m4,dI m1⟩,⟨dI m5,dI m2⟩,dI m3⟩
def Ve{p:Addr}{h:Int}{l:pE}{F:List Addr}(ok:qY l):WF l (V0 p h l F):=by
 refine⟨λi c e=>by simp[V0]at e,λi j ci cj x e=>by simp[V0]at e,λx hx=>?_,λi j ci cj x e=>by simp[V0]at e,λz hz ht=>?_⟩
 .show((0:Nat):Int)<=wH l x;unfold wH;cases e:l.mX x with
  | none=>exact Int.le_refl _
  | some v=>have:=(ok.po v (gf e)).l1;show(0:Int)<=v.2.1;omega
 .show ∃v,(uX l).find? (λp=>decide (p.1=z))=some v/\_;unfold pE.mM at ht;cases e:l.group z with
  | none=>rw[e]at ht;exact absurd ht (by decide)
  | some g=>
   rw[e]at ht;have hg:=gf e;have hn:g.1=z:=by simpa using ma e
   have hm:((g.1,0):Str×Int)∈uX l:=dw.mpr ⟨g,fE.mpr ⟨hg,ht⟩,rfl⟩;cases q:(uX l).find? (λp=>decide (p.1=z))with
   | none=>exact absurd (gR.mp q _ hm) (by simp[hn])
   | some v=>refine⟨v,rfl,?_⟩;obtain⟨g',_,rfl⟩:=dw.mp (gf q);exact⟨Int.le_refl _,Int.natCast_nonneg _⟩
def Ev.old:Ev->Prop
 | .new _ _=>False
 | _=>True
def LM{V:qe}{e:Ev}(h:e.old):(pU V e).calls.length=V.calls.length:=by
 cases e with
 | new _ _=>cases h
 | merge i j ms=>exact(eP ..).trans (eP ..)
 | turn=>exact cQ ..
 | asks _ _ _=>rfl
 | next _ _=>rfl
 | sw _ _=>rfl
 | _=>exact eP ..
theorem Jb:∀{es:List Ev} {V:qe},(∀e∈es,e.old)->(qk V es).calls.length=V.calls.length
 | [],_,_=>rfl
 | e::r,V,h=>(Jb (es:=r) (V:=pU V e) λx hx=>h x (dv _ hx)).trans (LM (h e dC))
theorem zI(i:Nat):∀(st:sU) (q:Option Str) {V:qe},i<V.calls.length->Ay V (rh i q st)
 | [],_,V,_=>by unfold rh;trivial
 | (y,gs)::r,none,V,h=>⟨trivial,zI i r (some y) h⟩
 | (y,gs)::r,some u,V,h=>⟨h,trivial,zI i r (some y) (by
  show i<(V.calls.modify i _).length;rw[eP];exact h)⟩
def Pw{l:pE}{V V1:qe}{i:Nat}{e:vn}(h:DJ l V i e)(hi:i<V.calls.length)(hl:V1.calls.length=V.calls.length):Ay V1 (sC l V i e):=by
 have Xx:i<V1.calls.length:=by rw[hl];exact hi
 cases e with
 | rings z ps=>
  have h4:ps.length<=100:=h.2.2.2;show Ay V1 ((if (l.mM z=="turns")=true then _ else _)++[.rings i ps]);split
  .exact⟨trivial,⟨Xx,h4⟩,trivial⟩
  .exact⟨⟨Xx,h4⟩,trivial⟩
 | waits z=>exact⟨Xx,trivial⟩
 | breaks z=>
  obtain⟨j,k,t1,t2,t3,t4⟩:=h;have e1:V.calls[i]?=some V.calls[i]:=cU hi;have ZX:sC l V i (.breaks z)=[.merge i j (k.ms++[V.calls[i].cr])]:=by unfold sC;dsimp only;rw[t1,e1];dsimp only;rw[t2];rfl
  rw[ZX];exact⟨⟨Xx,by rw[hl];exact(cS.mp t2).1,t3,by rw[cT,t4];exact(by decide:3<=100)⟩,trivial⟩
 | engaged z=>exact⟨Xx,trivial⟩
 | barred=>exact⟨Xx,trivial⟩
 | ring ns=>exact⟨Xx,trivial⟩
def Lq{l:pE}{V:qe}{i:Nat}{k:pz}(ok:qY l)(wf:zp l V (some i))(hk:V.calls[i]?=some k):Ay V (vF l V i):=by
 have Xs:=wf.ok i k hk;have hi:=(cS.mp hk).1;unfold vF;rw[hk];dsimp only[Option.elim];obtain⟨z,hz⟩:∃z,k.way.getLast?=some z:=by
  cases e:k.way.getLast? with
  | none=>exact absurd (gg.mp e) Xs.wy.1
  | some z=>exact⟨z,rfl⟩
 rw[show k.way.getLastD Str.empty=z by rw[gG,hz];rfl];have ro:wG l V k.cr (l.nm.length+1) [] (uz l V k.cr z k.way.dropLast):=xD ok _ _ _ _ (Xs.wy.2 z (ia hz)) λx hx=>Xs.wy.2 x (ib _ hx);have eo:=HH ok wf hk ro.e;generalize uz l V k.cr z k.way.dropLast=R at ro eo;obtain⟨e,st⟩:=R;have s1:=(uE i st none V).len;refine wI (zI i st none hi) (wI ?_ (Pw eo hi ?_))
 .unfold sW;cases e with
  | ring ns=>
   dsimp only;cases st.getLast? with
   | none=>trivial
   | some s0=>exact⟨by show i<_;rw[s1];exact hi,trivial⟩
  | _=>trivial
 .refine(Jb λx hx=>?_).trans s1;unfold sW at hx;cases e with
  | ring ns=>
   dsimp only at hx;cases q:st.getLast? with
   | none=>rw[q]at hx;cases hx
   | some s0=>rw[q]at hx;rw[df.mp hx];trivial
  | _=>cases hx
def Li{l:pE}{V:qe}{i:Nat}(ok:qY l)(wf:WF l V):Ay V (tK l V i (yf l V i)):=by
 have d:=Ez (V:=V) (i:=i) ok;generalize yf l V i=fs at d;cases d with
 | no=>trivial
 | on c k r b x y n hc hs hk hw hy=>rw[xS hk];have hi:=(cS.mp hc).1;exact wI ⟨trivial,hi,(by show i<(V.calls.modify i pz.nF).length;rw[eP];exact hi),trivial⟩ (Lq ok (Bi wf hc hs hy) (A7 hc))
theorem GE{l:pE}(ok:qY l):∀(is:List Nat) {V:qe},WF l V->Ay V (rj l is V)
 | [],V,_=>by unfold rj;trivial
 | i::r,V,wf=>by unfold rj;exact wI (Li ok wf) (GE ok r (D3 ok wf))
def Re{l:pE}{V:qe}{e:tR}(ok:qY l)(wf:WF l V)(hm:∀c∈V.calls,c.ms.length<=100)(f:e.ng)(h:xj l V e=none):Ay V (wc l V e):=by
 cases e with
 | call y z=>obtain⟨h1,h2,h3,h4⟩:=A6 h;obtain⟨k,hk⟩:=HJ (V:=V) (y:=y) (z:=z);refine wI ⟨trivial,?_,trivial⟩ (Lq ok (Fg wf h1 h2 h3 h4) hk);show V.calls.length<(V.calls++[yV y]).length;rw[cT];exact fk _
 | turn=>exact⟨trivial,GE ok _ (A5 wf)⟩
 | sw b i=>exact⟨(Qw h).2,trivial⟩
 | num w x ns=>
  obtain⟨_,n⟩:=EE f h;cases n with
  | answer i c hi hc h1 h2 h3=>show Ay V [AR V "answer" x i.toNat];rw[xc hc];exact⟨⟨(cS.mp hc).1,(by decide:2<=100)⟩,trivial⟩
  | hang i c hi hc h1=>
   have lt:=(cS.mp hc).1;show Ay V (uV V x i.toNat);unfold uV;rw[hc];dsimp only[Option.elim];split
   .exact⟨lt,trivial⟩
   split
   .refine⟨lt,?_⟩;split
    .exact⟨by show _<(V.calls.modify _ _).length;rw[eP];exact lt,trivial⟩
    .trivial
   split
   .exact⟨lt,trivial⟩
   .exact⟨lt,trivial⟩
  | hold i c hi hc h1=>show Ay V [AR V "hold" x i.toNat];rw[xc hc];exact⟨(cS.mp hc).1,trivial⟩
  | back i c hi hc h1 h2=>show Ay V [AR V "back" x i.toNat];rw[xc hc];exact⟨⟨(cS.mp hc).1,hm c (qS hc)⟩,trivial⟩
  | two _ i j c d hi hj hw hc hd h1 h2=>
   show Ay V [Dn V w x i.toNat j.toNat];rw[Fz hc hd];refine⟨⟨(cS.mp hc).1,(cS.mp hd).1,(Fm (w:=w) wf hc hd h1 h2).1,?_⟩,trivial⟩;split
   .exact(by decide:2<=100)
   .exact(by decide:3<=100)
noncomputable def qe.at_(V:qe)(p:Addr)(F:List Addr):qe:={V with p:=p,fo:=F}
def Iz(V:qe)(p:Addr)(F:List Addr)(e:Ev):pU (V.at_ p F) e=(pU V e).at_ p F:=by cases e<;>rfl
theorem Jc(p:Addr)(F:List Addr):∀(es:List Ev) (V:qe),qk (V.at_ p F) es=(qk V es).at_ p F
 | [],_=>rfl
 | e::r,V=>by show qk (pU (V.at_ p F) e) r=_;rw[Iz,Jc p F r];rfl
theorem Es(p:Addr)(F:List Addr):∀(es:List Ev) (V:qe),Ay V es->Ay (V.at_ p F) es
 | [],_,_=>trivial
 | e::r,V,h=>⟨by cases e<;>exact h.1,by rw[Iz];exact Es p F r _ h.2⟩
noncomputable def Fv(c:pz):D:=.tup [.str c.st,.str c.cr,.tup (c.way.map D.str),.tup (c.at_.map D.str),.tup (c.ms.map D.str),CD c.hd,.int c.si,CD c.wd]
noncomputable def yk(V:qe):D:=.tup [.int V.t,.tup (V.calls.map Fv),.tup ((tz V.ps).map Ao),.tup (V.on.map D.bl)]
def OT(a:Ad):rb:=λds M Q=>CO λL k c=>ds=[.ref k.p]/\rJ a M L k c/\Q (Fv c) M
def HB(a:Ad):rb:=λds M Q=>Bq λA V=>ds=[.ref A.b]/\pJ a M A V/\V.calls.length<=10000/\V.ps.length<=3/\Q (yk V) M
def G9(a:Ad):rb:=λds M Q=>IE λp h r F (l:pE) (es:List Ev)=>ds=[.ref p,.int h,.ref r]/\sT a M p l/\qY l/\(∀x∈F,∃c,M x=some c)/\oS M r=some (es.map Ev.d)/\es.length<=900000/\Ay (V0 p h l F) es/\∀M' A,ub a M M' A.b A (qk (V0 p h l F) es) l es.length (3+es.length)->Q (.ref A.b) M'
def Qt(e:Ev):e.nw<=1:=by cases e<;>first|exact cZ _|exact dS _
def vW{l:pE}(ok:qY l):(uX l).length<=3:=by unfold uX;rw[cQ];exact dN (gB _ _) ok.g3
def Gm{es:List Ev}{pre post:List D}{d:D}(e:pre++d::post=es.map Ev.d):∃ev,es[pre.length]?=some ev/\d=ev.d/\es.take (pre.length+1)=es.take pre.length++[ev]/\es.drop pre.length=ev::es.drop (pre.length+1):=by
 have h:(es.map Ev.d)[pre.length]?=some d:=by rw[<-e];simp
 rw[dq]at h;cases q:es[pre.length]? with
 | none=>rw[q]at h;cases h
 | some ev=>rw[q]at h;have hl:=(cS.mp q).1;have eg:es[pre.length]=ev:=(cS.mp q).2;exact⟨ev,rfl,(c9 h).symm,by rw[List.take_succ,q];rfl,by rw[gF hl,eg]⟩
def PQ(G:Gl K mg a):Fq P w K mg base 1 a.aS (OT a):=by
 refine fq G.aS.toDG xf (λr u=>⟨_,(pb (pK 1 xf (pM (ra (pW sj rfl G.z sf (qb (pA v0))) (pW sj rfl G.z sf (qb (pA v0))) (pW sj rfl G.z sf (qb (pA v0))))))
 (pj (pD (pV (pV (pM (rP (pA v0) (pA v0))) U1) (pM (ra (pA v0) (pA v0) (pA v0))))))),?_⟩)
 rintro ds M Q ⟨L,k,c,rfl,⟨ad,md,h1,h2,h3,h4,_⟩,q⟩
 have hz:=dF;refine pf h1 (i' rfl (i' h2 (pf h1 (i' rfl (i' h3 (pf h1 (i' rfl (i' h4 ⟨oZ rfl,?_⟩))))))));refine pf h1 (i' rfl (pf h1 (i' rfl ⟨oZ rfl,ft _ _,by show 2+3<=sizeLine;omega,?_⟩)));exact pf h1 (i' rfl (pf h1 (i' rfl (pf h1 (i' rfl ⟨oZ rfl,ft _ _,by show 5+3<=sizeLine;omega,M,.refl,q⟩)))))
def wN(G:Gl K mg a):Fq P w K mg base 2 a.L (HB a):=by
 refine fq G.L.toDG BQ (λr u=>⟨_,(pb (pK 1 BQ (pW sj rfl G.z sf (qb (qD rfl (xQ (ix:=[none]) (N':=["call"])) (qC (pA v0)) (qA 0) rH (pF (PQ G) r G.aS (qb v0))))))
 (pj (pD (pM (pX (pA v0) (ra U1 (pW sj rfl G.z sf (qb (EZ rfl (pA v0) rfl G.cA))) (pW sj rfl G.z sf (qb (pA v0))))))))),?_⟩)
 rintro ds M Q ⟨A,V,rfl,bd,Xb,h3,q⟩
 have hz:=dF;refine pf bd.at_ (i' rfl (i' bd.ca ?_));refine wK (A.cs.map λk=>D.ref k.p) (λpre acc δ M'=>M=M'/\acc=(V.calls.take pre.length).map Fv/\∃y,δ=[y]) (λ_ _ _ M' j=>by rw[<-j.1];exact bd.ca) _ [] [] _ _ rfl ?_ ⟨rfl,rfl,none,rfl⟩ ?_ ?_
 .rw[cQ,bd.len];simp only[dE];omega
 .rintro pre d post e acc δ M' ⟨rfl,rfl,y,rfl⟩ k hk
  obtain⟨ka,c,e1,e2,rfl,hc,et⟩:=El bd e;refine⟨_,ka,c,rfl,hc,hk _ _ _ ⟨rfl,?_,_,rfl⟩⟩;rw[cT,dG,et,dH];rfl
 .rintro acc δ M' ⟨rfl,rfl,y,rfl⟩ p1 Yc
  rw[cQ,bd.len,e9];refine i' pC ?_;have s1:=qm.new (c:=.lst (V.calls.map Fv)) Yc;generalize pB M p1 (.lst (V.calls.map Fv))=M1 at s1 ⊢;refine pf (s1 _ _ bd.at_) (i' rfl (pf (s1 _ _ bd.at_) (i' rfl ⟨V.ps,s1.dk bd.nx,h3,λS hS=>i' pC ?_⟩)));have s2:=s1.trans (qm.new (c:=.lst ((tz V.ps).map Ao)) hS);generalize pB M1 S (.lst ((tz V.ps).map Ao))=M2 at s2 ⊢;exact pf (s2 _ _ bd.at_) (i' rfl (i' (s2.lst bd.on) ⟨oZ rfl,M,s2,q⟩))
def FL(G:Gl K mg a):Fq P w K mg base 4 a.aT (G9 a):=by
 refine fq G.aT.toDG xy (λr u=>⟨_,(pb (pK 3 xy (uF (Ci G) r G.c G.bP G.M.toDG (rP v0 U1)))
 (pb (uk eW rfl (qC U2) (rW 4 xy)
 (pj (pL (pT U3 G.c.toCls G.k (qK G) r (qb v4)))))
 (pj (pD U3)))),?_⟩)
 rintro ds M Q ⟨p,h,r,F,l,es,rfl,pl,ok,hF,lr,hes,mP,q⟩
 refine λb hb=>?_;obtain⟨hb0,s0⟩:pB M b (.ins a.c []) b=some (.ins a.c [])/\qm M (pB M b (.ins a.c [])):=⟨pN,.new hb⟩;refine⟨b,p,h,F,l,rfl,hb0,pl.sub s0,ok,λz=>?_,λx hx=>(hF x hx).imp λc e=>s0 x c e,λM1 A eb kp fr bd=>⟨rfl,?_⟩⟩
 .obtain⟨ph,gr,ws,X6,pr,gd,rs,i1,_⟩:=pl;rw[z,hb]at i1;cases i1
 have s1:qm M M1:=λx c e=>kp x c (λz=>by rw[z,hb]at e;cases e) (s0 x c e);have c0:ub a M M1 b A (V0 p h l F) l 0 3:=⟨bd,pl,s1,λx hx=>?_,eb,⟨dS _,dS _,cZ _,vW ok,λk hk=>by cases hk⟩,ok,cQ ..⟩
 rotate_left
 .rcases fr x hx with z|z
  .rw[z];exact hb
  .exact s0.none z
 have nf:r∉A.foot:=λz=>by have:=c0.fr r z;rw[pR lr]at this;cases this
 have lr1:=s1.lst lr;refine i' lr1 (vk (es.map Ev.d) (λpre δ M'=>(∃A',ub a M M' b A' (qk (V0 p h l F) (es.take pre.length)) l pre.length (3+pre.length)/\qM A M1 A' M'/\Ay (qk (V0 p h l F) (es.take pre.length)) (es.drop pre.length))/\∃y,δ=[some (.ref p),some (.int h),some (.ref r),some (.ref b),y]) (λpre δ M' j=>?_) _ [] _ _ rfl ⟨⟨A,c0,.refl,mP⟩,none,rfl⟩ ?_ ?_)
 .obtain⟨⟨A',c1,Xd,_⟩,_⟩:=j;exact rG (Xd.1 r _ nf (pR lr1))
 .rintro pre d post e δ M' ⟨⟨A',c1,Xd,o1⟩,y,rfl⟩ nx WU
  obtain⟨ev,e1,rfl,e2,e3⟩:=Gm e;have hp:pre.length<es.length:=(cS.mp e1).1;rw[e3]at o1;rw[cT,dG,e2,qT]at WU;generalize qk (V0 p h l F) (es.take pre.length)=V1 at c1 o1 WU;refine pf c1.at_ ⟨rfl,_,⟨rfl,rfl⟩,b,A',V1,ev,rfl,c1.b,c1.bd,c1.lim (by omega) (by omega),o1.1,λM2 A2 Y4 WZ XQ=>WU _ _ ⟨⟨A2,(c1.after o1.1 Y4 WZ XQ).mono (kF (Qt ev) _) (by omega),Xd.trans WZ,o1.2⟩,_,rfl⟩⟩
 .rintro δ M' ⟨⟨A',c1,Xd,o1⟩,y,rfl⟩
  rw[cQ,e9]at c1;have qq:=q M' A' (by rw[c1.b];exact c1);rw[c1.b]at qq;exact⟨M',.refl,qq⟩
def Ev.noT:Ev->Prop
 | .turn=>False
 | _=>True
def Ev.noN:Ev->Prop
 | .next _ _=>False
 | _=>True
theorem E8:∀{es:List Ev} {V:qe},(∀e∈es,e.noN)->(qk V es).ps=V.ps
 | [],_,_=>rfl
 | e::r,V,h=>(E8 (es:=r) (V:=pU V e) λx hx=>h x (dv _ hx)).trans (by have:=h e dC;cases e<;>first|rfl|cases this)
theorem B0(i:Nat):∀(st:sU) (q:Option Str),∀e∈rh i q st,e.noT/\e.noN
 | [],_,e,h=>by unfold rh at h;cases h
 | (y,gs)::r,none,e,h=>by
  rcases cY.mp (show e∈Ev.asks i y gs::rh i (some y) r from h)with rfl|h
  .exact⟨trivial,trivial⟩
  .exact B0 i r _ e h
 | (y,gs)::r,some u,e,h=>by
  rcases cY.mp (show e∈Ev.leg ⟨i,u,y,u⟩::Ev.asks i y gs::rh i (some y) r from h)with rfl|h
  .exact⟨trivial,trivial⟩
  rcases cY.mp h with rfl|h
  .exact⟨trivial,trivial⟩
  .exact B0 i r _ e h
def Px{i:Nat}{st:sU}{en:vn}:∀e∈sW i st en,e.noT/\e.noN:=λe h=>by
 unfold sW at h;cases en with
 | ring ns=>
  dsimp only at h;cases q:st.getLast? with
  | none=>rw[q]at h;cases h
  | some s0=>rw[q]at h;rw[df.mp h];exact⟨trivial,trivial⟩
 | _=>cases h
def Qg{ps:List (Str×Int)}{z:Str}{n:Int}(h:ps.any (λp=>decide (p.1=z))=true):(zZ ps z n).length=ps.length:=by unfold zZ;rw[cX h,cQ]
def Rf{l:pE}{V V1:qe}{i:Nat}{en:vn}(nx:um l V1)(he:DJ l V i en):(qk V1 (sC l V i en)).ps.length=V1.ps.length:=by
 cases en with
 | rings z ps=>
  show(qk V1 ((if (l.mM z=="turns")=true then[Ev.next z (Qx (l.mE z) (ps.headD Str.empty))]else[])++[.rings i ps])).ps.length=_;rw[qT];by_cases ht:(l.mM z=="turns")=true
  .rw[cX ht];refine Qg ?_;obtain⟨v,e,_⟩:=nx z he.1 ht;exact gx.mpr ⟨v,gf e,by simpa using ma e⟩
  .rw[cV ht];rfl
 | breaks z=>
  unfold sC;dsimp only;split
  .rfl
  .rfl
 | waits z=>rfl
 | engaged z=>rfl
 | barred=>rfl
 | ring ns=>rfl
def QB{l:pE}{V:qe}{i:Nat}{k:pz}(ok:qY l)(wf:zp l V (some i))(hk:V.calls[i]?=some k):(qk V (vF l V i)).ps.length=V.ps.length:=by
 have Xs:=wf.ok i k hk;unfold vF;rw[hk];dsimp only[Option.elim];obtain⟨z,hz⟩:∃z,k.way.getLast?=some z:=by
  cases e:k.way.getLast? with
  | none=>exact absurd (gg.mp e) Xs.wy.1
  | some z=>exact⟨z,rfl⟩
 rw[show k.way.getLastD Str.empty=z by rw[gG,hz];rfl];have ro:wG l V k.cr (l.nm.length+1) [] (uz l V k.cr z k.way.dropLast):=xD ok _ _ _ _ (Xs.wy.2 z (ia hz)) λx hx=>Xs.wy.2 x (ib _ hx);have eo:=HH ok wf hk ro.e;generalize uz l V k.cr z k.way.dropLast=R at eo;obtain⟨e,st⟩:=R;have e1:(qk (qk V (rh i none st)) (sW i st e)).ps=V.ps:=(E8 λx hx=>(Px x hx).2).trans (E8 λx hx=>(B0 i st none x hx).2);rw[qT,qT];refine(Rf (λz hz ht=>?_) eo).trans (eG List.length e1);rw[e1];exact wf.nx z hz ht
theorem Jr{l:pE}(ok:qY l):∀(is:List Nat) {V:qe},WF l V->(qk V (rj l is V)).ps.length=V.ps.length
 | [],V,_=>by unfold rj;rfl
 | i::r,V,wf=>by
  unfold rj;rw[qT];refine(Jr ok r (D3 ok wf)).trans ?_;have d:=Ez (V:=V) (i:=i) ok;generalize yf l V i=fs at d;cases d with
  | no=>rfl
  | on c k r b x y n hc hs hk hw hy=>rw[xS hk,qT];exact QB ok (Bi wf hc hs hy) (A7 hc)
def T4{l:pE}{V:qe}{e:tR}(ok:qY l)(wf:WF l V)(f:e.ng)(h:xj l V e=none):(qk V (wc l V e)).ps.length=V.ps.length:=by
 cases e with
 | call y z=>obtain⟨h1,h2,h3,h4⟩:=A6 h;obtain⟨k,hk⟩:=HJ (V:=V) (y:=y) (z:=z);show(qk V (_++vF l _ _)).ps.length=_;rw[qT];exact QB ok (Fg wf h1 h2 h3 h4) hk
 | turn=>exact Jr ok _ (A5 wf)
 | sw b i=>rfl
 | num w x ns=>
  refine eG List.length (E8 λev hev=>?_);obtain⟨_,n⟩:=EE f h;cases n with
  | answer i c hi hc h1 h2 h3=>rw[df.mp (show ev∈[AR V "answer" x i.toNat]from hev),xc hc];trivial
  | hang i c hi hc h1=>
   have hev:ev∈uV V x i.toNat:=hev;unfold uV at hev;rw[hc]at hev;dsimp only[Option.elim]at hev;split at hev
   .rw[df.mp hev];trivial
   split at hev
   .rcases cY.mp hev with rfl|hev
    .trivial
    split at hev
    .rw[df.mp hev];trivial
    .cases hev
   split at hev
   .rw[df.mp hev];trivial
   .rw[df.mp hev];trivial
  | hold i c hi hc h1=>rw[df.mp (show ev∈[AR V "hold" x i.toNat]from hev),xc hc];trivial
  | back i c hi hc h1 h2=>rw[df.mp (show ev∈[AR V "back" x i.toNat]from hev),xc hc];trivial
  | two _ i j c d hi hj hw hc hd h1 h2=>rw[df.mp (show ev∈[Dn V w x i.toNat j.toNat]from hev),Fz hc hd];trivial
theorem zO(n:Nat):∀ss:List Str,(ss.map D.str).all (sE n)=true
 | []=>rfl
 | s::r=>by rw[dP,eO,zO n r];cases n<;>rfl
theorem DO(n:Nat):∀ss:List Nat,(ss.map λi=>D.int (i:Nat)).all (sE n)=true
 | []=>rfl
 | s::r=>by rw[dP,eO,DO n r];cases n<;>rfl
theorem Gn(n:Nat):∀ss:List Bool,(ss.map D.bl).all (sE n)=true
 | []=>rfl
 | s::r=>by rw[dP,eO,Gn n r];cases n<;>rfl
def Pk(e:Ev):sE 6 e.d=true:=by
 have t:∀ss:List Str,sE 5 (names ss)=true:=λss=>zO 4 ss;have u:∀ss:List Nat,sE 5 (vY ss)=true:=λss=>DO 4 ss;cases e with
 | asks i z ns=>show([D.str "asks",.int (i:Nat),.str z,vY ns].all (sE 5))=true;simp only[eO,u];rfl
 | merge i j ms=>show([D.str "merge",.int (i:Nat),.int (j:Nat),names ms].all (sE 5))=true;simp only[eO,t];rfl
 | rings i ps=>show([D.str "rings",.int (i:Nat),names ps].all (sE 5))=true;simp only[eO,t];rfl
 | talks i ps=>show([D.str "talks",.int (i:Nat),names ps].all (sE 5))=true;simp only[eO,t];rfl
 | _=>rfl
def Hb{n:Nat}(V:qe):sE (n+4) (yk V)=true:=by
 have c1:∀c∈V.calls,sE (n+2) (Fv c)=true:=λc hc=>by
  have h0:∀o:Option Str,sE (n+1) (CD o)=true:=λo=>by cases o<;>rfl
  have t:∀ss:List Str,sE (n+1) (.tup (ss.map D.str))=true:=λss=>zO n ss;show([D.str c.st,.str c.cr,.tup (c.way.map D.str),.tup (c.at_.map D.str),.tup (c.ms.map D.str),CD c.hd,.int c.si,CD c.wd].all (sE (n+1)))=true;simp only[eO,t,h0];rfl
 have c2:sE (n+3) (.tup (V.calls.map Fv))=true:=by show(V.calls.map Fv).all (sE (n+2))=true;rw[jC,eA];exact c1
 have c3:sE (n+3) (.tup ((tz V.ps).map L3.Ao))=true:=by show((tz V.ps).map L3.Ao).all (sE (n+2))=true;rw[jC,eA];exact λx _=>rfl
 have c4:sE (n+3) (.tup (V.on.map D.bl))=true:=Gn (n+2) _;show([D.int V.t,.tup (V.calls.map Fv),.tup ((tz V.ps).map L3.Ao),.tup (V.on.map D.bl)].all (sE (n+3)))=true;simp only[eO,c2,c3,c4];rfl
noncomputable def Bf(c:pz):List Str:=if (c.st=="talks"||c.st=="held")=true then c.ms else c.cr::c.at_
def KI(a:Ad):rb:=λds M Q=>CO λL k c=>ds=[.ref (rA.p k)]/\rJ a M L k c/\c.at_.length<=100/\∀r M',qm M M'->oS M' r=some ((Bf c).map D.str)->Q (.ref r) M'
noncomputable def MN(V:qe)(XT:List Str):List Nat:=(List.range V.calls.length).filter λi=>(V.calls[i]?).elim false λc=>hasS XT c.st
def OI(a:Ad):rb:=λds M Q=>CF λA V l XT=>ds=[.ref A.b,.tup (List.map D.str XT)]/\Rd a M A V l/\∀r M',qm M M'->oS M' r=some ((MN V XT).map λn=>D.int (n:Nat))->Q (.ref r) M'
noncomputable def Rb(V:qe)(XT:List Str):D->Bool
 | .int n=>(V.calls[n.toNat]?).elim false λc=>hasS XT c.st
 | _=>false
def Kn(G:Gl K mg a):Fq P w K mg base 1 a.bq (KI a):=by
 refine fq G.bq.toDG CN (λr u=>⟨_,(pb (pP (W3.b3 (ym (pG u (pA v0) pq) (xG (pG u (pA v0) pq))))
 (pj (pD (pW su rfl G.r sv (qb (pA v0)))))
 pH)
 (pj (pD (pV (qJ (qb (pA v0))) (pW su rfl G.r sv (qb (pA v0))))))),?_⟩)
 rintro ds M Q ⟨L,k,c,rfl,⟨ad,md,h1,h2,h3,h4,_⟩,ha,q⟩
 have hz:=dF;unfold Bf at q;refine pf h1 (i' rfl (qF (c:=c.st=="talks") (λg=>?_) (λg=>?_)))
 .rw[g,gY,cX rfl]at q;exact pf h1 (i' rfl (i' h4 λr hr=>⟨_,.refl,q r _ (.new hr) pC⟩))
 rw[dD.mpr g,fL]at q;refine pf h1 (i' rfl (qF (c:=c.st=="held") (λg=>?_) (λg=>?_)))
 .rw[cX g]at q;exact pf h1 (i' rfl (i' h4 λr hr=>⟨_,.refl,q r _ (.new hr) pC⟩))
 rw[cV g]at q;refine pf h1 (i' rfl ⟨oZ rfl,λr1 Xq=>?_⟩);have t1:=qm.new (c:=.lst [D.str c.cr]) Xq;have l1:=@pC M r1 [D.str c.cr];show zJ (pB M r1 (.lst [D.str c.cr]) k.p) _;generalize pB M r1 (.lst [D.str c.cr])=M1 at t1 l1 ⊢;refine pf (t1 _ _ h1) (i' rfl (i' (t1.lst h3) λr2 Yy=>?_));have t2:=qm.new (c:=.lst (c.at_.map D.str)) Yy;refine i' (t2.lst l1) (i' pC ⟨?_,λr3 Zn=>⟨_,.refl,q r3 _ (t1.trans (t2.trans (.new Zn))) pC⟩⟩);rw[cQ];show 1+c.at_.length<=sizeLine;omega
def N0(G:Gl K mg a):Fq P w K mg base 1 a.br (OI a):=by
 refine fq G.br.toDG AF (λr u=>⟨_,(pj (pD (qD rfl (xQ (ix:=[none,some 0,some 1]) (N':=["_law_k","_law_board","_law_states"])) (uY rfl G.O (qb (pQ qu rfl G.g qp (qb (pA v0))))) (qA 0) (vM (pG u (pA (pI (pA U1) v0)) U2)) v0))),?_⟩)
 rintro ds M Q ⟨A,V,l,XT,rfl,rd,q⟩
 have hz:=dF;have lc:((A.cs.map λk=>D.ref k.p).length:Int)=(V.calls.length:Nat):=by rw[cQ,rd.bd.len]
 have hb:=rd.k;refine pf rd.bd.at_ (i' rfl (i' rd.bd.ca ?_));rw[lc];refine⟨rfl,⟨by omega,by omega⟩,?_⟩;refine tL (f:=id) (t:=Rb V XT) trivial _ [] _ (by rw[cQ,d6];simp only[dE];omega) (λd hd k hk=>?_) (λd hd _ k hk=>?_) λr hr=>?_
 .obtain⟨i,hi,rfl⟩:=dw.mp hd;rw[gb]at hi;have hi:i<V.calls.length:=by omega
  obtain⟨k',ek,⟨ad,md,h1,_⟩⟩:=rd.call (cU hi);have ea:wn (A.cs.map λk=>D.ref k.p) (0+(i:Nat))=some (.ref k'.p):=by rw[my];exact rf ek
  refine pf rd.bd.at_ (i' rfl (i' rfl (i' rd.bd.ca (i' ea (pf h1 (i' rfl (i' rfl ⟨rfl,qx _,?_⟩)))))));show k (inD (.str V.calls[i].st) (XT.map D.str)) M;rw[sr];have e1:Rb V XT (.int (0+(i:Nat)))=hasS XT V.calls[i].st:=by show(V.calls[(0+(i:Int)).toNat]?).elim false _=_;rw[show(0+(i:Int)).toNat=i by omega,cU hi];rfl
  show k (hasS XT V.calls[i].st) M;rw[<-e1];exact hk
 .exact hk
 .refine⟨_,.refl,q r _ (.new hr) (pC.trans (eG some ?_))⟩;rw[dW,i9,gQ,show(((V.calls.length:Nat):Int)).toNat=V.calls.length from rfl];unfold MN;have e1:(Rb V XT∘λi:Nat=>D.int (0+(i:Nat)))=λi=>(V.calls[i]?).elim false λc=>hasS XT c.st:=funext λi=>by show(V.calls[(0+(i:Int)).toNat]?).elim false _=_;rw[show(0+(i:Int)).toNat=i by omega]
  rw[e1];exact gu λi _=>by rw[my]
noncomputable def G6:Str->List Str:=λw=>if (w=="answer")=true then["rings","waits"]else if (w=="hold")=true then["talks"]else if (w=="hang")=true then["rings","waits","talks","held"]else["held"]
def Sk(w:Str):Prop:=w="answer"\/w="hang"\/w="hold"\/w="back"\/w="hand"\/w="join"
def Kz(a:Ad):rb:=λds M Q=>F8 λA V l c w=>ds=[.ref A.b,.int c,.str w,.tup ((G6 w).map D.str)]/\Rd a M A V l/\WF l V/\(∀k∈V.calls,k.at_.length<=100)/\Sk w/\∀M',qm M M'->Q .mI M'/\∀e:tR,e.ng->Q e.d M'
def Rg{M:Mp}{n:Nat}{a b:Addr}{ds:List D}(ha:oS M a=some ds)(hb:oS M b=some []):yd M (n+1) (.ref a) (.ref b)=some ds.isEmpty:=by
 show(oS M a).bind (λi=>(oS M b).bind λj=>if i.length=j.length then sD (yd M n) i j else some false)=_;rw[ha,hb];cases ds with
 | nil=>rfl
 | cons x r=>rfl
def uH{α:Type}(f:α->D){xs:List α}(h:xs≠[])(c k:Int):(0:Int)<((xs.map f).length:Nat)/\∃x∈xs,wn (xs.map f) (qo c k ((xs.map f).length:Nat))=some (f x):=by
 have hp:(0:Int)<((xs.map f).length:Nat):=by have:=fu.mpr h;rw[cQ];omega
 have d0:=qQ (c:=c) (f:=k) hp;have d1:=qG (c:=c) (f:=k) hp;obtain⟨n,e⟩:=d9 d0;rw[e]at d1 ⊢;have hn:n<xs.length:=by rw[cQ]at d1;omega
 exact⟨hp,xs[n],hW hn,ua (by rw[dq,cU hn];rfl)⟩
def Rv{V:qe}{XT:List Str}{i:Nat}(h:i∈MN V XT):∃c,V.calls[i]?=some c/\c.st∈XT:=by
 have h:=(fE.mp h).2;cases e:V.calls[i]? with
 | none=>rw[e]at h;cases h
 | some c=>rw[e]at h;exact⟨c,rfl,qP.mp h⟩
def DN{l:pE}{c:pz}(k:vO l false c)(h:c.st≠"over"):Bf c≠[]:=by
 unfold Bf;split
 .rename_i g;rcases k.sh with z|⟨_,z|z|⟨_,z⟩|z⟩
  .rw[z.1]at g;exact absurd g (by decide)
  .rw[z.1]at g;exact absurd g (by decide)
  .intro y;rw[y]at z;rcases z.2.1 with u|u<;>cases u
  .intro y;rw[y]at z;cases z.2.1
  .exact absurd z.1 h
 .exact ft _ _
def Ub{l:pE}{c:pz}(k:vO l false c)(h:c.st∈G6 "answer"):c.at_≠[]:=by
 have h:c.st="rings"\/c.st="waits":=by
  rcases cY.mp h with g|g
  .exact .inl g
  .exact .inr (df.mp g)
 rcases k.sh with z|⟨_,z|z|⟨_,z⟩|z⟩
 .exact z.2.2.2.2.2 rfl
 .intro y;rw[y]at z;cases z.2.2.2.2
 all_goals(rw[z.1]at h;exact absurd h (by decide))
def IK{l:pE}{c:pz}(k:vO l false c)(h:c.st="held"):∃x,c.hd=some x:=by
 rcases k.sh with z|⟨_,z|z|⟨x,z⟩|z⟩
 .rw[h]at z;exact absurd z.1 (by decide)
 .rw[h]at z;exact absurd z.1 (by decide)
 .rw[h]at z;exact absurd z.1 (by decide)
 .exact⟨x,z.2.2.1⟩
 .rw[h]at z;exact absurd z.1 (by decide)
def Kf(G:Gl K mg a):Fq P w K mg base 4 a.bs (Kz a):=by
 refine fq G.bs.toDG rC (λr u=>⟨_,(pb (pK 4 rC (pF (N0 G) r G.br (rP v0 U3)))
 (pb (pP (pG u v4 (qJ sF))
 (pj (pD rQ))
 pH)
 (pb (pK 5 rC (pI v4 (pF (qE G) r G.i (ra U1 pk (pQ qu rfl G.g qp (qb v4))))))
 (pb (pK 6 rC (pF (Kn G) r G.bq (qb (pI (pA v0) v5))))
 (pb (pP (pG u U2 pq)
 (pj (pK 6 rC (pW su rfl G.r sv (qb (pA (pI (pA v0) v5))))))
 pH)
 (pb (pP (W3.b3 (ym (pG u U2 pq) (ym (pG u U2 pq) (xG (pG u U2 pq)))))
 (pj (pK 6 rC (qJ (qb (pA (pI (pA v0) v5))))))
 pH)
 (pb (pK 7 rC (pI v6 (pF (qE G) r G.i (ra U1 pk (pQ qu rfl G.g qp (qb v6))))))
 (pb (pP (W3.b3 (ym (pG u U2 pq) (xG (pG u U2 pq))))
 (pb (pK 8 rC (pT v0 G.c.toCls G.Y (yx G) r (qb v7)))
 (pj (pD (pM (pX U2 (ra v7 v5 (Qm (pG u v8 rQ) pk v8)))))))
 pH)
 (pj (pD (pM (ra U2 v7 v5)))))))))))),?_⟩)
 rintro ds M Q ⟨A,V,l,c,wd,rfl,rd,wf,ha,ho,q⟩
 have hz:=dF;refine⟨A,V,l,G6 wd,rfl,rd,λr M1 s1 lr=>?_⟩;refine⟨oZ rfl,λr0 YA=>?_⟩;have t2:=qm.new (c:=.lst []) YA;have Zs:=t2.lst lr;refine i' (Rg Zs pC) ?_;have s2:=s1.trans t2;generalize pB M1 r0 (.lst [])=M2 at s2 Zs ⊢;clear t2 lr YA s1;refine qF (c:=((MN V (G6 wd)).map λn=>D.int (n:Nat)).isEmpty) (λ_=>⟨M2,.refl,(q M2 s2).1⟩) (λg=>?_);have gne:MN V (G6 wd)≠[]:=λz=>g (by rw[z];rfl);obtain⟨hp,i,hi,ei⟩:=uH (λn:Nat=>D.int (n:Nat)) gne c 40692;obtain⟨cv,hc,hs⟩:=Rv hi;have YR:=rd.sub s2;obtain⟨k,ek,ca⟩:=YR.call hc;have ca0:=ca;obtain⟨ad,md,h1,h2,h3,h4,_⟩:=ca0;have Xs:=wf.ok i cv hc;refine i' Zs ⟨c,_,_,rfl,hp,i' Zs (i' ei ?_)⟩;refine pf YR.bd.at_ (i' rfl (i' rfl (i' YR.bd.ca (i' (rf ek) ?_))));refine⟨_,k,cv,rfl,ca,ha cv (qS hc),λr3 M3 s3 lr3=>?_⟩;have Xp:=s3 _ _ h1;have q3:=λM' (s:qm M3 M')=>q M' (s2.trans (s3.trans s));have Y5:=YR.sub s3;have Zl:=s3.lst h3;clear q Zs s2 h1 h2 h3 h4 ca;rcases ho with rfl|rfl|rfl|rfl|rfl|rfl
 .
  refine pf Y5.bd.at_ (i' rfl (i' rfl (i' Y5.bd.ca (i' (rf ek) (pf Xp (i' rfl (i' Zl λr4 Zt=>?_)))))));obtain⟨WT,x,hx,ex⟩:=uH D.str (Ub Xs hs) c 742938285;refine i' pC ⟨c,_,_,rfl,WT,i' pC (i' ex ?_)⟩;exact⟨oZ rfl,_,.refl,(q3 _ (.new Zt)).2 (.num "answer" x [(i:Nat)]) (.inl ⟨.inl rfl,rfl⟩)⟩
 .
  obtain⟨WT,x,hx,ex⟩:=uH D.str (DN Xs (λz=>by rw[z]at hs;exact absurd hs (by decide))) c 742938285;refine i' lr3 ⟨c,_,_,rfl,WT,i' lr3 (i' ex ?_)⟩;exact⟨oZ rfl,_,.refl,(q3 _ .refl).2 (.num "hang" x [(i:Nat)]) (.inl ⟨.inr (.inl rfl),rfl⟩)⟩
 .
  obtain⟨WT,x,hx,ex⟩:=uH D.str (DN Xs (λz=>by rw[z]at hs;exact absurd hs (by decide))) c 742938285;refine i' lr3 ⟨c,_,_,rfl,WT,i' lr3 (i' ex ?_)⟩;exact⟨oZ rfl,_,.refl,(q3 _ .refl).2 (.num "hold" x [(i:Nat)]) (.inl ⟨.inr (.inr (.inl rfl)),rfl⟩)⟩
 .
  obtain⟨y,hy⟩:=IK Xs (df.mp hs);refine pf Y5.bd.at_ (i' rfl (i' rfl (i' Y5.bd.ca (i' (rf ek) (pf Xp (i' rfl ⟨oZ rfl,λr4 Zt=>?_⟩))))));rw[show CD cv.hd=.str y by rw[hy];rfl];obtain⟨WT,x,hx,ex⟩:=uH D.str (ft y []) c 742938285;refine i' pC ⟨c,_,_,rfl,WT,i' pC (i' ex ?_)⟩;exact⟨oZ rfl,_,.refl,(q3 _ (.new Zt)).2 (.num "back" x [(i:Nat)]) (.inl ⟨.inr (.inr (.inr rfl)),rfl⟩)⟩
 all_goals
  obtain⟨y,hy⟩:=IK Xs (df.mp hs);refine pf Y5.bd.at_ (i' rfl (i' rfl (i' Y5.bd.ca (i' (rf ek) (pf Xp (i' rfl ⟨oZ rfl,λr4 Zt=>?_⟩))))));rw[show CD cv.hd=.str y by rw[hy];rfl];obtain⟨WT,x,hx,ex⟩:=uH D.str (ft y []) c 742938285;refine i' pC ⟨c,_,_,rfl,WT,i' pC (i' ex ?_)⟩;have t4:=qm.new (c:=.lst [D.str y]) Zt;refine pf (t4 _ _ Y5.bd.at_) ⟨rfl,_,⟨rfl,rfl⟩,A,V,x,rfl,Y5.bd.sub t4,Y5.k,?_⟩;unfold Ak;cases vC V x with
  | none=>first|exact⟨oZ rfl,_,.refl,(q3 _ t4).2 (.num "hand" x [(i:Nat),(0:Nat)]) (.inr ⟨.inl rfl,rfl⟩)⟩|exact⟨oZ rfl,_,.refl,(q3 _ t4).2 (.num "join" x [(i:Nat),(0:Nat)]) (.inr ⟨.inr rfl,rfl⟩)⟩
  | some j=>first|exact⟨oZ rfl,_,.refl,(q3 _ t4).2 (.num "hand" x [(i:Nat),(j:Nat)]) (.inr ⟨.inl rfl,rfl⟩)⟩|exact⟨oZ rfl,_,.refl,(q3 _ t4).2 (.num "join" x [(i:Nat),(j:Nat)]) (.inr ⟨.inr rfl,rfl⟩)⟩
def Jh:rb:=λds M Q=>IE λc o n own nm m=>ds=[.int c,.ref o,.ref n,.int ((m:Nat):Int)]/\oS M o=some (List.map D.str own)/\oS M n=some (List.map D.str nm)/\own.length<=100/\nm.length<=100/\m<=1000000/\∀M' (e:tR),qm M M'->e.ng->Q e.d M'
def MH(a:Ad):rb:=λds M Q=>SR λA V l c o n own nm=>ds=[.ref A.b,.int c,.ref o,.ref n]/\Rd a M A V l/\WF l V/\(∀k∈V.calls,k.at_.length<=100)/\oS M o=some (List.map D.str own)/\oS M n=some (List.map D.str nm)/\own≠[]/\nm≠[]/\own.length<=100/\nm.length<=100/\∀M' (e:tR),qm M M'->e.ng->Q e.d M'
def JO{α:Type}(f:α->D){xs:List α}(h:xs≠[]){m:Int}(hm:m=(xs.length:Nat))(c k:Int):(0:Int)<m/\∃x∈xs,wn (xs.map f) (qo c k m)=some (f x):=by have:=uH f h c k;rw[cQ,<-hm]at this;exact this
def OU{α:Type}(xs:List α)(x:α):xs++[x]≠[]:=by simp
noncomputable def Iw:List Str:=["call","call","call","call","call","answer","answer","answer","answer","answer","hang","hang","hold","hold","hold","back","hand","join","turn","turn","turn"]
theorem Du(d:D):∀n:Nat,(List.replicate n [d]).flatten=List.replicate n d
 | 0=>rfl
 | n+1=>by rw[eC,fM,Du d n,eC];rfl
noncomputable def zz:Str:="zzzzzz"
noncomputable def K2(a b:Str)(k m:Int):List tR:=[.call a b,.num "answer" a [k],.num "hang" a [k],.num "hold" a [k],.num "back" a [k],.num "hand" a [k,m],.num "join" a [k,m],.turn,.sw true k,.sw false k]
def Ln{a b:Str}{k m:Int}{e:tR}(h:e∈K2 a b k m):e.ng:=by
 unfold K2 at h;simp only[cY,dz,eQ]at h;rcases h with rfl|rfl|rfl|rfl|rfl|rfl|rfl|rfl|rfl|rfl
 .trivial
 .exact .inl ⟨.inl rfl,rfl⟩
 .exact .inl ⟨.inr (.inl rfl),rfl⟩
 .exact .inl ⟨.inr (.inr (.inl rfl)),rfl⟩
 .exact .inl ⟨.inr (.inr (.inr rfl)),rfl⟩
 .exact .inr ⟨.inl rfl,rfl⟩
 .exact .inr ⟨.inr rfl,rfl⟩
 .trivial
 .trivial
 .trivial
def OG(G:Gl K mg a):Fq P w K mg base 2 a.bt Jh:=by
 refine fq G.bt.toDG uA (λr u=>⟨_,(pb (pK 4 uA (pI (pV U1 (qJ (qb pq))) (pF (qE G) r G.i (ra v0 pk (pV (pQ qu rfl G.g qp (qb U1)) pk)))))
 (pb (pK 5 uA (pI (pV U2 (qJ (qb pq))) (pF (qE G) r G.i (ra v0 pk (pV (pQ qu rfl G.g qp (qb U2)) pk)))))
 (pb (pK 6 uA (pV (pF (qE G) r G.i (ra v0 pk (pV U3 pk))) pk))
 (pb (pK 7 uA (pV (pF (qE G) r G.i (ra v0 pk (pV U3 pk))) pk))
 (pb (pK 8 uA (qJ (pX (pM (ra pq v4 v5)) (pX (pM (ra pq v4 v6)) (pX (pM (ra pq v4 v6)) (ra (pM (ra pq v4 v6)) (pM (ra pq v4 v6)) (pM (pX pq (ra v4 v6 v7)))))))))
 (pj (pD (pI (pV v8 (qJ (pX (pM (pX pq (ra v4 v6 v7))) (ra (pM (qb pq)) (pM (rP pq v6)) (pM (rP pq v6)))))) (pF (qE G) r G.i (ra v0 pk pk)))))))))),?_⟩)
 rintro ds M Q ⟨c,o,n,own,nm,m,rfl,ho,hn,ol,nl,ml,q⟩
 have hz:=dF;have add:∀{M1:Mp} {p:Addr} {xs:List Str} (f:Int) (nx:DK),qm M M1->oS M1 p=some (xs.map D.str)->xs.length<=100->(∀x M',qm M M'->nx (.str x) M')->∀r1,M1 r1=none->(oS (pB M1 r1 (.lst [D.str zz])) p).elim False λi=>(oS (pB M1 r1 (.lst [D.str zz])) r1).elim False λj=>i.length+j.length<=sizeLine/\∀r2,pB M1 r1 (.lst [D.str zz]) r2=none->(oS (pB (pB M1 r1 (.lst [D.str zz])) r2 (.lst (i++j))) p).elim False λys=>JL [.int c,.int f,.int ((ys.length:Nat)+1)] (pB (pB M1 r1 (.lst [D.str zz])) r2 (.lst (i++j))) λy M2=>match y with
  | .int n=>(oS M2 r2).elim False λzs=>(wn zs n).elim False λd=>nx d M2
  | _=>False:=λ{M1 p xs} f nx s hx lx WU r1 Xq=>by
  have t1:=qm.new (c:=.lst [D.str zz]) Xq;refine i' (t1.lst hx) (i' pC ⟨by rw[cQ];show xs.length+1<=sizeLine;omega,λr2 Yy=>?_⟩);have t2:=qm.new (c:=.lst (xs.map D.str++[D.str zz])) Yy;obtain⟨hp,x,_,ex⟩:=JO D.str (OU xs zz) (m:=((xs.map D.str).length:Nat)+1) (by rw[cQ,cT];rfl) c f;rw[dH]at ex;exact i' ((t1.trans t2).lst hx) ⟨c,f,_,rfl,hp,i' pC (i' ex (WU x _ (s.trans (t1.trans t2))))⟩
 refine⟨oZ rfl,add 16807 _ .refl ho ol λx M1 s1=>⟨oZ rfl,add 39373 _ s1 (s1.lst hn) nl λy M2 s2=>?_⟩⟩;refine⟨c,_,_,rfl,by show(0:Int)<(m:Nat)+2;omega,⟨c,_,_,rfl,by show(0:Int)<(m:Nat)+2;omega,?_⟩⟩;generalize qo c 69621 ((m:Nat)+2) - 1=k0;refine⟨oZ rfl,oZ rfl,oZ rfl,oZ rfl,oZ rfl,oZ rfl,oZ rfl,λr8 hr8=>⟨oZ rfl,oZ rfl,oZ rfl,oZ rfl,oZ rfl,λr9 hr9=>?_⟩⟩;have t8:=qm.new (c:=.lst (((K2 x y k0 (qo c 22695477 ((m:Nat)+2) - 1)).take 6).map tR.d)) hr8;have t9:=qm.new (c:=.lst (((K2 x y k0 (qo c 22695477 ((m:Nat)+2) - 1)).drop 6).map tR.d)) hr9;refine i' (t9.lst pC) (i' pC ⟨by show 6+4<=sizeLine;omega,λr10 hr10=>?_⟩);obtain⟨hp,e,he,ee⟩:=JO tR.d (xs:=K2 x y k0 (qo c 22695477 ((m:Nat)+2) - 1)) (ft _ _) (m:=10) rfl c 1664525;exact⟨c,_,_,rfl,hp,i' pC (i' ee ⟨_,.refl,q _ e (s2.trans (t8.trans (t9.trans (.new hr10)))) (Ln he)⟩)⟩
def Ny(G:Gl K mg a):Fq P w K mg base 5 a.bu (MH a):=by
 refine fq G.bu.toDG rB (λr u=>⟨_,(pb (pK 4 rB (pV (pV (pV (pV (pV (BR (qJ (qb pq)) pk) (BR (qJ (qb pq)) pk)) (BR (qJ (qb pq)) pk)) (BR (qJ (qb pq)) pk)) (qJ (ra pq pq pq))) (BR (qJ (qb pq)) pk)))
 (pb (pK 4 rB (pI v4 (pF (qE G) r G.i (ra U1 pk (pQ qu rfl G.g qp (qb v4))))))
 (pb (pK 5 rB (pM (pX pq (ra pq pq pq))))
 (pb (pP (pG u v4 pq)
 (pj (pK 5 rB (pM (rP pq pq))))
 pH)
 (pb (pP (pG u v4 pq)
 (pj (pK 5 rB (pM (qb pq))))
 pH)
 (pb (pP (W3.b3 (ym (pG u v4 pq) (ym (pG u v4 pq) (xG (pG u v4 pq)))))
 (pj (pK 5 rB (pM (qb pq))))
 pH)
 (pb (pP (pG u v4 pq)
 (pj (pD (pM (qb pq))))
 pH)
 (pb (pP (pG u (pF (qE G) r G.i (ra U1 pk pk)) pk)
 (pj (pD (pF (OG G) r G.bt (pX U1 (ra U2 U3 (pQ qu rfl G.g qp (qb (pA v0))))))))
 pH)
 (pb (pK 6 rB rQ)
 (pb (pP (pG u v4 pq)
 (pj (pK 6 rB (pF (Kf G) r G.bs (pX v0 (ra U1 v4 v5)))))
 pH)
 (pb (pP (pG u v6 rQ)
 (pb (pK 7 rB (pI U2 (pF (qE G) r G.i (ra U1 pk (pQ qu rfl G.g qp (qb U2))))))
 (pj (pK 6 rB (pM (ra pq v7 (pI U3 (pF (qE G) r G.i (ra U1 pk (pQ qu rfl G.g qp (qb U3))))))))))
 pH)
 (pj (pD v6))))))))))))),?_⟩)
 rintro ds M Q ⟨A,V,l,c,o,n,own,nm,rfl,rd,wf,ha,ho,hn,one,nne,ol,nl,q⟩
 have hz:=dF;refine Qy (t:=Gk _ _) (λδ M'=>qm M M'/\∃r,oS M' r=some (Iw.map D.str)/\δ=[some (.ref A.b),some (.int c),some (.ref o),some (.ref n),some (.ref r),none,none,none]) (λnx h=>?_) ?_
 .have YD:∀{N:Mp} {δ:va} (w0:Str) (m:Int) (nx:DK),qm M N->(0<=m/\m<=10)->(∀r N',qm M N'->qm N N'->oS N' r=some ((List.replicate m.toNat w0).map D.str)->nx (.ref r) N')->Us (S8 (ve (L3.c3 (.str w0)) wY)) (L3.c3 (.int m)) δ N nx:=λ{N δ} w0 m nx sn hm WU=>by refine⟨oZ rfl,λr1 Xq=>?_⟩;refine i' pC ⟨⟨by omega,by omega,by show 1<=1000;decide⟩,λr2 Yy=>?_⟩;have t:=(qm.new (c:=.lst [D.str w0]) Xq).trans (qm.new (c:=.lst (List.replicate m.toNat [D.str w0]).flatten) Yy);refine WU r2 _ (sn.trans t) t (pC.trans (eG some ?_));rw[List.map_replicate];exact Du _ _
  have XU:∀{N:Mp} {p r:Addr} {xs ys:List Str} (nx:DK),qm M N->oS N p=some (xs.map D.str)->oS N r=some (ys.map D.str)->xs.length+ys.length<=100->(∀r N',qm M N'->oS N' r=some ((xs++ys).map D.str)->nx (.ref r) N')->US .Add (.ref p) (.ref r) N nx:=λ{N p r xs ys} nx sn hx hy hl WU=>by refine i' hx (i' hy ⟨by rw[cQ,cQ];omega,λr2 Yy=>?_⟩);refine WU r2 _ (sn.trans (.new Yy)) (pC.trans (eG some ?_));rw[dH]
  dsimp only[Gk,o3];refine YD "call" 5 _ .refl (by decide) λp1 N1 s1 _ l1=>YD "answer" 5 _ s1 (by decide) λq2 N2 s2 t2 l2=>XU _ s2 (t2.lst l1) l2 (by decide) λp2 N3 s3 l3=>YD "hang" 2 _ s3 (by decide) λq4 N4 s4 t4 l4=>XU _ s4 (t4.lst l3) l4 (by decide) λp5 N5 s5 l5=>YD "hold" 3 _ s5 (by decide) λq6 N6 s6 t6 l6=>XU _ s6 (t6.lst l5) l6 (by decide) λp7 N7 s7 l7=>⟨oZ rfl,λr8 hr8=>?_⟩;have t8:=qm.new (c:=.lst ((["back","hand","join"]:List Str).map D.str)) hr8;exact XU (ys:=["back","hand","join"]) _ (s7.trans t8) (t8.lst l7) pC (by decide) λp9 N9 s9 l9=>YD "turn" 3 _ s9 (by decide) λq10 N10 s10 t10 l10=>XU _ s10 (t10.lst l9) l10 (by decide) λp11 N11 s11 l11=>h _ _ ⟨s11,p11,l11,rfl⟩
 rintro δ M1 ⟨s1,r,lr,rfl⟩
 have s1n:=s1.lst hn;have s1o:=s1.lst ho;obtain⟨hp,w0,hw,ew⟩:=uH D.str (show Iw≠[]from ft _ _) c 48271;refine i' lr ⟨c,_,_,rfl,hp,i' lr (i' ew ?_)⟩;obtain⟨Yc,x1,hx1,ex1⟩:=uH D.str one c 16807;obtain⟨WT,x2,hx2,ex2⟩:=uH D.str nne c 39373;have Yz:=rd.sub s1;have lc:((A.cs.map λk=>D.ref k.p).length:Int)=(V.calls.length:Nat):=by rw[cQ,rd.bd.len]
 clear lr hp ew;have hw:w0="call"\/w0="turn"\/Sk w0:=by unfold Iw at hw;simp only[cY,dz,eQ]at hw;unfold Sk;rcases hw with h|h|h|h|h|h|h|h|h|h|h|h|h|h|h|h|h|h|h|h|h<;>simp[h]
 have WN:∀M' (e:tR),qm M1 M'->e.ng->∃WM,qm WM M'/\Q e.d WM:=λM' e s f=>⟨M',.refl,q M' e (s1.trans s) f⟩;rcases hw with rfl|rfl|hw
 .refine⟨oZ rfl,c,_,_,rfl,by decide,qF (c:=qo c 950706376 9==0) (λ_=>pf Yz.bd.at_ (i' rfl (i' Yz.bd.ca ?_))) (λ_=>?_)⟩
  .rw[lc];exact⟨c,o,n,own,nm,V.calls.length,rfl,s1o,s1n,ol,nl,rd.k,WN⟩
  exact i' s1o ⟨c,_,_,rfl,Yc,i' s1o (i' ex1 (i' s1n ⟨c,_,_,rfl,WT,i' s1n (i' ex2 ⟨oZ rfl,WN M1 (.call x1 x2) .refl trivial⟩)⟩))⟩
 .exact⟨oZ rfl,oZ rfl,WN M1 .turn .refl trivial⟩
 have lany:Jh [.int c,.ref o,.ref n,.int ((V.calls.length:Nat):Int)] M1 λd M'=>∃WM,qm WM M'/\Q d WM:=⟨c,o,n,own,nm,V.calls.length,rfl,s1o,s1n,ol,nl,rd.k,WN⟩;have hw':=hw;rcases hw with rfl|rfl|rfl|rfl|rfl|rfl
 all_goals
  first
   | refine⟨oZ rfl,oZ rfl,c,_,_,rfl,by decide,qF (c:=qo c 950706376 9==0) (λ_=>pf Yz.bd.at_ (i' rfl (i' Yz.bd.ca ?_))) (λ_=>⟨A,V,l,c,_,rfl,Yz,wf,ha,hw',λM' s=>⟨?_,λe f=>?_⟩⟩)⟩
   | refine⟨oZ rfl,c,_,_,rfl,by decide,qF (c:=qo c 950706376 9==0) (λ_=>pf Yz.bd.at_ (i' rfl (i' Yz.bd.ca ?_))) (λ_=>⟨A,V,l,c,_,rfl,Yz,wf,ha,hw',λM' s=>⟨?_,λe f=>?_⟩⟩)⟩
  .rw[lc];exact lany
  .exact i' (s.lst s1o) ⟨c,_,_,rfl,Yc,i' (s.lst s1o) (i' ex1 (i' (s.lst s1n) ⟨c,_,_,rfl,WT,i' (s.lst s1n) (i' ex2 ⟨oZ rfl,WN M' (.call x1 x2) s trivial⟩)⟩))⟩
  .cases e with
   | call y z=>exact WN M' (.call y z) s f
   | num v y ns=>exact WN M' (.num v y ns) s f
   | turn=>exact WN M' .turn s f
   | sw b i=>exact WN M' (.sw b i) s f
def Lf(a:Ad):rb:=λds M Q=>CF λr1 r2 r3 (l:pE)=>ds=[.tup [.ref r1,.ref r2,.ref r3]]/\oS M r1=some (l.mH.map qI)/\oS M r2=some (l.groups.map qO)/\oS M r3=some (l.mF.map uU)/\qY l/\∀p M',qm M M'->sT a M' p l->Q (.ref p) M'
def LP:rb:=λds M Q=>∃ns,ds=[.rl (List.map D.int ns)]/\Q (.int (qo (cell ns 0) 1664525 24)) M
def La(a:Ad):rb:=λds M Q=>F8 λA V l ns k=>ds=[.ref A.b,.rl (List.map D.int ns),.int k]/\Rd a M A V l/\WF l V/\(∀k∈V.calls,k.at_.length<=100)/\(0<=k/\k<=1000)/\∀M' (e:tR),qm M M'->e.ng->Q e.d M'
structure yi(a:Ad)(M0 M:Mp)(A:sZ)(V:qe)(l:pE)(p:Addr)(h:Int)(F:List Addr)(c n:Nat):Prop where
 cu:ub a M0 M A.b A V l c n
 wf:WF l V
 oV:Ay (V0 p h l F) V.log
 run:V=qk (V0 p h l F) V.log
 ps:V.ps.length<=3
def RK{p:Addr}{h:Int}{l:pE}{F:List Addr}(es:List Ev):(qk (V0 p h l F) es).log=es:=wD es _
def yi.after{a:Ad}{M0 M M':Mp}{A A':sZ}{V:qe}{l:pE}{p:Addr}{h:Int}{F:List Addr}{c n:Nat}{e:tR}(g:yi a M0 M A V l p h F c n)(f:e.ng)(hr:xj l V e=none){c' n':Nat}(cu:ub a M0 M' A.b A' (qk V (wc l V e)) l c' n'):yi a M0 M' A' (qk V (wc l V e)) l p h F c' n':=by
 have ok:=Re g.cu.ok g.wf (λk hk=>(g.cu.sz.cs k hk).2.2) f hr;have Zr:ub a M0 M' A'.b A' (qk V (wc l V e)) l c' n':=by rw[cu.b];exact cu
 refine⟨Zr,Tg g.cu.ok g.wf f hr,?_,?_,?_⟩
 .rw[wD];exact wI g.oV (by rw[<-g.run];exact ok)
 .rw[wD,qT,<-g.run]
 .rw[T4 g.cu.ok g.wf f hr];exact g.ps
def yi.sub{a:Ad}{M0 M M':Mp}{A:sZ}{V:qe}{l:pE}{p:Addr}{h:Int}{F:List Addr}{c n:Nat}(g:yi a M0 M A V l p h F c n)(s:qm M M'):yi a M0 M' A V l p h F c n:=⟨g.cu.sub s,g.wf,g.oV,g.run,g.ps⟩
def yi.mono{a:Ad}{M0 M:Mp}{A:sZ}{V:qe}{l:pE}{p:Addr}{h:Int}{F:List Addr}{c n c' n':Nat}(g:yi a M0 M A V l p h F c n)(hc:c<=c')(hn:n<=n'):yi a M0 M A V l p h F c' n':=⟨g.cu.mono hc hn,g.wf,g.oV,g.run,g.ps⟩
def KG{n:Nat}{pre post:List D}{d:D}(e:pre++d::post=(List.range n).map λi=>D.int (1+(i:Nat))):d=.int (1+(pre.length:Nat))/\pre.length<n:=by
 have h:((List.range n).map λi=>D.int (1+(i:Nat)))[pre.length]?=some d:=by rw[<-e];simp
 have hl:pre.length<n:=by
  have:=(cS.mp h).1
  simpa using this
 rw[dq,iU hl]at h;exact⟨(c9 h).symm,hl⟩
def By(G:Gl K mg a):Fq P w K mg base 9 a.U (Lf a):=by
 refine fq G.U.toDG GJ (λr u=>⟨_,(pj (pD (uF (Qa G) r G.h G.b7 G.ak.toDG (ra (pW su rfl G.r sv (qb (pI v0 pk))) (pW su rfl G.r sv (qb (pI v0 pk))) (pW su rfl G.r sv (qb (pI v0 pk))))))),?_⟩)
 rintro ds M Q ⟨r1,r2,r3,l,rfl,h1,h2,h3,ok,q⟩
 refine i' h1 λp1 Yc=>?_;have t1:=qm.new (c:=.lst (l.mH.map qI)) Yc;have l1:=@pC M p1 (l.mH.map qI);generalize pB M p1 (.lst (l.mH.map qI))=M1 at t1 l1 ⊢;refine i' (t1.lst h2) λp2 WT=>?_;have t2:=qm.new (c:=.lst (l.groups.map qO)) WT;have l2:=@pC M1 p2 (l.groups.map qO);generalize pB M1 p2 (.lst (l.groups.map qO))=M2 at t2 l2 ⊢;refine i' ((t1.trans t2).lst h3) λp3 hp3=>?_;have t3:=qm.new (c:=.lst (l.mF.map uU)) hp3;have l3:=@pC M2 p3 (l.mF.map uU);generalize pB M2 p3 (.lst (l.mF.map uU))=M3 at t3 l3 ⊢;refine λp hp=>?_;have t4:=qm.new (c:=.ins a.h []) hp;refine⟨p,p1,p2,p3,l,rfl,pN,(t2.trans (t3.trans t4)).lst l1,(t3.trans t4).lst l2,t4.lst l3,ok,λM5 kp pa _=>⟨rfl,_,.refl,q p M5 ?_ pa⟩⟩;exact t1.trans (t2.trans (t3.trans λx c e=>kp x c (λz=>by rw[z,hp]at e;cases e) (t4 x c e)))
def Lc(G:Gl K mg a):Fq P w K mg base 2 a.bv LP:=by
 refine fq G.bv.toDG F4 (λr u=>⟨_,(pj (pD (pF (qE G) r G.i (ra (pF (Gw G) r G.H (rP v0 pk)) pk pk)))),?_⟩)
 rintro ds M Q ⟨ns,rfl,q⟩
 exact⟨ns,0,rfl,_,_,_,rfl,by decide,M,.refl,q⟩
def LJ(G:Gl K mg a):Fq P w K mg base 6 a.bx (La a):=by
 refine fq G.bx.toDG Ga (λr u=>⟨_,(pj (pD (pF (Ny G) r G.bu (pX v0 (ra (pV (pF (Gw G) r G.H (rP U1 U2)) (pV (pV pk U2) U2)) (vE (pA v0) G.h.toCls G.N (sA G) r) (vE (pA v0) G.h.toCls G.al (yr G) r)))))),?_⟩)
 .rintro ds M Q ⟨A,V,l,ns,k,rfl,rd,wf,ha,hk,q⟩
  obtain⟨ph,gr,ws,X6,pr,gd,rs,i1,_⟩:=rd.pl;have p1:=rd.ok.p1;have p8:=rd.ok.p8;have g3:=rd.ok.g3;have pl:l.pn.length=l.mH.length:=cQ ..;have nl:l.nm.length=l.mH.length+l.groups.length:=by unfold pE.nm pE.pn pE.gn;rw[cT,cQ,cQ]
  refine⟨ns,k,rfl,?_⟩;refine⟨.inl ⟨by decide,by decide⟩,.inr ⟨by omega,by omega⟩,?_⟩;refine pf rd.bd.at_ (i' rfl (pf i1 ⟨rfl,_,⟨rfl,rfl⟩,V.p,l,rfl,rd.pl,by omega,λq1 Xr=>?_⟩));have t1:=qm.new (c:=.lst (l.pn.map D.str)) Xr;have l1:=@pC M q1 (l.pn.map D.str);show zJ (pB M q1 (.lst (l.pn.map D.str)) A.b) _;generalize pB M q1 (.lst (l.pn.map D.str))=M1 at t1 l1 ⊢;refine pf (t1 _ _ rd.bd.at_) (i' rfl (pf (t1 _ _ i1) ⟨rfl,_,⟨rfl,rfl⟩,V.p,l,rfl,rd.pl.sub t1,by omega,by omega,λq2 Yf=>?_⟩));have t2:=qm.new (c:=.lst (l.nm.map D.str)) Yf;exact⟨A,V,l,_,q1,q2,l.pn,l.nm,rfl,rd.sub (t1.trans t2),wf,ha,t2.lst l1,pC,λz=>by rw[z]at pl;simp only[dE]at pl;omega,λz=>by rw[z]at nl;simp only[dE]at nl;omega,by omega,by omega,λM' e s f=>⟨M',.refl,q M' e (t1.trans (t2.trans s)) f⟩⟩
seal L3.E3 L3.B3 L3.A3 L3.S3 L3.Hd
theorem Jd:∀(n:Nat) (d:D),sE n d=true->sE (n+1) d=true
 | 0,d,h=>by
  cases d with
  | tup ds=>cases h
  | ref _=>cases h
  | ty _=>cases h
  | rl _=>cases h
  | _=>rfl
 | n+1,d,h=>by
  cases d with
  | tup ds=>exact eA.mpr λd hd=>Jd n d (eA.mp (show ds.all (sE n)=true from h) d hd)
  | ref _=>cases h
  | ty _=>cases h
  | rl _=>cases h
  | _=>rfl
def Ni:rb:=λds M Q=>∃ns:List Int,ds=[.rl (ns.map D.int)]/\ns.length<=63/\Q (.bl true) M
theorem Hf:∀(es:List Ev) (V:qe),(qk V es).fo=V.fo
 | [],_=>rfl
 | e::r,V=>(Hf r _).trans (Pp V e)
def pJ.own{a:Ad}{M:Mp}{A:sZ}{V:qe}{x:Addr}{c:uG}(h:pJ a M A V)(h1:x∉A.foot)(h2:x∈V.fo):pJ a (pB M x c) A V:=by
 have fo:∀y∈(sZ.mk x x x x x x []).foot,y=x:=by
  intro y hy
  simpa [sZ.foot,sZ.lists]using hy
 exact h.frame (A1:=⟨x,x,x,x,x,x,[]⟩) (qM.keep (sZ.mQ _).1 rT.put) (λy hy=>by rw[fo y hy];exact h1) λy hy=>.inl (by rw[fo y hy];exact h2)
def ub.own{a:Ad}{M0 M:Mp}{b:Addr}{A:sZ}{V:qe}{l:pE}{c n:Nat}{x:Addr}{d:uG}(h:ub a M0 M b A V l c n)(h0:M0 x=none)(h1:x∉A.foot)(h2:x∈V.fo):ub a M0 (pB M x d) b A V l c n:=
 ⟨h.bd.own h1 h2,h.oW,λy e q=>rT.put y e (λz=>by rw[z,h0]at q;cases q) (h.s0 y e q),h.fr,h.b,h.sz,h.ok,h.on⟩
def yi.own{a:Ad}{M0 M:Mp}{A:sZ}{V:qe}{l:pE}{p x:Addr}{h:Int}{F:List Addr}{c n:Nat}{d:uG}(g:yi a M0 M A V l p h (x::F) c n)(h0:M0 x=none)(h1:x∉A.foot):yi a M0 (pB M x d) A V l p h (x::F) c n:=
 ⟨g.cu.own h0 h1 (by rw[g.run,Hf];exact dC),g.wf,g.oV,g.run,g.ps⟩
def Qq{a:Ad}{M:Mp}{A:sZ}{p:Addr}{h:Int}{l:pE}{F F':List Addr}(bd:pJ a M A (V0 p h l F))(hF:∀x∈F',∃c,M x=some c):pJ a M A (V0 p h l F'):=
 ⟨bd.at_,bd.ca,bd.le,bd.nx,bd.on,bd.lo,bd.len,λi k c e1 e2=>by simp[V0]at e2,bd.nl,bd.np,hF⟩
noncomputable def rV(h:Int)(l:pE)(es:List Ev)(n:Nat):qe:=qk (V0 0 h l []) (es.take n)
def EW{p:Addr}{h:Int}{l:pE}{F:List Addr}{es:List Ev}{n:Nat}:qk (V0 p h l F) (es.take n)=(rV h l es n).at_ p F:=Jc p F _ (V0 0 h l [])
def G5{p:Addr}{h:Int}{l:pE}{F:List Addr}{es:List Ev}:qk (V0 p h l F) es=(rV h l es es.length).at_ p F:=by rw[<-EW,e9]
def L1{h:Int}{l:pE}{es fs:List Ev}{n:Nat}(hn:n<=es.length):rV h l (es++fs) n=rV h l es n:=by unfold rV;rw[List.take_append_of_le_length hn]
theorem G':∀{es:List Ev} {V:qe} (n:Nat),Ay V es->Ay V (es.take n)
 | _,_,0,_=>trivial
 | [],_,_+1,_=>trivial
 | _::_,_,n+1,h=>⟨h.1,G' n h.2⟩
def IB(V:qe)(e:Ev):V.calls.length<=(pU V e).calls.length/\V.ps.length<=(pU V e).ps.length:=by
 cases e with
 | next z m=>
  refine⟨cZ _,?_⟩;show V.ps.length<=(zZ V.ps z m).length;unfold zZ;split
  .rw[cQ];exact cZ _
  .rw[cT];exact hZ _ _
 | _=>exact⟨by simp[pU,QJ,xi,qH],cZ _⟩
theorem Hm:∀(es:List Ev) (V:qe),V.calls.length<=(qk V es).calls.length/\V.ps.length<=(qk V es).ps.length
 | [],_=>⟨cZ _,cZ _⟩
 | e::r,V=>⟨dN (IB V e).1 (Hm r _).1,dN (IB V e).2 (Hm r _).2⟩
def JJ{h:Int}{l:pE}{es:List Ev}{n:Nat}:(rV h l es n).calls.length<=(rV h l es es.length).calls.length/\(rV h l es n).ps.length<=(rV h l es es.length).ps.length:=by
 have e:rV h l es es.length=qk (rV h l es n) (es.drop n):=by unfold rV;rw[<-qT,List.take_append_drop,e9]
 rw[e];exact Hm _ _
def TH{M:Mp}{x:Addr}{c:uG}(h:M x=some c):∀y∈[x],∃c,M y=some c:=λy hy=>⟨c,by rw[df.mp hy];exact h⟩
noncomputable def JD(h:Int)(l:pE)(es:List Ev)(n:Nat):D:=.tup [.int n,yk (rV h l es n)]
def wZ(h:Int)(l:pE)(es:List Ev)(F:List Addr)(M:Mp)(sw:Addr)(j:Nat)(sh:List D):Prop:=oS M sw=some sh/\sh.length=j+1/\∀i,i<=j->∃r,sh[i]?=some (.tup [yk (rV h l es i),.ref r])/\r∉F/\r≠sw/\oS M r=some ((rV h l es i).mT.map rK.d)
def wZ.step{h:Int}{l:pE}{es:List Ev}{M M':Mp}{sw:Addr}{j:Nat}{sh:List D}{A A':sZ}(S:wZ h l es A.foot M sw j sh)(ns:sw∉A.foot)(st:qM A M A' M'):wZ h l es A'.foot M' sw j sh/\sw∉A'.foot:=by
 have nf:∀x c,x∉A.foot->M x=some c->x∉A'.foot:=λx c n e z=>by
  rcases st.2.1 x z with y|y
  .exact n y
  .rw[y]at e;cases e
 refine⟨⟨rG (st.1 sw _ ns (pR S.1)),S.2.1,λi hi=>?_⟩,nf sw _ ns (pR S.1)⟩;obtain⟨r,e1,e2,e3,e4⟩:=S.2.2 i hi;exact⟨r,e1,nf r _ e2 (pR e4),e3,rG (st.1 r _ e2 (pR e4))⟩
def wZ.sub{h:Int}{l:pE}{es:List Ev}{M M':Mp}{sw:Addr}{j:Nat}{sh:List D}{F:List Addr}(S:wZ h l es F M sw j sh)(s:qm M M'):wZ h l es F M' sw j sh:=⟨s.lst S.1,S.2.1,λi hi=>by
 obtain⟨r,e1,e2,e3,e4⟩:=S.2.2 i hi;exact⟨r,e1,e2,e3,s.lst e4⟩⟩
def wZ.push{h:Int}{l:pE}{es:List Ev}{M:Mp}{sw r:Addr}{j:Nat}{sh:List D}{F:List Addr}(S:wZ h l es F M sw j sh)(hr:M r=none)(nf:r∉F):wZ h l es F (pB (pB M r (.lst ((rV h l es (j+1)).mT.map rK.d))) sw (.lst (sh++[.tup [yk (rV h l es (j+1)),.ref r]]))) sw (j+1) (sh++[.tup [yk (rV h l es (j+1)),.ref r]]):=by
 have ne:r≠sw:=λz=>by have:=pR S.1;rw[<-z,hr]at this;cases this
 have up:∀{x:Addr} {ds:List D},x≠sw->oS (pB M r (.lst ((rV h l es (j+1)).mT.map rK.d))) x=some ds->oS (pB (pB M r (.lst ((rV h l es (j+1)).mT.map rK.d))) sw (.lst (sh++[.tup [yk (rV h l es (j+1)),.ref r]]))) x=some ds:=λn e=>rG (rT.put _ _ n (pR e));refine⟨pC,by rw[cT,S.2.1];rfl,λi hi=>?_⟩;by_cases z:i=j+1
 .subst z;refine⟨r,?_,nf,ne,up ne pC⟩;rw[eF (by rw[S.2.1];omega),S.2.1,gI];rfl
 .obtain⟨r',e1,e2,e3,e4⟩:=S.2.2 i (by omega);exact⟨r',by rw[eJ (by rw[S.2.1];omega)];exact e1,e2,e3,up e3 ((qm.new hr).lst e4)⟩
noncomputable def G7:D->D
 | .tup [_,x]=>x
 | _=>.mI
def RW(G:Gl K mg a):Fq P w K mg base 17 a.aj Ni:=by
 refine fq G.aj.toDG uC (λr u=>⟨_,(pb (pK 1 uC (pF (NB G) r G.bp (rP v0 pk)))
 (pb (pK 2 uC (pF (Lc G) r G.bv (qb v0)))
 (pb (pK 3 uC (uF (Ci G) r G.c G.bP G.M.toDG (rP (pF (By G) r G.U (qb U1)) U2)))
 (pb (pK 4 uC (qJ sF))
 (pb (uk eW rfl (J7 rfl G.O (rP pk (pQ (Lv rfl) rfl G.b0 Ll (rP (pQ qu rfl G.g qp (qb v0)) pk)))) (rW 5 uC)
 (pb (pL (pF (PZ G) r G.bw (rP U3 (pF (LJ G) r G.bx (ra U3 v0 v5)))))
 (pj (pL (qZ v4 (qb (pM (rP (pQ qu rfl G.g qp (qb (pA U3))) (pF (wN G) r G.L (qb U3))))))))))
 (pb (pK 6 uC (uF (Ci G) r G.c G.bP G.M.toDG (rP (pF (By G) r G.U (qb U1)) U2)))
 (pb (pK 7 uC (qJ (qb (pM (rP (pF (wN G) r G.L (qb v6)) (qJ sF))))))
 (pb (uk eW rfl (qC (pA U3)) (rW 8 uC)
 (pb (pL (pT v6 G.c.toCls G.k (qK G) r (qb v8)))
 (pj (pL (qZ v7 (qb (pM (rP (pF (wN G) r G.L (qb v6)) (pW su rfl G.r sv (qb (pA v6)))))))))))
 (pb (pP (pG u (qD rfl (xQ (ix:=[none,none,some 7]) (N':=["_law_size","_law_shot","_law_shown"])) (qC v4) (uL (n:=2) rfl (qB (qA 0) (qB (qA 1) tZ))) rH (pI (pI U2 v0) pk)) (qD rfl (xQ (ix:=[none,none]) (N':=["_law_size","_law_shot"])) (qC v4) (uL (n:=2) rfl (qB (qA 0) (qB (qA 1) tZ))) rH U1))
 (pj (pD w9))
 pH)
 (pb (pK 9 uC (pQ qu rfl G.g qp (qb (pA U3))))
 (pb (vg (i:=10) uC.nd rfl (Or.inl rfl) rfl (xQ (ix:=[none,some 0,some 9]) (N':=["_law_k","_law_script","_law_many"])) (uY rfl G.O (qb pk)) (qA 0) rH (pF (qE G) r G.i (ra (pF (Gw G) r G.H (rP U1 v0)) pk (pV U2 pk))))
 (pb (uk eW rfl (qC (pV Wr (qJ (rP pk v9)))) (rW 11 uC)
 (pb (pK 12 uC (pF (FL G) r G.aT (ra (pF (By G) r G.U (qb U1)) U2 (rR (pA U3) sP (sL UQ)))))
 (pb (pP (W3.b3 (ym (pG u (pF (wN G) r G.L (qb VV)) (pI (pI v7 UQ) pk)) (xG (pG u (pA VV) (pI (pI v7 UQ) pk)))))
 (pj (pD w9))
 pH)
 (pj (pP (pG u (pA VV) (rR (pA U3) sP (sL UQ)))
 (pj (pD w9))
 pH)))))
 (pj (pD w9)))))))))))))),?_⟩)
 rintro ds M Q ⟨ns,rfl,hns,q⟩
 have hz:=dF;have ok:qY (Cr ns 4):=PB (by decide) (by decide);refine⟨ns,4,rfl,by decide,by decide,λr1 r2 r3 M1 s1 h1 h2 h3=>?_⟩;generalize Cr ns 4=l at h1 h2 h3 ok;refine⟨ns,rfl,?_⟩;generalize qo (cell ns 0) 1664525 24=hh;refine⟨r1,r2,r3,l,rfl,h1,h2,h3,ok,λp M2 s2 pa=>λb hb=>?_⟩;have t1:=qm.new (c:=.ins a.c []) hb;refine⟨b,p,_,[],l,rfl,pN,pa.sub t1,ok,λz=>?_,(λx hx=>by cases hx),λM3 A eb kp fr bd=>⟨rfl,dS _,λsh hsh=>?_⟩⟩
 .obtain⟨ph,gr,ws,X6,pr,gd,rs,i1,_⟩:=pa;rw[z,hb]at i1;cases i1
 have s3:qm M2 M3:=λx c e=>kp x c (λz=>by rw[z,hb]at e;cases e) (t1 x c e);have t4:=qm.new (c:=.lst []) hsh;have l4:=@pC M3 sh [];have nf4:=bd.nM hsh;have n2:M2 sh=none:=s3.none hsh;have bd4:=Qq (F':=[sh]) (bd.sub t4) (TH (pR l4));have oW:yi a M2 (pB M3 sh (.lst [])) A (V0 p hh l [sh]) l p hh [sh] 1 3:=⟨⟨bd4,pa,s3.trans t4,λx hx=>?_,rfl,⟨dS _,dS _,dS _,vW ok,λk hk=>by cases hk⟩,ok,cQ ..⟩,Ve ok,trivial,rfl,vW ok⟩
 rotate_left
 .rcases fr x hx with z|z
  .rw[z];exact hb
  .exact t1.none z
 dsimp only[ue];generalize pB M3 sh (.lst [])=M4 at l4 oW ⊢;subst eb;refine Qy (t:=Oe _ _ _) (λδ M'=>(∃A' V' ss,yi a M2 M' A' V' l p hh [sh] 64 200000/\oS M' sh=some ss/\ss.length<=62/\(∀d∈ss,∃n,n<=V'.log.length/\d=JD hh l V'.log n)/\A'.b=A.b)/\∃y,δ=[some (.rl (ns.map D.int)),some (.tup [.ref r1,.ref r2,.ref r3]),some (.int hh),some (.ref A.b),some (.ref sh),y,none,none,none,none,none,none,none]) (λnx WU=>?_) ?_
 .refine⟨rfl,?_⟩;generalize hN:(if (63:Int)<((ns.map D.int).length:Nat)then(63:Int)else((ns.map D.int).length:Nat))=N;have hN0:0<=N/\N<=63:=by rw[<-hN];split<;>omega
  refine⟨⟨by decide,by decide,by omega,by omega⟩,?_⟩;refine vk ((List.range (N - 1).toNat).map λn=>D.int (1+(n:Nat))) (λpre δ M'=>(∃A' V' ss,yi a M2 M' A' V' l p hh [sh] (1+pre.length) (3+2200*pre.length)/\oS M' sh=some ss/\ss.length=pre.length/\(∀d∈ss,∃n,n<=V'.log.length/\d=JD hh l V'.log n)/\A'.b=A.b/\sh∉A'.foot)/\∃y,δ=[some (.rl (ns.map D.int)),some (.tup [.ref r1,.ref r2,.ref r3]),some (.int hh),some (.ref A.b),some (.ref sh),y,none,none,none,none,none,none,none]) (λ_ _ _ _=>trivial) _ [] _ _ rfl ⟨⟨A,_,[],oW,l4,rfl,(λd hd=>by cases hd),rfl,nf4⟩,none,rfl⟩ ?_ ?_
  .rintro pre d post e δ M' ⟨⟨A',V',ss,g,Zu,ess,Y6,eb',nf⟩,y,rfl⟩ nx' Xl
   obtain⟨rfl,WW⟩:=KG e;have WW:pre.length<62:=by omega
   rw[cT,dG]at Xl;rw[<-eb']at Xl ⊢;refine Qy (t:=Qu _) (λδ M3=>(∃A3 V3,yi a M2 M3 A3 V3 l p hh [sh] (1+(pre.length+1)) (3+2200*(pre.length+1))/\oS M3 sh=some ss/\(∀d∈ss,∃n,n<=V3.log.length/\d=JD hh l V3.log n)/\A3.b=A'.b/\sh∉A3.foot)/\δ=[some (.rl (ns.map D.int)),some (.tup [.ref r1,.ref r2,.ref r3]),some (.int hh),some (.ref A'.b),some (.ref sh),some (.int (1+(pre.length:Nat))),none,none,none,none,none,none,none]) (λnx0 h0=>?_) ?_
   .refine⟨A',V',l,ns,_,rfl,g.cu.rd (by omega) g.wf,g.wf,λk hk=>(g.cu.sz.cs k hk).2.1,⟨by omega,by omega⟩,λM3 e s f=>?_⟩;refine⟨M2,A'.b,A',V',l,_,_,e,rfl,g.cu.sub s,by omega,by omega,g.wf,f,λhr M4 A4 r c4 st4 Zt=>h0 _ _ ⟨⟨A4,_,((g.after f hr c4).mono (by omega) (by omega)).sub (.new Zt),?_,?_,c4.b,?_⟩,rfl⟩,λ_=>h0 _ _ ⟨⟨A',V',(g.sub s).mono (by omega) (by omega),s.lst Zu,Y6,rfl,nf⟩,rfl⟩⟩
    .exact(qm.new Zt).lst (rG (st4.1 sh _ nf (pR (s.lst Zu))))
    .intro d hd;obtain⟨n,hn,rfl⟩:=Y6 d hd;refine⟨n,by rw[wD,cT];omega,?_⟩;unfold JD;rw[wD,L1 hn]
    .intro z;rcases st4.2.1 sh z with y|y
     .exact nf y
     .rw[pR (s.lst Zu)]at y;cases y
   .rintro δ M3 ⟨⟨A3,V3,g3,lss3,hss3,eb3,nf3⟩,rfl⟩
    rw[<-eb3]at Xl ⊢;refine⟨by show(oS M3 sh).isSome=true;rw[lss3];rfl,?_⟩;have ca3:=g3.cu.sz.ca;refine pf g3.cu.at_ (i' rfl (i' g3.cu.bd.lo ⟨A3,V3,rfl,g3.cu.bd,by omega,g3.ps,oZ rfl,i' lss3 ⟨by omega,?_⟩⟩));rw[cQ];have ep:yk V3=yk (rV hh l V3.log V3.log.length):=(eG yk g3.run).trans (by rw[G5];rfl);rw[ep];exact Xl _ _ ⟨⟨A3,V3,_,g3.own n2 nf3,pC,by rw[cT,ess];rfl,λd hd=>by
     rcases dR.mp hd with z|z
     .exact hss3 d z
     .exact⟨_,cZ _,df.mp z⟩,rfl,nf3⟩,_,rfl⟩
  .rintro δ M' ⟨⟨A',V',ss,g,Zu,ess,Y6,eb',nf⟩,y,rfl⟩
   rw[cQ,d6]at g ess;exact WU _ _ ⟨⟨A',V',ss,g.mono (by omega) (by omega),Zu,by omega,Y6,eb'⟩,y,rfl⟩
 rintro δ M5 ⟨⟨A1,V1,ss,g,Zu,ess,Y6,eb1⟩,y,rfl⟩
 rw[<-eb1];have s25:qm M2 M5:=g.cu.s0;have i1:=g.cu.at_;have ZY:=g.cu.bd.lo;have ZO:Ay (V0 0 hh l []) V1.log:=Es 0 [] V1.log _ g.oV;have ln1:V1.log.length<=200000:=g.cu.sz.lo;have eR:=g.run;rw[G5]at eR;have hca:(rV hh l V1.log V1.log.length).calls.length<=64:=(eG (λV=>V.calls.length) eR) ▸ g.cu.sz.ca;have YK:(rV hh l V1.log V1.log.length).ps.length<=3:=(eG (λV=>V.ps.length) eR) ▸ g.ps;clear eR;generalize V1.log=es at ZY Y6 ZO ln1 hca YK;generalize A1.b=b1 at i1 ⊢;generalize V1.p=p1,V1.h=hq,V1.t=tq,A1.ca=cq,A1.le=lq,A1.nx=nq,A1.on=oq,A1.lo=lo at i1 ZY;clear g eb1 oW nf4 n2 l4 bd bd4 fr kp t4;have s15:=s2.trans s25;refine⟨r1,r2,r3,l,rfl,s15.lst h1,s15.lst h2,s15.lst h3,ok,λp2 M6 s6 pa2=>λb2 hb2=>?_⟩;have t7:=qm.new (c:=.ins a.c []) hb2;refine⟨b2,p2,_,[],l,rfl,pN,pa2.sub t7,ok,λz=>?_,(λx hx=>by cases hx),λM7 A eb kp fr bd=>⟨rfl,?_⟩⟩
 .obtain⟨ph,gr,ws,X6,pr,gd,rs,i1,_⟩:=pa2;rw[z,hb2]at i1;cases i1
 have s7:qm M6 M7:=λx c e=>kp x c (λz=>by rw[z,hb2]at e;cases e) (t7 x c e);refine⟨A,V0 p2 hh l [],by rw[eb],bd,dS _,vW ok,dS _,λr0 YA=>⟨oZ rfl,oZ rfl,λsw Xw=>?_⟩⟩;have t8:=qm.new (c:=.lst []) YA;have l8:=@pC M7 r0 [];have nf8:=bd.nM YA;have bd:=bd.sub t8;have s8:=s7.trans t8;generalize pB M7 r0 (.lst [])=M8 at t8 l8 bd s8 Xw ⊢;have nf9:=bd.nM Xw;have n6:M6 sw=none:=s8.none Xw;have ne9:r0≠sw:=λz=>by have:=pR l8;rw[z,Xw]at this;cases this
 have t9:=qm.new (c:=.lst [.tup [yk (V0 p2 hh l []),.ref r0]]) Xw;have S0:wZ hh l es A.foot (pB M8 sw (.lst [.tup [yk (V0 p2 hh l []),.ref r0]])) sw 0 [.tup [yk (V0 p2 hh l []),.ref r0]]:=⟨pC,rfl,λi hi=>by
  rw[Nat.le_zero.mp hi];exact⟨r0,rfl,nf8,ne9,t9.lst l8⟩⟩
 have bd:=Qq (F':=[sw]) (bd.sub t9) (TH (pR S0.1));have c0:ub a M6 (pB M8 sw (.lst [.tup [yk (V0 p2 hh l []),.ref r0]])) b2 A (V0 p2 hh l [sw]) l 0 3:=⟨bd,pa2,s8.trans t9,λx hx=>?_,eb,⟨dS _,dS _,cZ _,vW ok,λk hk=>by cases hk⟩,ok,cQ ..⟩
 rotate_left
 .rcases fr x hx with z|z
  .rw[z];exact hb2
  .exact t7.none z
 dsimp only[ue];generalize pB M8 sw (.lst [.tup [yk (V0 p2 hh l []),.ref r0]])=M9 at S0 c0 ⊢;generalize [D.tup [yk (V0 p2 hh l []),.ref r0]]=sh0 at S0;clear bd nf8 ne9 t9 t8 l8 Xw YA s8 s7 kp fr t7;refine Qy (t:=Oe _ _ _) (λδ M'=>qm M6 M'/\(∃Zv F,wZ hh l es F M' sw es.length Zv)/\∃y8,δ=[some (.rl (ns.map D.int)),some (.tup [.ref r1,.ref r2,.ref r3]),some (.int hh),some (.ref b1),some (.ref sh),y,some (.ref b2),some (.ref sw),y8,none,none,none,none]) (λnx WU=>?_) ?_
 .refine pf (c0.s0 _ _ (s6 _ _ i1)) (i' rfl (i' ((s6.trans c0.s0).lst ZY) (vk (es.map Ev.d) (λpre δ M'=>(∃A' Zv,ub a M6 M' b2 A' (qk (V0 p2 hh l [sw]) (es.take pre.length)) l pre.length (3+pre.length)/\Ay (qk (V0 p2 hh l [sw]) (es.take pre.length)) (es.drop pre.length)/\sw∉A'.foot/\wZ hh l es A'.foot M' sw pre.length Zv)/\∃y8,δ=[some (.rl (ns.map D.int)),some (.tup [.ref r1,.ref r2,.ref r3]),some (.int hh),some (.ref b1),some (.ref sh),y,some (.ref b2),some (.ref sw),y8,none,none,none,none]) (λpre δ M' j=>?_) _ [] _ _ rfl ⟨⟨A,_,c0,Es p2 [sw] es _ ZO,nf9,S0⟩,none,rfl⟩ ?_ ?_)))
  .obtain⟨⟨A',Zv,c1,_⟩,_⟩:=j;exact(s6.trans c1.s0).lst ZY
  .rintro pre d post e δ M' ⟨⟨A',Zv,c1,o1,nf1,S1⟩,y8,rfl⟩ nx' Xl
   obtain⟨ev,e1,rfl,e2,e3⟩:=Gm e;have hp:pre.length<es.length:=(cS.mp e1).1;rw[e3]at o1;rw[cT,dG,e2,qT]at Xl;have eV:qk (V0 p2 hh l [sw]) (es.take pre.length++[ev])=(rV hh l es (pre.length+1)).at_ p2 [sw]:=by rw[<-e2];exact EW
   rw[qT]at eV;have fV:(qk (V0 p2 hh l [sw]) (es.take pre.length)).fo=[sw]:=Hf _ _;generalize qk (V0 p2 hh l [sw]) (es.take pre.length)=V1 at c1 o1 Xl eV fV;refine pf c1.at_ ⟨rfl,_,⟨rfl,rfl⟩,b2,A',V1,ev,rfl,c1.b,c1.bd,c1.lim (by omega) (by omega),o1.1,λM2 A2 Y4 WZ XQ=>?_⟩;have c2:=(c1.after o1.1 Y4 WZ XQ).mono (c':=pre.length+1) (kF (Qt ev) _) (n':=3+(pre.length+1)) (by omega);obtain⟨S2,nf2⟩:=S1.step nf1 WZ;have o2:Ay (pU V1 ev) (es.drop (pre.length+1)):=o1.2;have eV':pU V1 ev=(rV hh l es (pre.length+1)).at_ p2 [sw]:=eV;rw[eV']at c2 o2;rw[eV]at Xl;obtain⟨gc,gp⟩:=JJ (h:=hh) (l:=l) (es:=es) (n:=pre.length+1);refine⟨by show(oS M2 sw).isSome=true;rw[S2.1];rfl,A2,_,by rw[c2.b],c2.bd,dN gc (dN hca (by decide)),dN gp YK,?_⟩;refine pf c2.at_ (i' rfl (i' c2.bd.le λr hr=>⟨oZ rfl,i' ((qm.new hr).lst S2.1) ⟨by rw[S2.2.1];omega,?_⟩⟩));exact Xl _ _ ⟨⟨A2,_,(c2.sub (.new hr)).own n6 nf2 dC,o2,nf2,S2.push hr (c2.bd.nM hr)⟩,_,rfl⟩
  .rintro δ M' ⟨⟨A',Zv,c1,o1,nf1,S1⟩,y8,rfl⟩
   rw[cQ]at S1;exact WU _ _ ⟨c1.s0,⟨Zv,_,S1⟩,y8,rfl⟩
 rintro δ M10 ⟨s10,⟨Zv,F,S⟩,y8,rfl⟩
 have s510:=s6.trans s10;have YE:=s510.lst Zu;refine i' YE (wK ss (λpre acc δ M'=>M10=M'/\acc=pre.map G7/\∃y1 y2,δ=[y1,y2,some (.ref sw)]) (λ_ _ _ M' j=>by rw[<-j.1];exact YE) _ [] [] _ _ rfl (by rw[dE];omega) ⟨rfl,rfl,none,none,rfl⟩ ?_ ?_)
 .rintro pre d post e acc δ M' ⟨rfl,rfl,y1,y2,rfl⟩ k hk
  obtain⟨n,hn,rfl⟩:=Y6 d (by rw[<-e];simp);obtain⟨r,e1,_⟩:=S.2.2 n hn;refine⟨rfl,i' S.1 (i' (ua e1) (i' rfl (hk _ _ _ ⟨rfl,by rw[dH];rfl,_,_,rfl⟩)))⟩
 rintro acc δ M' ⟨rfl,rfl,y1,y2,rfl⟩ q1 Xr
 have t11:=qm.new (c:=.lst (ss.map G7)) Xr;have l11:=@pC M10 q1 (ss.map G7);have S:=S.sub t11;have ZZ:=s510.trans t11;generalize pB M10 q1 (.lst (ss.map G7))=M11 at l11 S ZZ ⊢;have YE:=ZZ.lst Zu;refine i' YE (wK ss (λpre acc δ M'=>M11=M'/\acc=pre.map G7/\∃y1 y2,δ=[y1,y2]) (λ_ _ _ M' j=>by rw[<-j.1];exact YE) _ [] [] _ _ rfl (by rw[dE];omega) ⟨rfl,rfl,none,none,rfl⟩ ?_ ?_)
 .rintro pre d post e acc δ M' ⟨rfl,rfl,y1,y2,rfl⟩ k hk
  obtain⟨n,hn,rfl⟩:=Y6 d (by rw[<-e];simp);exact⟨rfl,hk _ _ _ ⟨rfl,by rw[dH];rfl,_,_,rfl⟩⟩
 rintro acc δ M' ⟨rfl,rfl,y1,y2,rfl⟩ q2 Yf
 have t12:=qm.new (c:=.lst (ss.map G7)) Yf;have eqs:yd (pB M11 q2 (.lst (ss.map G7))) 9 (.ref q1) (.ref q2)=some true:=zY (t12.lst l11) pC λd hd=>by obtain⟨x,hx,rfl⟩:=dw.mp hd;obtain⟨n,hn,rfl⟩:=Y6 x hx;exact xx 7 _ (Hb (rV hh l es n))
 refine i' eqs (Hi ?_);have S:=S.sub t12;have Y7:=ZZ.trans t12;generalize pB M11 q2 (.lst (ss.map G7))=M12 at S Y7 ⊢;refine pf (Y7 _ _ i1) (i' rfl (i' (Y7.lst ZY) ?_));rw[cQ];refine⟨rfl,⟨by decide,by decide⟩,?_⟩;refine wK ((List.range 6).map λi=>D.int (0+(i:Nat))) (λpre acc δ M'=>M12=M'/\(∀d∈acc,∃n:Nat,n<=es.length/\d=.int (n:Nat))/\acc.length=pre.length/\∃y1,δ=[y1,some (.rl (ns.map D.int)),some (.int (es.length:Nat))]) (λ_ _ _ M' j=>trivial) _ [] [] _ _ rfl (by decide) ⟨rfl,(λd hd=>by cases hd),rfl,none,rfl⟩ ?_ ?_
 .rintro pre d post e acc δ M' ⟨rfl,hac,eac,y1,rfl⟩ k hk
  obtain⟨i,_,rfl⟩:=dw.mp (show d∈(List.range 6).map λi=>D.int (0+(i:Nat))by rw[<-e];simp);refine⟨ns,_,rfl,_,_,_,rfl,by omega,hk _ _ _ ⟨rfl,λx hx=>?_,by rw[cT,cT,eac];rfl,_,rfl⟩⟩;rcases dR.mp hx with z|z
  .exact hac x z
  .have h0:=qQ (c:=cell ns (0+(i:Nat))) (f:=39373) (m:=(es.length:Nat)+1) (by omega);have h1:=qG (c:=cell ns (0+(i:Nat))) (f:=39373) (m:=(es.length:Nat)+1) (by omega);exact⟨(qo (cell ns (0+(i:Nat))) 39373 ((es.length:Nat)+1)).toNat,by omega,by rw[df.mp z,kC h0]⟩
 rintro acc δ M' ⟨rfl,hac,eac,y1,rfl⟩ q3 hq3
 rw[cQ,d6]at eac;have t13:=qm.new (c:=.lst acc) hq3;have l13:=@pC M12 q3 acc;have s513:=Y7.trans t13;have S:=S.sub t13;dsimp only[ue];generalize pB M12 q3 (.lst acc)=M13 at l13 s513 S ⊢;refine Qy (t:=Oe _ _ _) (λδ M'=>qm M5 M') (λnx WU=>?_) (λδ M' s'=>⟨M,s1.trans (s2.trans (s25.trans s')),q⟩);refine⟨oZ rfl,λq4 hq4=>i' ((qm.new hq4).lst l13) (i' pC ⟨by rw[eac];show 8<=sizeLine;omega,λq5 hq5=>i' pC ?_⟩)⟩;have t14:=(qm.new (c:=.lst [.int 0,.int (es.length:Nat)]) hq4).trans (qm.new (c:=.lst (acc++[.int 0,.int (es.length:Nat)])) hq5);have l14:=@pC (pB M13 q4 (.lst [.int 0,.int (es.length:Nat)])) q5 (acc++[.int 0,.int (es.length:Nat)]);have Y8:=s513.trans t14;have S:=S.sub t14;have hac:∀d∈acc++[.int 0,.int (es.length:Nat)],∃n:Nat,n<=es.length/\d=.int (n:Nat):=λd hd=>by
  rcases dR.mp hd with z|z
  .exact hac d z
  .rcases cY.mp z with rfl|z
   .exact⟨0,dS _,rfl⟩
   .exact⟨es.length,cZ _,df.mp z⟩
 generalize acc++[D.int 0,.int (es.length:Nat)]=pl at l14 hac Y8 S ⊢;generalize pB (pB M13 q4 (.lst [.int 0,.int (es.length:Nat)])) q5 (.lst pl)=M14 at l14 Y8 S ⊢;refine vk pl (λpre δ M'=>qm M14 M'/\∃y11 y12,δ=[some (.rl (ns.map D.int)),some (.tup [.ref r1,.ref r2,.ref r3]),some (.int hh),some (.ref b1),some (.ref sh),y,some (.ref b2),some (.ref sw),y8,some (.int (es.length:Nat)),some (.ref q3),y11,y12]) (λpre δ M' j=>j.1.lst l14) _ [] _ _ rfl ⟨.refl,none,none,rfl⟩ ?_ (λδ M' j=>WU _ _ (Y8.trans j.1))
 rintro pre d post e δ M' ⟨s',y11,y12,rfl⟩ nx' Xl
 obtain⟨n,hn,rfl⟩:=hac d (by rw[<-e];simp);have s5:=Y8.trans s';have s1x:=s15.trans s5;have S:=S.sub s';refine⟨r1,r2,r3,l,rfl,s1x.lst h1,s1x.lst h2,s1x.lst h3,ok,λp3 M15 Z0 pa3=>?_⟩;have s5:=s5.trans Z0;have S:=S.sub Z0;refine pf (s5 _ _ i1) (i' rfl (i' (s5.lst ZY) λr hr=>?_));rw[Fi,<-ji];have t16:=qm.new (c:=.lst ((es.take n).map Ev.d)) hr;have l16:=@pC M15 r ((es.take n).map Ev.d);have s5:=s5.trans t16;have S:=S.sub t16;have pa3:=pa3.sub t16;have s':=s'.trans (Z0.trans t16);dsimp only[wY];generalize pB M15 r (.lst ((es.take n).map Ev.d))=M16 at l16 s5 S pa3 s' ⊢;refine⟨p3,hh,r,[],l,es.take n,rfl,pa3,ok,(λx hx=>by cases hx),l16,by rw[fK];omega,Es p3 [] _ (V0 0 hh l []) (G' n ZO),λM17 A c=>?_⟩;rw[EW]at c;have s17:=c.s0;have s5:=s5.trans s17;have S:=S.sub s17;obtain⟨gc,gp⟩:=JJ (h:=hh) (l:=l) (es:=es) (n:=n);obtain⟨r',e1,_,_,e4⟩:=S.2.2 n hn;refine⟨A,_,rfl,c.bd,dN gc (dN hca (by decide)),dN gp YK,?_⟩;refine i' S.1 (i' (ua e1) ?_);show Option.elim (yd _ 9 _ _) False _;refine i' (xx 8 _ (Hb (rV hh l es n))) (Hi ?_);have el:yd M17 9 (.ref A.le) (.ref r')=some true:=zY c.bd.le e4 λd hd=>by obtain⟨v,_,rfl⟩:=dw.mp hd;exact xx 7 _ rfl
 refine pf c.at_ (i' rfl (i' S.1 (i' (ua e1) (i' el (Hi ?_)))));refine pf c.at_ (i' rfl (pf (s5 _ _ i1) (i' rfl (i' (s5.lst ZY) λr2 Yy=>?_))));rw[Fi,<-ji];have t18:=qm.new (c:=.lst ((es.take n).map Ev.d)) Yy;have lgA:oS M17 A.lo=some ((es.take n).map Ev.d):=by rw[c.bd.lo];show some ((rV hh l es n).log.map Ev.d)=_;unfold rV;rw[RK]
 have eg:yd (pB M17 r2 (.lst ((es.take n).map Ev.d))) 9 (.ref A.lo) (.ref r2)=some true:=zY (t18.lst lgA) pC λd hd=>by obtain⟨v,_,rfl⟩:=dw.mp hd;exact xx 7 _ (Jd 6 _ (Pk v))
 exact i' eg (Hi (Xl _ _ ⟨s'.trans (s17.trans t18),_,_,rfl⟩))
end Z
structure PySem.W.Fast:Prop where(tw18136986646065824798 tw1954896567521718589 tw9499139214555113335 tw16459506112664787612 tw10475481228817312812 tw5338251016601168447 tw17369068365061878715 tw9705632541437735060 tw13367459881714607053 tw14867940436374738290 tw12548793685483502569 tw16009382118728382876 tw9076024194733395281 tw1066555394809568581 tw17822640482770077755 tw750539928419182609 tw8721838387856094813 tw4578634669751499206 tw9059017579236204293 tw18265640053794877652 tw16402281885797550698 tw1175142805099015696 tw1256565238516155227 tw4217385209433600023 tw18265842984432353688 tw96612461285948374 tw4819235458059847 tw4211246881901828194 tw5077211399610581519 tw18112671643173701389 tw14076090923650156457 tw10426359338284153723 tw3643756583929629869 tw874866154608772255 tw5647003735864829694 tw3675240417956407770 tw10997674877960688529 tw8692192305364041760 tw10821362527545156090 tw18411687789014773791 tw10851964921536753697 tw3710910076325730337 tw13801710877641043851 tw6120670871128920811 tw12312373580441972031 tw14508798135264076258 tw8072456516198402206 tw1145977888541296635 tw1455774139399602999 tw16926599586213012052 tw2682588225079240709 tw4833610760477710153 tw5041394754130303283 tw1843422796272781121 tw9148853044836516444 tw6406349930912623166 tw1748180720717341883 tw4297251885541439430 tw5344664210358391756 tw9127250175951379870 tw5129841447777666228 tw12429094305193594677 tw13637635637051578289 tw360047048279267909 tw9295192061662918905 tw11797374066209228617 tw7770173142724027547 tw17492863227633822836 tw17917466919172603332 tw8719144959920418168 tw3551109336356634037 tw16762593746213139428 tw14738761715727339966 tw16213543222027094446 tw1653745924259734495 tw6350394541723691104 tw4483819635612746217 tw12839148797102115073 tw15013489195308970790 tw2855967484897225038 tw6463915609800257605 tw1057152139248942769 tw3229710892751315753 tw10561948879243042857 tw13155998416097887756 tw7060524476852807229 tw12029312911473029224 tw6923235299221014550 tw12066185284354601131 tw15242081285165776087 tw9826210482303262470 tw1076627915898589724 tw2032341995740425904 tw439293689132819095 tw14870244457963648791 tw6149044920963737215 tw11347940771063874395 tw15546092766953550220 tw1341570117869386199 tw6262794127781154229 tw5550458955943249547 tw9925660857482603137 tw5230110714618644260 tw1902421922345918485 tw5919328892217225784 tw17133668479758882154 tw11682075084488240752 tw13854137263199696237 tw14628024935547296923 tw11372669290552689324 tw994911435031433726 tw4781684039779210870 tw6758969007756974896 tw9231084374176923264 tw2130660668032022075 tw331877470263371338 tw12041966592785563297 tw12482034265213035997 tw10963853490291060063 tw7123234947460780319 tw15404824991299639544 tw3139284220018090569 tw4627123563257420645 tw16028160612839223387 tw7129370643366448977 tw17346029634598402513 tw3756055393106471881 tw6561101695453023221 tw3243854709122429982 tw5410678636306213113 tw1955455017675741285 tw2174264998661691796 tw16125148256202604716 tw9869067113857885124 tw2923423598458444697 tw14762097039977117468 tw12306863537530921382 tw7519557018503768423 tw11486908361023827008 tw2109111708990685677 tw1907185006394452714 tw6544850571130581493 tw7881271262997376010 tw5648160492281156534 tw17786135473932454284 tw11753033963275140492 tw15064746614455429205 tw12795283405263538978 tw1982020628064747608 tw1227646824723635535 tw11471112680162285994 tw2889742401723026363 tw4203248823110521180 tw7444251089141671597 tw14217682299409905519 tw11317973181349527650 tw4369479220472691381 tw4002431179943959562 tw14777428602969342735 tw8148420769115299900 tw11619773415590981331 tw7192262801784605003 tw16528291706046862107 tw14326115712697860923 tw13742643735023643347 tw1766033153365912671 tw14120913926642730743 tw14990035718022025737 tw16981146352721547469 tw15140689092173696106 tw10216941338525740435 tw2234580358155196934 tw7514185076451448823 tw9560750952110216583 tw17840511953568905875 tw14980357603406683085 tw5231024684970936938 tw10884700328069145244 tw10895246479837619818 tw1125595114864872269 tw14362510115882496034 tw3947578857330849170 tw4045746017057822289 tw14338160402918700004 tw16120888991353577534 tw4062159864552150285 tw7534698139096413803 tw3757976238499014372 tw10167383366144283897 tw15928706402476996724 tw9092498652718287227 tw15095311500718537966 tw10273674141288352494 tw11834353561060976962 tw8071128811470413930 tw16538732316614506195 tw6785405903287251865 tw17005396214865628810 tw4226835255981922823 tw2688589709140872213 tw752562236168853183 tw12767261427748209331 tw14816705031966684737 tw6639422722022680667 tw982051382240233804 tw1763475001924569524 tw240590294833406996 tw18217472619170372917 tw8391081620318828954 tw16534337996127172754 tw3948513553673064454 tw15956571859367874373 tw3057351212030205291 tw4024272964260557150 tw8360634463962794553 tw15208390977915365293 tw14745970484966229172 tw4277262863547966678 tw6457585401694891679 tw13232988851520666706 tw13210124188205685974 tw2653192473543747540 tw5136857810866415644 tw7861777934579926298 tw12772095982229862265 tw10244180737160824588 tw6906531911934979830 tw5164958309395254024 tw16532082546517705590 tw10250975079272357324 tw17214096653439018443 tw13758156732846528278 tw11729110213012238291 tw17791697433475665993 tw13414409760186131765 tw2982223480292398132 tw14772048023065701639 tw9249488788342617457 tw5687839192436823519 tw6706618744371353270 tw14093100388307268131 tw8504874918166750318 tw580051502734202655 tw17854856068104471348 tw2698669568560217865 tw2299520142635494890 tw4006807514428480207 tw14036534854005296954 tw3437867951591903578 tw7341492815519297095 tw1032051394048899003 tw13562154055110280594 tw14702289443504285634 tw13292503361761943257 tw4097333005131260714 tw14677083697458221566 tw17514978498547936220 tw8349702387713529146 tw9537722317855393814 tw10726021459844403139 tw17267986558169778096 tw16373088840703771729 tw10201592813526715337 tw9452972547756751763 tw104866238001578830 tw11721489464365990749 tw5054593630296893929 tw2875581612777460838 tw4076943900844839996 tw13322609365832223915 tw2093838334748918645 tw11500553593938048082 tw15594739416589330864 tw8033812130216578775 tw10820072784787893612 tw247666813423460928 tw6260049123170839871 tw4211425162751292208 tw7774354019344709696 tw10297829720230650511 tw11511628527872880793 tw16183903887880776913 tw908232012825539390 tw469190881622238213 tw12654327697500707586 tw8248236724147879940 tw12138104795180416966 tw624634113886583539 tw5619200717101079221 tw14529474594923004675 tw6058582542264942674 tw2187600703275388434 tw11716431566769615113 tw8713247080759204167 tw62166446958931449 tw17550807529856018947 tw11080044826000767714 tw2916156991766655590 tw13858907558362076756 tw2193619080046804473 tw16819698821452232335 tw6911608971070768578 tw13932018897821188318 tw17101034253658479295 tw15854524688414362632 tw2722811118735385719 tw9077980800313078413 tw3638133786863680719 tw6267118016989003650 tw12409032494808135701 tw4770577030219244908 tw13253903490828485856 tw10750505430349510203 tw11715051846479818296 tw18141556763279836299 tw13536540424600046018 tw8117859920319844922 tw5091344734922676417 tw5747285943763146366 tw9407753906047748357 tw17888409048614622723 tw10655528598081943178 tw8769152549339304554 tw16594278663380341546 tw1393047263096965838 tw14090071554222864527 tw4209249320138290673 tw15758365625579607337 tw2391603454032530539 tw7685948581123007738 tw12812201319575938100 tw13340740837212094754 tw10363890154679950258 tw12296992560334530186 tw4678622334090070447 tw15727812590870907686 tw16836569245755879473 tw17440379645516731197 tw6027309701735272277 tw10671752373461932871 tw6461189222036449493 tw6986835692466371668 tw7353084465203896438 tw1031946912189641903 tw17201961485024779014 tw16281797926516632965 tw1301663185708759096 tw1709059388183981252 tw16416451677541668027 tw1126745769689784139 tw11776402691738684396 tw17675243666181336962 tw16272121844577411124 tw1506486701437047382 tw8697594349355110068 tw6035169091948036893 tw6010715976728318602 tw13470440322863452350 tw8405363336923355157:True)
open PySem PySem.W PyProof.Rows L2 L3
set_option maxRecDepth 100000 in
set_option maxHeartbeats 0 in
theorem PySem.Challenge.cw_callboard_k52_beginnings_of_logs_holds : PySem.Challenge.rw_callboard_k52_beginnings_of_logs.Holds := by
 w_on;o_law;k_head;(case hw=>w_witness2)
 k_fill
 refine L3.Lb (l:=PySem.Challenge.rw_callboard_k52_beginnings_of_logs) (sp:=Z.Ni) (k:=17) (x:="_law_script") rfl rfl ⟨rfl,by decide,by decide⟩ (λw h Y=>PySem.W.kIn_of Y) (λns hl=>⟨ns,rfl,hl,rfl⟩) ?F;case F=>
  intro w mg fa h KX G hmg;suffices h:∃a:Z.Ad,Z.Gl _ mg a/\∀(s:Shared) (u:Value),BindsTo s a.aj.d ⟨[u],[]⟩ [("_law_script",u)]by obtain⟨a,g,hb⟩:=h;have e:=hmg.symm.trans g.aj.mg;cases e;exact⟨a.aj.d,hb,λbase _ _=>g.aj.pe ▸ Z.RW g⟩
  refine'⟨⟨_,_,_,_,_,_,_,_,_,_,_,_,_,_,_,_,_,_,_,_,_,_,_,_,_,_,_,_,_,_,_,_,_,_,_,_,_,_,_,_,_,_,_,_,_,_,_,_,_,_,_,_,_,_,_,_,_,_,_,_,_,_,_,_,_,_,_,_,_,_,_,_,_,_,_,_,_,_,_,_,_,_,_,_,_,_,_,_,_,_,_,_,_,_,_,_,_,_,_,_,_,_,_,_,_,_,_,_,_,_,_,_,_,_,_,_,_,_,_,_,_,_,_,_,_,_,_,_,_,_,_,_⟩,⟨wb KX G ..,wb KX G ..,wb KX G ..,wb KX G ..,wb KX G ..,wb KX G ..,wb KX G ..,wb KX G ..,wb KX G ..,wb KX G ..,wb KX G ..,wb KX G ..,wb KX G ..,PySem.W.mg_of KX G ?_,PySem.W.mg_of KX G ?_,ql KX G ..,ql KX G ..,ql KX G ..,ql KX G ..,ql KX G ..,ql KX G ..,ql KX G ..,ql KX G ..,ql KX G ..,ql KX G ..,ql KX G ..,ql KX G ..,ql KX G ..,ql KX G ..,ql KX G ..,ql KX G ..,ql KX G ..,ql KX G ..,ql KX G ..,ql KX G ..,ql KX G ..,ql KX G ..,ql KX G ..,ql KX G ..,ql KX G ..,ql KX G ..,ql KX G ..,ql KX G ..,ql KX G ..,ql KX G ..,ql KX G ..,ql KX G ..,ql KX G ..,ql KX G ..,ql KX G ..,ql KX G ..,ql KX G ..,ql KX G ..,ql KX G ..,ql KX G ..,ql KX G ..,ql KX G ..,ql KX G ..,ql KX G ..,ql KX G ..,ql KX G ..,ql KX G ..,ql KX G ..,ql KX G ..,ql KX G ..,ql KX G ..,ql KX G ..,ql KX G ..,ql KX G ..,ql KX G ..,ql KX G ..,ql KX G ..,ql KX G ..,ql KX G ..,ql KX G ..,ql KX G ..,pY ..,pY ..,pY ..,pY ..,pY ..,pY ..,pY ..,pY ..,pY ..,pY ..,pY ..,pY ..,pY ..,pY ..,pY ..,pY ..,pY ..,pY ..,pY ..,pY ..,pY ..,pY ..,pY ..,pY ..,pY ..,pY ..,pY ..,pY ..,pY ..,pY ..,pY ..,pY ..,pY ..,pY ..,pY ..,pY ..,pY ..,pY ..,pY ..,pY ..,pY ..,pY ..,pY ..,pY ..,pY ..,pY ..,pY ..,pY ..,pY ..,pY ..,pY ..,pY ..,pY ..,pY ..,pY ..,pY ..,ND ?_ ?_ ?_ ?_ ?_ ?_ ?_ ?_ ?_ ?_,KP ?_ ?_ ?_,PH ?_ ?_ ?_ ?_,⟨?_,?_,?_,?_⟩,⟨?_,?_,?_,?_⟩,⟨?_,?_,?_,?_⟩,⟨?_,?_,?_,?_⟩,⟨?_,?_,?_,?_⟩,⟨?_,?_,?_,?_⟩,⟨?_,?_,?_,?_⟩,⟨?_,?_,?_,?_⟩,⟨?_,?_,?_,?_⟩,⟨?_,?_,?_,?_⟩,⟨?_,?_,?_,?_⟩,⟨?_,?_,?_⟩,⟨?_,?_,?_⟩,⟨?_,?_,?_⟩,⟨?_,?_,?_⟩,⟨?_,?_,?_⟩,⟨?_,?_,?_⟩,⟨?_,?_,?_⟩,⟨?_,?_,?_⟩,⟨?_,?_,?_⟩,⟨?_,?_,?_⟩,⟨?_,?_,?_⟩,⟨?_,?_,?_⟩,⟨?_,?_,?_⟩,⟨?_,?_,?_⟩,⟨?_,?_,?_⟩,⟨?_,?_,?_⟩,⟨?_,?_,?_⟩,⟨?_,?_,?_⟩,⟨?_,?_,?_⟩,⟨?_,?_,?_⟩,⟨?_,?_,?_⟩,(pO ?_ (pO ?_ (pO ?_ (pO ?_ (pO ?_ (pO ?_ (pO ?_ (pO ?_ tw)))))))),(pO ?_ (pO ?_ (pO ?_ (pO ?_ (pO ?_ (pO ?_ tw)))))),(pO ?_ (pO ?_ (pO ?_ (pO ?_ (pO ?_ (pO ?_ (pO ?_ (pO ?_ tw)))))))),(pO ?_ (pO ?_ (pO ?_ tw))),(pO ?_ (pO ?_ (pO ?_ tw))),(pO ?_ (pO ?_ (pO ?_ tw))),(pO ?_ (pO ?_ (pO ?_ (pO ?_ (pO ?_ tw))))),(pO ?_ (pO ?_ (pO ?_ tw))),(pO ?_ (pO ?_ (pO ?_ (pO ?_ tw)))),(pO ?_ (pO ?_ tw)),(pO ?_ (pO ?_ tw)),PySem.W.mg_none_of KX G ?_,PySem.W.mg_none_of KX G ?_,PySem.W.mg_none_of KX G ?_,PySem.W.mg_none_of KX G ?_,PySem.W.mg_none_of KX G ?_,PySem.W.mg_none_of KX G ?_,PySem.W.mg_none_of KX G ?_,PySem.W.mg_none_of KX G ?_,PySem.W.mg_none_of KX G ?_,PySem.W.mg_none_of KX G ?_,PySem.W.mg_none_of KX G ?_,PySem.W.mg_none_of KX G ?_,vL (PySem.W.mg_of KX G ?_),vL (PySem.W.mg_of KX G ?_),vL (PySem.W.mg_of KX G ?_),vL (PySem.W.mg_of KX G ?_),PD (PySem.W.mg_of KX G ?_) (ur (ss:=["all","turns"]) ?_ (.cons ⟨_,rfl⟩ (.cons ⟨_,rfl⟩ .nil)) (Nat.le_of_ble_eq_true rfl)),vL (PySem.W.mg_of KX G ?_),vL (PySem.W.mg_of KX G ?_),vL (PySem.W.mg_of KX G ?_),QX (PySem.W.mg_of KX G ?_),NM (es:=[⟨_,.str "bar" _,.ref _⟩,⟨_,.str "shut" _,.ref _⟩,⟨_,.str "always" _,.ref _⟩,⟨_,.str "night" _,.ref _⟩,⟨_,.str "busy" _,.ref _⟩,⟨_,.str "silent" _,.ref _⟩,⟨_,.str "wait" _,.ref _⟩,⟨_,.str "breaks" _,.ref _⟩]) (PySem.W.mg_of KX G ?_) ?_ ?_ (.cons rfl ⟨_,rfl,(ur (ss:=["phone","names"]) ?_ (.cons ⟨_,rfl⟩ (.cons ⟨_,rfl⟩ .nil)) (Nat.le_of_ble_eq_true rfl))⟩ (.cons rfl ⟨_,rfl,(ur (ss:=["name","phones"]) ?_ (.cons ⟨_,rfl⟩ (.cons ⟨_,rfl⟩ .nil)) (Nat.le_of_ble_eq_true rfl))⟩ (.cons rfl ⟨_,rfl,(ur (ss:=["name","name"]) ?_ (.cons ⟨_,rfl⟩ (.cons ⟨_,rfl⟩ .nil)) (Nat.le_of_ble_eq_true rfl))⟩ (.cons rfl ⟨_,rfl,(ur (ss:=["name","name","hour","hour"]) ?_ (.cons ⟨_,rfl⟩ (.cons ⟨_,rfl⟩ (.cons ⟨_,rfl⟩ (.cons ⟨_,rfl⟩ .nil)))) (Nat.le_of_ble_eq_true rfl))⟩ (.cons rfl ⟨_,rfl,(ur (ss:=["name","name"]) ?_ (.cons ⟨_,rfl⟩ (.cons ⟨_,rfl⟩ .nil)) (Nat.le_of_ble_eq_true rfl))⟩ (.cons rfl ⟨_,rfl,(ur (ss:=["name","name","turns"]) ?_ (.cons ⟨_,rfl⟩ (.cons ⟨_,rfl⟩ (.cons ⟨_,rfl⟩ .nil))) (Nat.le_of_ble_eq_true rfl))⟩ (.cons rfl ⟨_,rfl,(ur (ss:=["phone"]) ?_ (.cons ⟨_,rfl⟩ .nil) (Nat.le_of_ble_eq_true rfl))⟩ (.cons rfl ⟨_,rfl,(ur (ss:=["phone"]) ?_ (.cons ⟨_,rfl⟩ .nil) (Nat.le_of_ble_eq_true rfl))⟩ .nil)))))))),vL (PySem.W.mg_of KX G ?_),vL (PySem.W.mg_of KX G ?_),vL (PySem.W.mg_of KX G ?_)⟩,λs u=>.of_eq rfl⟩
  all_goals try first|k_is|(intro _ _ _ _ _ _ us hl;rcases us with _|⟨_,_|⟨_,_|⟨_,_|⟨_,_|⟨_,_|⟨_,us⟩⟩⟩⟩⟩⟩<;>first|rfl|(exfalso;revert hl;simp;done))|rfl
