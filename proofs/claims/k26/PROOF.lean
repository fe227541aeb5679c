import PyProof.Rows.All
import Wide.All
import OpenK.AllK
import Wide.FinOn
import PyProof.EqAt
import PyProof.EqKinds
import PyProof.TupleCall
import PyProof.AttrMiss
import PyProof.IsiH_list
import PyProof.Rows.SetFrom
import KE.KDictOf
import KE.KTab
import PyProof.AutoListH
import KE.KSortTup
import KE.KItemsList
import KE.KEqDict
import KE.KIntText
import Lean
import PyProof.RulesRaise
import PyProof.RulesTry
import KE.KTryDeep
import KE.KTryMore
import KE.KTryOn
import KE.TryInHelper
import KE.TryLedger
import PyProof.ExcArgsOwn
import PyProof.ExcAttrAll.ValueError
import KE.KIsAll
import PyProof.ExcBaseAll.ValueError
import PyProof.InstStoreFacts
import PyProof.ExcInit
import PyProof.SeqI3
import PyProof.ConsumeWalk
import PySem.Challenge.RW_callboard_k26_whole_nobody_is_twice
set_option Elab.async false
set_option linter.all false
set_option maxRecDepth 100000
set_option maxHeartbeats 4000000
open List renaming length_map->cQ,getElem?_eq_getElem->cS,getElem?_eq_some_iff->cT,length_append->cU,mem_cons->cZ,mem_singleton->dg,size_toArray->dh,mem_map->dv,getElem?_map->dw,not_mem_nil->dz,mem_cons_of_mem->dA,length_nil->dD,mem_cons_self->dH,nodup_cons->dJ,map_append->dM,length_singleton->dN,map_cons->dQ,mem_append->dR,nil_append->dS,length_cons->dW,map_map->dX,mem_append_right->eh,length_range->eA,replicate_succ->eB,nodup_nil->eC,getElem?_set_self->eF,lookup_cons->eG,getElem?_set_ne->eK,getElem?_append_right->eO,append_nil->eR,getElem?_append_left->eS,length_pos_iff->eX,all_eq_true->eY,append_assoc->e9,mem_append_left->fm,mem_filter->fz,find?_cons->fA,length_take->fD,take_length->fE,cons_ne_nil->fF,exists_cons_of_ne_nil->fH,flatten_cons->fJ,getElem_of_mem->fM,mem_of_find?_eq_some->fN,mem_of_getElem?->fO,nodup_append->fQ,foldl_cons->fS,filterMap_cons->fT,filter_sublist->fU,any_cons->fW,length_drop->fX,length_modify->gb,all_cons->gg,length_eq_zero_iff->gh,filter_cons_of_pos->gi,filter_cons_of_neg->gj,mem_range->gk,any_eq_true->gp,filter_cons->gq,getElem?_eq_none->gx,length_filter_le->gy,getD_eq_getElem?_getD->gz,drop_eq_getElem_cons->gF,getLast?_eq_none_iff->gG,map_congr_left->gJ,filter_map->gP,find?_eq_none->gQ,take_of_length_le->gS,take_add_one->gU,findIdx?_map->gX,getElem_mem->hW,length_set->ia,getLastD_eq_getLast?->ib,contains_cons->ik,filter_append->im,getElem?_cons_zero->ip,findIdx?_eq_some_iff_getElem->ir,length_replicate->iy,getElem?_toArray->iA,map_nil->iE,set_set->iI,filter_nil->iJ,mem_of_mem_take->iK,mem_of_mem_drop->iL,mem_of_getLast?->iM,dropLast_subset->iN,getElem?_modify->iO,drop_zero->iU,map_id->iW,sublist_append_right->jp,pairwise_iff_getElem->jq,getLast?_eq_getElem?->jr,findIdx?_eq_none_iff->js,drop_length->jA,any_map->jE,eq_of_mem_replicate->jF,getElem?_replicate->jG,getElem?_cons_succ->jJ,of_mem_zip->jK,forIn_cons->jL,range_succ->jP,find?_some->jQ,forIn_nil->jW,set_append_right->j6,map_drop->ko,getElem?_range->kt,filter_eq_self->kz,modify_eq_self->kA,mem_filterMap->kF,getElem_range->kP,set_cons_succ->kQ,any_eq_false->kU,foldl_append->kY,getElem_inj->lu,zipIdx_cons->lF,getElem_map->lK,zipIdx_nil->lO,any_append->lP,map_take->lU,all_map->lY,map_set->l0
open PySem renaming wpAny_bind->cR,wpAny_pure->cY,sizeLine_eq->dI,wpAny_mono->dZ,wpAny_holding->d9,wpAny_field->eW,wpAny_truthy_bool->eZ,wpAny_callSpecial?_slot->fC,wpAny_newObj_type->fP,wpAny_call_entry->fY,wpAny_Call_Name_kw->fZ,codeAny_mono->gc,wpAny_seqItems->gm,wpAny_setField_rec->gv,wpAny_passesOwn->gw,wpAny_pyIter_list->gB,mem_of_lookup->gI,wpAny_standAt->gK,wpAny_execs_nil->gM,codeAny_builtin->gN,wpAny_loadPart_at->gW,wpAny_setField->gZ,wpAny_call->hG,codeAny_call_builtin->hU,wpAny_pyIter_tuple->ij,wpAny_onRaise->iu,plainObj_wpAny_Assign_Attribute->iB,wpAny_specialOf->iF,wpAny_updateSeq_pair->iG,isSubtype_type->iT,tupleKind_room_in1->iY,slot_dict_contains->ja,wpAny_sequenceKey->ji,call_meets->jn,wpAny_execs_cons->jt,wpAny_typeOf->jx,wpAny_comprehension_free->jz,codeAny_of_tree->jN,wpAny_pyNext_list_item->jS,wpAny_pyNext_list_end->jV,builtinLookup_eq_fast->jX,weight_type_call_type->jY,getitemInPython_of_ne->jZ,wpAny_rule->j8,wpAny_letTemporaryGo->kc,plainId_quiet->kl,wpAny_attempt->km,wpAny_isSubtype_exc->ky,concat_meets->kH,seqIndex_neg->kK,wpAny_assign_Name->kS,wpAny_Assign_Name->kT,slot_list_getitem->kX,slot_dict_getitem->k9,wpAny_pyIter_enum->lb,seqIndex_of->lj,wpAny_letGo->lq,wpAny_pyHash_str->ls,wpAny_lookBehind->lw,pastItsLine_dict->ly,noFill_tuple_add->lA,check_set_init_1->lE,wpAny_pyIter_zip->lH,wpAny_Name->lL,typeIs_int->lM
def cV:=@if_neg
def cX:=@if_pos
def dO:=@decide_eq_true
def d6:=@decide_eq_true_eq
def eE:=@beq_self_eq_true
def eJ:=@decide_eq_false
def eL:=@congrArg
def eP:=@or_false
def fg:=@beq_iff_eq
def fB:=@not_or
def fK:=@of_decide_eq_true
def fL:=@beq_eq_false_iff_ne
def iz:=@if_true
def jw:=@if_false
open PySem.Heap renaming get?_push_of_some->cW,lt_size->dq,get?_push_size->dC,size_push->fi,get?_update_self->fv,get?_update_other->fV,get?_none_of_le->gD,get?_update_ne->kx
open Nat renaming le_refl->c9,ne_of_lt->dE,lt_of_lt_of_le->dF,le_trans->dU,zero_le->eQ,lt_irrefl->eV,lt_succ_self->fu,ne_of_gt->gH,le_succ->gR,lt_succ_of_lt->gT,sub_self->g9,succ_le_succ->hZ,lt_of_le_of_lt->io,le_add_right->iw,le_succ_of_le->jl,lt_trans->jy,mul_le_mul->j3,le_of_lt->kE,sub_zero->kN,min_eq_left->lQ,le_of_eq->lW,succ_mul->lX,zero_add->lZ,succ_pos->l8
open Option.some renaming inj->de,injEq->jk
open Bool renaming false_ne_true->df,eq_false_iff->dB,and_eq_true->dP,true_and->eD,false_and->eN,false_or->fG,eq_iff_iff->gf,not_eq_true'->gC,or_eq_true->gO,true_or->gY,false_eq_true->jc,or_false->jf,not_eq_false->jm,or_true->jD,beq_comm->lT
open Ne renaming symm->dG
open Int renaming eq_ofNat_of_zero_le->dY,emod_lt_of_pos->eI,emod_nonneg->eM,mul_le_mul_of_nonneg_left->iP,toNat_natCast->jh,emod_add_mul_ediv->j5,zero_add->ma
open PySem.PassesOwn renaming never->eU
open PySem.F renaming called_set->fj,slot_tuple_iterator_next->gA,slot_list_getattribute->ic,slot_zip_next->iH,args_tuple_iterator_next_1->iV,entry_tuple_iterator_next->jb,slot_dict_getitem->jo,args_tuple_add_2->jv,store_ValueError->jC,entry_tuple_add->jI,slot_tuple_add->jT,attrBase_ValueError->j4,excBase_ValueError->ke,entry_type_call->kZ,args_zip_next_1->lh,typeCall_set_1->lC,entry_set_init->lD,entry_zip_next->lG,slot_int_rmul->lN
open PyProof.Rows renaming slot_tuple_getitem->fk,callWith_type1->fR,SetOf_congr->ig,callWith_builtin1->iD,setObjOf_fresh->iZ,subscriptTail_builtinR->jU,entry_tuple_getitem->kr,args_tuple_getitem->kI
open PyProof.Rows.F renaming plain_set_update_loop->gu,entry_set_update_loop->ie
open List.cons renaming inj->gL
open PySem.Around renaming under_plainId->hJ,under_plain->kM
open Array renaming getElem?_setIfInBounds_self_of_lt->h9,length_toList->iQ,toList_append->iR,size_setIfInBounds->jB,mem_toList_iff->j7,append_assoc->kD,find?_toList->kG
open PySem.Code renaming quiet_builtin->ii
open List.Nodup renaming sublist->il
open Option renaming map_eq_some_iff->iq,isSome_map->jj,isSome_iff_exists->ju,map_some->jM,getD_none->lB,bind_some->lJ
open PySem.W renaming callWith_K->iC,looks_findIn->iS,methodCall_KW->jO,plainGet_of->kg,looks_clsIn->kh,cellsFrom_some->lz
open PySem.Calls renaming spliced_cons->iX,Name_function_global->je,spliced_nil->jg
open PySem.Paired renaming length->jd,snoc->mf
open Sum.inr renaming inj->jR
open PySem.Walks renaming list->j9
open PySem.Heap.SameBut renaming update->ku
open PySem.SeqAt.EqAt renaming int_str->kB,str_int->kC
open PySem.Obj renaming data_mapFields->kO
open PySem.Heap.Ns1 renaming of_empty->kW
open Eq renaming symm->lR
open PySem.W.Looks renaming here->lV
open PySem.Heap.FunFrames renaming of_keeps->me
open PySem.Moved renaming trans->mh
open PySem.Heap.IsSliceOf renaming new->mi
abbrev pX:=PySem.W.Frag
local macro_rules | `(tactic| walk_at "l") => `(tactic| (intro _ _ _ h; repeat (first | (obtain ⟨e, _⟩ := h; subst e; rfl; done) | (cases h; rename_i h))))
local macro_rules | `(tactic| walk_at "m") => `(tactic| (intro _ _ _ _ h; repeat (first | (obtain ⟨e, _⟩ := h; subst e; rfl; done) | (cases h; rename_i h))))
abbrev Vl:=PySem.Value
abbrev Sd:=PySem.Shared
abbrev Pg:=PySem.Program
abbrev Ar:=PySem.Around
abbrev Wo:=PySem.World
namespace L2
open PySem PySem.Spec PyProof.Rows
def x5{α:Sort u}{β:Sort v}{p q r:α->β->Prop}{C:Prop}(h:∃a b,p a b/\q a b/\r a b)(f:∀a b,p a b->q a b->r a b->C):C:=by obtain⟨a,b,h1,h2,h3⟩:=h;exact f a b h1 h2 h3
abbrev qE:=Sum Int Str
def CL:qE->Vl->Bool
 | .inl k,v=>Value.isInt k v
 | .inr x,v=>Value.isStrOf x v
def Ut(w:Wo):qE->Int
 | .inl k=>hashInt k
 | .inr x=>hashStr w x
def rL:∀{k:qE} {v:Vl},CL k v=true->(∃i t,k=Sum.inl i/\v=Value.int i t)\/(∃x t,k=Sum.inr x/\v=Value.str x t)
 | .inl i,v,h=>by obtain⟨t,e⟩:=Value.isInt_shape (k:=i) (v:=v) h;exact .inl ⟨i,t,rfl,e⟩
 | .inr x,v,h=>by obtain⟨t,e⟩:=Value.isStrOf_shape (x:=x) (v:=v) h;exact .inr ⟨x,t,rfl,e⟩
def I0(i:Int)(t:Tok):CL (.inl i) (.int i t)=true:=by simp[CL,Value.isInt]
def Jv(x:Str)(t:Tok):CL (.inr x) (.str x t)=true:=by simp[CL,Value.isStrOf]
def Qi(a b:Int):decide ((Sum.inl a:qE)=Sum.inl b)=(a==b):=by
 by_cases e:a=b
 .subst e;simp
 .have h:¬(Sum.inl a:qE)=Sum.inl b:=λq=>e (Sum.inl.inj q);rw[eJ h];exact(fL.mpr e).symm
def QD(a b:Str):decide ((Sum.inr a:qE)=Sum.inr b)=decide (a=b):=by
 by_cases e:a=b
 .subst e;simp
 .have h:¬(Sum.inr a:qE)=Sum.inr b:=λq=>e (jR q);rw[eJ h,eJ e]
def Qv(a:Int)(b:Str):decide ((Sum.inl a:qE)=Sum.inr b)=false:=eJ (λq=>nomatch q)
def QY(a:Str)(b:Int):decide ((Sum.inr a:qE)=Sum.inl b)=false:=eJ (λq=>nomatch q)
def qZ(prog:Pg)(w:Wo):PySem.KeyKind prog w qE where
 is:=CL
 hash:=Ut w
 inj:=λv a b ha hb=>by
  rcases rL ha with⟨i,t,rfl,rfl⟩|⟨x,t,rfl,rfl⟩
  .rcases rL hb with⟨j,u,rfl,e⟩|⟨y,u,rfl,e⟩
   .injection e with e1 _;rw[e1]
   .exact nomatch e
  .rcases rL hb with⟨j,u,rfl,e⟩|⟨y,u,rfl,e⟩
   .exact nomatch e
   .injection e with e1 _;rw[e1]
 byValue:=λk v h=>by rcases rL h with⟨i,t,rfl,rfl⟩|⟨x,t,rfl,rfl⟩<;>rfl
 pyHash:=λhv h=>by
  rcases rL hv with⟨i,t,rfl,rfl⟩|⟨x,t,rfl,rfl⟩
  .exact wpAny_pyHash_int h
  .exact ls h
 eqBool:=λhu hv h=>by
  rcases rL hu with⟨i,t,rfl,rfl⟩|⟨x,t,rfl,rfl⟩
  .rcases rL hv with⟨j,u,rfl,rfl⟩|⟨y,u,rfl,rfl⟩
   .rw[Qi]at h;exact wpAny_eqBool_int h
   .rw[Qv]at h;exact kB i t y u _ _ _ _ h
  .rcases rL hv with⟨j,u,rfl,rfl⟩|⟨y,u,rfl,rfl⟩
   .rw[QY]at h;exact kC x t j u _ _ _ _ h
   .rw[QD]at h;exact wpAny_eqBool_str h
 «strs»:=λk x t v h=>by
  rcases rL h with⟨i,u,rfl,e⟩|⟨y,u,rfl,e⟩
  .exact nomatch e
  .injection e with e1 _
   subst e1;cases v<;>rfl
def Gc(prog:Pg)(w:Wo)(i:Int)(t:Tok):(qZ prog w).is (.inl i) (.int i t)=true:=I0 i t
def zQ(prog:Pg)(w:Wo)(x:Str)(t:Tok):(qZ prog w).is (.inr x) (.str x t)=true:=Jv x t
inductive V where
 | mz|bl (b:Bool)|int (i:Int)|str (x:Str)|byt (b:Array UInt8)|flt (b:UInt64)|ref (a:Addr)|ty (n:String)
 deriving DecidableEq
def qm:V->Vl->Prop
 | .mz,u=>u=Value.none
 | .bl b,u=>u=Value.bool b
 | .int i,u=>∃t,u=Value.int i t
 | .str x,u=>∃t,u=Value.str x t
 | .byt b,u=>∃t,u=Value.bytes b t
 | .flt b,u=>∃t,u=Value.float b t
 | .ref a,u=>u=Value.ref a
 | .ty n,u=>u=Value.type n
abbrev qc:List V->List Vl->Prop:=Paired qm
def qc.length{xs:List V}{us:List Vl}(r:qc xs us):xs.length=us.length:=jd r
theorem qc.get:∀{xs:List V} {us:List Vl} {i:Nat} {x:V},qc xs us->xs[i]?=some x->∃u,us[i]?=some u/\qm x u
 | _,_,_,_,.nil,e=>by simp at e
 | _,_,0,_,.cons r _,e=>by simp at e;subst e;exact⟨_,rfl,r⟩
 | _,_,i+1,x,.cons _ t,e=>by obtain⟨u,h1,h2⟩:=qc.get (i:=i) (x:=x) t (by simpa using e);exact⟨u,by simpa using h1,h2⟩
theorem qc.set{x:V}{u:Vl}(r:qm x u):∀{xs:List V} {us:List Vl} (i:Nat),qc xs us->qc (xs.set i x) (us.set i u)
 | _,_,_,.nil=>.nil
 | _,_,0,.cons _ t=>.cons r t
 | _,_,i+1,.cons q t=>.cons q (qc.set r i t)
theorem qc.append:∀{xs ys:List V} {us ws:List Vl},qc xs us->qc ys ws->qc (xs++ys) (us++ws)
 | _,_,_,_,.nil,s=>s
 | _,_,_,_,.cons r t,s=>.cons r (qc.append t s)
theorem qc.take:∀{xs:List V} {us:List Vl} (n:Nat),qc xs us->qc (xs.take n) (us.take n)
 | _,_,0,_=>.nil
 | _,_,_+1,.nil=>.nil
 | _,_,n+1,.cons r t=>.cons r (qc.take n t)
theorem qc.drop:∀{xs:List V} {us:List Vl} (n:Nat),qc xs us->qc (xs.drop n) (us.drop n)
 | _,_,0,r=>r
 | _,_,_+1,.nil=>.nil
 | _,_,n+1,.cons _ t=>qc.drop n t
def xN:Option V->Option Vl->Prop
 | some v,some u=>qm v u
 | none,none=>True
 | _,_=>False
def KV{κ:Type}:List (κ×V)->List (κ×Vl)->Prop:=Paired λ(p:κ×V) (q:κ×Vl)=>p.1=q.1/\qm p.2 q.2
def kV:qE->V
 | .inl i=>.int i
 | .inr x=>.str x
inductive HO where
 | lst (xs:List V)
 | tup (xs:List V)
 | dK (kvs:List (qE×V))|dT (kvs:List (List qE×V))
 | set (S:Int->Bool) (n:Nat)
 | ins (C dx:Addr) (fs:List (Str×V))
 | own (x:Addr)
 | xd (fs:List (Str×V))
 | met (f x:Addr)
 | rng (lo hi:Int)
 | frz (o:Obj) (u:HO)
 | tbl (ps:Array Vl)
 | ext (φ:Heap->Prop)
abbrev Hp:=Addr->Option HO
def upd(H:Hp)(a:Addr)(o:HO):Hp:=λb=>if b=a then some o else H b
def pM{H:Hp}{a:Addr}{o:HO}:upd H a o a=some o:=by unfold upd;rw[cX rfl]
def pH{H:Hp}{a b:Addr}{o:HO}(h:b≠a):upd H a o b=H b:=by unfold upd;rw[cV h]
def Np{H:Hp}{a:Addr}{o u:HO}:upd (upd H a o) a u=upd H a u:=by funext b;unfold upd;split<;>rfl
def Te{H:Hp}{a b:Addr}{o u:HO}(h:H a=some o)(h':H b=some u)(d:o≠u):a≠b:=by intro e;subst e;rw[h]at h';exact d (de h')
def qw{H:Hp}{a b:Addr}{o:HO}(h:H a=some o)(h':H b=none):a≠b:=by intro e;subst e;rw[h]at h';cases h'
section
variable (P:Pg)(w:Wo)
def DP(h:Heap)(a:Addr)(its:Array Vl):Prop:=∃o,h.get? a=some o/\o.cls=.type "tuple"/\(∃n,o.data=.seq its n)/\o.dict=none
def sf(H:Hp)(h:Heap)(a:Addr):HO->Prop
 | .lst xs=>xs.length<=sizeLine/\∃(its:List Vl) (n:Nat),qc xs its/\h.get? a=some {cls:=.type "list",data:=.seq its.toArray n}
 | .tup xs=>xs.length<=sizeLine/\∃its:List Vl,qc xs its/\DP h a its.toArray
 | .dK kvs=>kvs.length<=sizeLine/\(a==sysModules)=false/\∃vs,KV kvs vs/\h.DictOf (qZ P w) a vs
 | .dT kvs=>kvs.length<=sizeLine/\(a==sysModules)=false/\∃xs:List (List qE×Addr×Vl),Paired (λ(p:List qE×V) (q:List qE×Addr×Vl)=>p.1=q.1/\H q.2.1=some (.tup (p.1.map kV))/\qm p.2 q.2.2) kvs xs/\
   ∃o es ep,h.get? a=some o/\o.ExactDict/\o.data=.dict es ep/\es.toList=xs.map (entryOfKey (tupleKind (qZ P w)))/\(xs.map (·.1)).Nodup
 | .set S n=>h.SetOf (intKind P w) a S n
 | .ins C dx fs=>H dx=some (.own a)/\fs.length<=1000/\dx≠a/\h.get? a=some (W.instObj C dx)/\
   ∃mA,h.Ns1 dx mA/\(∀f,xN (fs.lookup f) (mA f))/\PySem.Within mA (fs.map (·.1))
 | .own _=>∃o,h.get? a=some o
 | .xd fs=>∃mA,h.Ns1 a mA/\∀f,xN (fs.lookup f) (mA f)
 | .rng lo hi=>∃t u v,h.get? a=some {cls:=.type "range",data:=.fields #[.int lo t,.int hi u,.int 1 v]}
 | .frz o u=>h.get? a=some o/\sf H h a u
 | .tbl ps=>h.get? a=some {cls:=.none,data:=.fields ps}
 | .met f x=>h.get? a=some (W.methodObj (.ref f) (.ref x))
 | .ext φ=>φ h/\(∃o,h.get? a=some o)/\∀h1 h2:Heap,φ h1->(∀o,h1.get? a=some o->h2.get? a=some o)->φ h2
def xK(H:Hp)(h:Heap):Prop:=∀a o,H a=some o->sf P w H h a o
end
variable {H H':Hp}{h h':Heap}
section
variable {P:Pg}{w:Wo}{a:Addr}{o:HO}
def DP.is{its:Array Vl}(x:DP h a its):IsTup h a its:=let⟨o,e,c,d,_⟩:=x;⟨o,e,c,d⟩
def DP.new(h:Heap)(Vx:Array Vl):DP (h.push {cls:=.type "tuple",data:=.seq Vx}) h.objs.size Vx:=⟨_,dC _ rfl,rfl,⟨_,rfl⟩,rfl⟩
def sf.lt(x:sf P w H h a o):a<h.objs.size:=by
 cases o with
 | lst xs=>obtain⟨_,_,_,_,e⟩:=x;exact dq e
 | tup xs=>obtain⟨_,_,_,_,e,_⟩:=x;exact dq e
 | dK kvs=>obtain⟨_,_,_,_,o,_,_,e,_⟩:=x;exact dq e
 | dT kvs=>obtain⟨_,_,_,_,o,_,_,e,_⟩:=x;exact dq e
 | set S n=>obtain⟨o,_,_,_,e,_⟩:=x;exact dq e
 | ins C dx fs=>obtain⟨_,_,_,e,_⟩:=x;exact dq e
 | own y=>obtain⟨_,e⟩:=x;exact dq e
 | xd fs=>obtain⟨_,⟨_,_,_,e,_⟩,_⟩:=x;exact dq e
 | rng lo hi=>obtain⟨_,_,_,e⟩:=x;exact dq e
 | frz ob u=>obtain⟨e,_⟩:=x;exact dq e
 | tbl ps=>exact dq (show h.get? a=some _ from x)
 | met f y=>exact dq (show h.get? a=some _ from x)
 | ext φ=>obtain⟨_,⟨_,e⟩,_⟩:=x;exact dq e
theorem Paired.og{α β:Type}{F G:α->β->Prop}:∀{l₁:List α} {l₂:List β},Paired F l₁ l₂->(∀a b,F a b->G a b)->Paired G l₁ l₂
 | _,_,.nil,_=>.nil
 | _,_,.cons r t,f=>.cons (f _ _ r) (Paired.og t f)
def sf.mS(x:sf P w H h a o)(k:∀b u,(b=a\/H b=some (.own a))->h.get? b=some u->h'.get? b=some u) (ho:∀b,H b=some (.own a)->H' b=some (.own a)) (ht:∀b xs,H b=some (.tup xs)->H' b=some (.tup xs)):sf P w H' h' a o:=by
 induction o with
 | lst xs=>obtain⟨z,its,n,r,e⟩:=x;exact⟨z,its,n,r,k _ _ (.inl rfl) e⟩
 | tup xs=>obtain⟨z,its,r,ob,e,c⟩:=x;exact⟨z,its,r,ob,k _ _ (.inl rfl) e,c⟩
 | dK kvs=>obtain⟨z,y,vs,r,ob,es,ep,e,c⟩:=x;exact⟨z,y,vs,r,ob,es,ep,k _ _ (.inl rfl) e,c⟩
 | dT kvs=>obtain⟨z,y,xs,r,ob,es,ep,e,c⟩:=x;exact⟨z,y,xs,Paired.og r λp q z=>⟨z.1,ht _ _ z.2.1,z.2.2⟩,ob,es,ep,k _ _ (.inl rfl) e,c⟩
 | set S n=>obtain⟨ob,es,ep,t,e,c⟩:=x;exact⟨ob,es,ep,t,k _ _ (.inl rfl) e,c⟩
 | ins C dx fs=>obtain⟨d,z,ne,e,mA,⟨od,es,ep,e2,c⟩,r⟩:=x;exact⟨ho _ d,z,ne,k _ _ (.inl rfl) e,mA,⟨od,es,ep,k _ _ (.inr d) e2,c⟩,r⟩
 | own y=>obtain⟨ob,e⟩:=x;exact⟨ob,k _ _ (.inl rfl) e⟩
 | xd fs=>obtain⟨mA,⟨od,es,ep,e,c⟩,r⟩:=x;exact⟨mA,⟨od,es,ep,k _ _ (.inl rfl) e,c⟩,r⟩
 | rng lo hi=>obtain⟨t,u,v,e⟩:=x;exact⟨t,u,v,k _ _ (.inl rfl) e⟩
 | frz ob u ih=>obtain⟨e,q⟩:=x;exact⟨k _ _ (.inl rfl) e,ih q⟩
 | tbl ps=>have e:h.get? a=some {cls:=.none,data:=.fields ps}:=x;show h'.get? a=some {cls:=.none,data:=.fields ps};exact k a _ (.inl rfl) e
 | met f y=>have e:h.get? a=some (W.methodObj (.ref f) (.ref y)):=x;show h'.get? a=some (W.methodObj (.ref f) (.ref y));exact k a _ (.inl rfl) e
 | ext φ=>obtain⟨p,⟨o,e⟩,st⟩:=x;exact⟨st _ _ p λo q=>k _ _ (.inl rfl) q,⟨o,k _ _ (.inl rfl) e⟩,st⟩
def xK.lt(x:xK P w H h)(e:H a=some o):a<h.objs.size:=(x a o e).lt
def xK.fresh(x:xK P w H h)(e:h.objs.size<=a):H a=none:=by
 cases q:H a with
 | none=>rfl
 | some u=>exact absurd (dF (x.lt q) e) (eV _)
def xK.kept(x:xK P w H h)(k:∀b u,h.get? b=some u->h'.get? b=some u):xK P w H h':=λa o e=>(x a o e).mS (λb u _ q=>k b u q) (λ_ q=>q) λ_ _ q=>q
def xK.laid(x:xK P w H h)(k:∀b u,h.get? b=some u->h'.get? b=some u)(hp:h.objs.size<=a)(new:sf P w (upd H a o) h' a o):xK P w (upd H a o) h':=λb u e=>by
 have hn:=x.fresh hp;by_cases hb:b=a
 .subst hb;rw[pM]at e;cases e;exact new
 .rw[pH hb]at e;exact(x b u e).mS (λc v _ q=>k c v q) (λc q=>by rw[pH (qw q hn)];exact q) λc xs q=>by rw[pH (qw q hn)];exact q
end
def Rd(H:Hp)(a:Addr)(u:HO):Prop:=H a=some u\/∃o,H a=some (.frz o u)
def Rd.ok{P:Pg}{w:Wo}{H:Hp}{h:Heap}{a:Addr}{u:HO}(r:Rd H a u)(x:xK P w H h):sf P w H h a u:=by
 rcases r with r|⟨o,r⟩
 .exact x a u r
 .obtain⟨_,q⟩:=x a _ r;exact q
def SV:Option HO->Prop
 | some (.lst _)=>True
 | some (.dK _)=>True
 | some (.dT _)=>True
 | some (.set _ _)=>True
 | some (.ins _ _ _)=>True
 | some (.ext _)=>True
 | _=>False
variable {o':HO}
section
variable {P:Pg}{w:Wo}{x e:Addr}
def xK.write(ok:xK P w H h)(mu:SV (H x))(he:e=x\/H e=some (.own x))(k:∀b u,b≠e->h.get? b=some u->h'.get? b=some u)(heo:∃u,h'.get? e=some u) (new:sf P w (upd H x o') h' x o'):xK P w (upd H x o') h':=λb u q=>by
 have nown:∀c y,H c=some (.own y)->c≠x:=λc y r z=>by subst z;rw[r]at mu;exact mu
 have ntup:∀c xs,H c=some (.tup xs)->c≠x:=λc xs r z=>by subst z;rw[r]at mu;exact mu
 by_cases hb:b=x
 .subst hb;rw[pM]at q;cases q;exact new
 .rw[pH hb]at q;by_cases hbe:b=e
  .have q':H b=some (.own x):=by
    rcases he with z|z
    .exact absurd (hbe.trans z) hb
    .rw[hbe];exact z
   rw[q]at q';cases q';obtain⟨v,hv⟩:=heo;exact⟨v,by rw[hbe];exact hv⟩
  .refine(ok b u q).mS (λc v hc r=>k c v ?_ r) (λc r=>by rw[pH (nown c b r)];exact r) λc xs r=>by rw[pH (ntup c xs r)];exact r
   rcases hc with rfl|hc
   .exact hbe
   .rintro rfl
    rcases he with z|z
    .exact nown c b hc z
    .rw[hc]at z;cases z;exact hb rfl
end
structure Un(fs ex:List Addr)(H H':Hp)(h h':Heap):Prop where
 keep:∀b o,h.get? b=some o->H b=none->b∉fs->b∉ex->h'.get? b=some o
 slot:∀b o,h.get? b=some o->H b=none->b∈fs->b∉ex->∃sl,h'.get? b=some {o with slots:=sl}
 free:∀b o,h.get? b=some o->H b=none->b∉ex->H' b=none
 there:∀b o,h.get? b=some o->b∉ex->∃o',h'.get? b=some o'
 mZ:∀b xs,H b=some (.tup xs)->H' b=some (.tup xs)
 mU:∀b o u,H b=some (.frz o u)->H' b=some (.frz o u)
 ng:∀b ps,H b=some (.tbl ps)->∃more,H' b=some (.tbl (ps++more))
variable {ex ex':List Addr}{H1 H2:Hp}{h1 h2:Heap}
section
variable {fs fs':List Addr}{a x e:Addr}{o:HO}
def Un.any(u:Un fs ex H H1 h h1){b:Addr}{ob:Obj}(q:h.get? b=some ob)(n:H b=none)(hx:b∉ex):∃sl,h1.get? b=some {ob with slots:=sl}:=by
 by_cases hb:b∈fs
 .exact u.slot b ob q n hb hx
 .exact⟨ob.slots,u.keep b ob q n hb hx⟩
def Un.trans(a:Un fs ex H H1 h h1)(b:Un fs ex H1 H2 h1 h2):Un fs ex H H2 h h2 where
 keep:=λc ob q n hc hx=>b.keep c ob (a.keep c ob q n hc hx) (a.free c ob q n hx) hc hx
 slot:=λc ob q n hc hx=>by obtain⟨sl,e1⟩:=a.slot c ob q n hc hx;obtain⟨W1,e2⟩:=b.slot c _ e1 (a.free c ob q n hx) hc hx;exact⟨W1,e2⟩
 free:=λc ob q n hx=>by obtain⟨o',e1⟩:=a.there c ob q hx;exact b.free c o' e1 (a.free c ob q n hx) hx
 there:=λc ob q hx=>by obtain⟨o',e1⟩:=a.there c ob q hx;exact b.there c o' e1 hx
 mZ:=λc xs q=>b.mZ c xs (a.mZ c xs q)
 mU:=λc ob xs q=>b.mU c ob xs (a.mU c ob xs q)
 ng:=λc ps q=>by obtain⟨m1,e1⟩:=a.ng c ps q;obtain⟨m2,e2⟩:=b.ng c _ e1;exact⟨m1++m2,by rw[e2,kD]⟩
def Un.kept(k:∀b u,h.get? b=some u->h'.get? b=some u):Un fs ex H H h h':=
 ⟨λb ob q _ _ _=>k b ob q,λb ob q _ _ _=>⟨ob.slots,k b ob q⟩,λ_ _ _ n _=>n,λb ob q _=>⟨ob,k b ob q⟩,λ_ _ q=>q,λ_ _ _ q=>q,λ_ ps q=>⟨#[],by rw[q];simp⟩⟩
def Un.refl:Un fs ex H H h h:=Un.kept λ_ _ q=>q
def Un.laid(k:∀b u,h.get? b=some u->h'.get? b=some u)(hp:h.objs.size<=a)(hn:H a=none):Un fs ex H (upd H a o) h h' where
 keep:=λb u q _ _ _=>k b u q
 slot:=λb u q _ _ _=>⟨u.slots,k b u q⟩
 free:=λb u q n _=>by rw[pH (dE (dF (dq q) hp))];exact n
 there:=λb u q _=>⟨u,k b u q⟩
 mZ:=λb xs q=>by rw[pH (qw q hn)];exact q
 mU:=λb u xs q=>by rw[pH (qw q hn)];exact q
 ng:=λb ps q=>⟨#[],by rw[pH (qw q hn),q];simp⟩
def Un.write(mu:SV (H x))(he:e=x\/H e=some (.own x))(k:∀b u,b≠e->h.get? b=some u->h'.get? b=some u)(heo:∃u,h'.get? e=some u):Un fs ex H (upd H x o) h h':=by
 have hx:∀b,H b=none->b≠x:=λb n z=>by subst z;rw[n]at mu;exact mu
 have hb:∀b,H b=none->b≠e:=λb n z=>by
  subst z;rcases he with r|r
  .exact hx b n r
  .rw[n]at r;cases r
 have hm:∀b u,H b=some u->¬SV (some u)->b≠x:=λb u q nm z=>by subst z;rw[q]at mu;exact nm mu
 refine⟨λb u q n _ _=>k b u (hb b n) q,λb u q n _ _=>⟨u.slots,k b u (hb b n) q⟩,λb u q n _=>by rw[pH (hx b n)];exact n,λb u q _=>?_,λb xs q=>by rw[pH (hm b _ q λz=>z)];exact q,λb u xs q=>by rw[pH (hm b _ q λz=>z)];exact q,λb ps q=>⟨#[],by rw[pH (hm b _ q λz=>z),q];simp⟩⟩
 by_cases hbe:b=e
 .subst hbe;exact heo
 .exact⟨u,k b u hbe q⟩
end
def TJ(h:Heap)(H:Hp):List Addr:=(List.range h.objs.size).filter λa=>(H a).isSome
def EK(h:Heap)(H:Hp):Heap:=W.hideAll h (TJ h H)
def Jo(h:Heap)(H:Hp):(EK h H).objs.size=h.objs.size:=W.hideAll_size _ _
def Kc{h:Heap}{H:Hp}{b:Addr}{o:Obj}(e:h.get? b=some o)(n:H b=none):(EK h H).get? b=some o:=
 W.hideAll_get _ e λhm=>by have q:(H b).isSome=true:=(fz.mp hm).2;rw[n]at q;simp at q
def O6{h:Heap}{H:Hp}{b:Addr}{o:Obj}(e:(EK h H).get? b=some o):h.get? b=some o/\H b=none:=by
 have e':h.get? b=some o:=W.of_hideAll (TJ h H) e;refine⟨e',?_⟩;cases q:H b with
 | none=>rfl
 | some x=>have hm:b∈TJ h H:=fz.mpr ⟨gk.mpr (dq e'),by simp[q]⟩;have z:(EK h H).get? b=none:=W.hideAll_none (TJ h H) hm;rw[z]at e;cases e
structure Mod(K:pX)(mg:Str->Option Vl)(base:Heap):Prop where
 nX:K.In base
 glob:base.Ns mainGlobals mg
 blt:∃mb,base.Ns builtinsNs mb/\∀x:Str,x≠"__name__"->mb x=bootBuiltins x
 nolimit:base.NoLimit
structure Cx where
 prog:Pg
 w:Wo
 K:pX
 mg:Str->Option Vl
 base:Heap
 A:Ar
 N:List Str
 s₀:Sd
 H₀:Hp
 env:Env
 outer:List Env
 stack:List Env
 ex:List Addr
 fn:Str->Bool
 calm:Bool
 pn:List (Addr×Obj)
 xe:Vl->Sd->Prop
abbrev AB(X:Cx)(e:Expr)(es:List Expr):Prop:=starEach (e::es) X.env=(false,eval e X.env)::starEach es X.env
abbrev B0(X:Cx)(p:Pos)(es:List Expr):Prop:=(backTo p (starEach es X.env)).any (·.1)=false
abbrev yX(x:Str):Prop:=(x==("__debug__":Str))=false
abbrev JW(X:Cx)(x:Str):Prop:=X.fn x=true\/X.env.scope.names.lookup x=some .local
def vw(l:List Env):List Addr:=l.filterMap (·.frame)
abbrev Cx.fs(X:Cx):List Addr:=vw X.outer
def Qb(sc:Scope)(x:Str):Prop:=sc.names.lookup x=some .local\/sc.names.lookup x=some .cell\/sc.names.lookup x=some .free
def JX(sc:Scope)(x:Str):Prop:=sc.names.lookup x=some .local\/sc.names.lookup x=some .cell
def Tj(env:Env)(h:Heap)(m:Str->Option Vl)(x:Str)(u:Vl):Prop:=
 (env.kindOf x=some .local/\m x=some u)\/((env.kindOf x=some .cell\/env.kindOf x=some .free)/\∃c,env.cells.lookup x=some c/\h.IsCell c (some u))
structure Cx.Ok(X:Cx):Prop where
 mod:Mod X.K X.mg X.base
 kind:X.env.scope.kind=.function
 glob:X.env.globals=mainGlobals
 blt:X.env.builtins=builtinsNs
 above:X.s₀.heap.objs.size<=X.env.locals
 inj:∀x y c,X.env.cells.lookup x=some c->X.env.cells.lookup y=some c->x=y
 has:∀x,(X.env.kindOf x=some .cell\/X.env.kindOf x=some .free)->∃c,X.env.cells.lookup x=some c
 oa:∀x c,X.fn x=true->X.env.cells.lookup x=some c->X.s₀.heap.objs.size<=c
 hd:X.calm=true->X.A.handled=none
 frames:X.A.frames=some X.stack
 oh:X.stack=X.outer\/(X.stack=X.env::X.outer/\X.env.frame=some X.env.locals)
 oE:∀b∈X.ex,b≠X.env.locals/\∀x c,X.env.cells.lookup x=some c->c≠b
 bs:∀b o,X.base.get? b=some o->X.s₀.heap.get? b=some o/\X.H₀ b=none
 nJ:X.base.objs.size<=X.s₀.heap.objs.size
 nA:∀b o,X.base.get? b=some o->b∉X.ex
 nF:∀b∈X.ex,b∉X.fs
 m7:X.s₀.heap.FunFrames X.base X.outer
 nP:∀b∈X.fs,X.H₀ b=none
structure Inv(X:Cx)(Vw:List (Addr×Obj))(σ:List (Option V))(H:Hp)(s:Sd):Prop where
 ok:X.Ok
 os:s.os=X.s₀.os
 bare:AllBare s.gens
 base:Un X.fs X.ex X.H₀ H X.s₀.heap s.heap
 loc:∃m,s.heap.Ns X.env.locals m/\∀(i:Nat) (x:Str) (v:V),X.N[i]?=some x->σ[i]?=some (some v)->Qb X.env.scope x->∃u,qm v u/\Tj X.env s.heap m x u
 cell:∀x c,X.env.cells.lookup x=some c->∃v,s.heap.IsCell c v
 free:H X.env.locals=none
 mK:∀x c,X.env.cells.lookup x=some c->H c=none
 pin:∀p∈X.pn++Vw,s.heap.get? p.1=some p.2/\H p.1=none/\p.1≠X.env.locals/\p.1∉X.fs/\∀v,p.2.data≠.cell v
 mE:xK X.prog X.w H s.heap
 len:σ.length=X.N.length
variable {X:Cx}{Vw:List (Addr × Obj)}{s:Sd}
section
variable {σ:List (Option V)}
def Cx.Ok.nofr(ok:X.Ok){b:Addr}{o:Obj}(e:X.base.get? b=some o):b∉X.fs:=λhb=>by have:=(ok.m7.mem hb).1;rw[e]at this;cases this
def Inv.bs(I:Inv X Vw σ H s):∀b o,X.base.get? b=some o->s.heap.get? b=some o/\H b=none:=λb o e=>⟨I.base.keep b o (I.ok.bs b o e).1 (I.ok.bs b o e).2 (I.ok.nofr e) (I.ok.nA b o e),I.base.free b o (I.ok.bs b o e).1 (I.ok.bs b o e).2 (I.ok.nA b o e)⟩
def Inv.bk(I:Inv X Vw σ H s):∀b o,X.base.get? b=some o->s.heap.get? b=some o:=λb o e=>(I.bs b o e).1
def Inv.mod(I:Inv X Vw σ H s):Mod X.K X.mg X.base:=I.ok.mod
def Inv.mV(I:Inv X Vw σ H s):X.K.In s.heap:=I.ok.mod.nX.keeps I.bk
def Inv.lt(I:Inv X Vw σ H s):X.env.locals<s.heap.objs.size:=let⟨_,hn,_⟩:=I.loc;hn.lt
def Inv.sz(I:Inv X Vw σ H s):X.s₀.heap.objs.size<=s.heap.objs.size:=dU I.ok.above (kE I.lt)
def Inv.oj(I:Inv X Vw σ H s){a:Addr}(h:s.heap.objs.size<=a):a∉X.fs:=λhb=>by obtain⟨_,o,ho,_⟩:=I.ok.m7.mem hb;exact absurd (dF (dq ho) (dU I.sz h)) (eV _)
def Inv.oC(I:Inv X Vw σ H s):∀x c,X.env.cells.lookup x=some c->c≠X.env.locals:=λx c e z=>by obtain⟨v,o,ho,hd⟩:=I.cell x c e;obtain⟨m,⟨o',es,ep,Wg,hd',_⟩,_⟩:=I.loc;rw[z,Wg]at ho;cases ho;rw[hd']at hd;cases hd
def Inv.m7(I:Inv X Vw σ H s):s.heap.FunFrames X.base X.outer:=by
 have all:∀(l:List Env),(∀b∈vw l,b∈X.fs)->X.s₀.heap.FunFrames X.base l->s.heap.FunFrames X.base l:=by
  intro l;induction l with
  | nil=>intro _ _;trivial
  | cons env r ih=>intro hs hl;obtain⟨hk,⟨L,o,hf,hn,ho,hd⟩,hr⟩:=hl;have hL:L∈X.fs:=hs L (by unfold vw;rw[fT,hf];exact dH);obtain⟨sl,e⟩:=I.base.slot L o ho (I.ok.nP L hL) hL λz=>I.ok.nF L z hL;exact⟨hk,⟨L,_,hf,hn,e,hd⟩,ih (λb hb=>hs b (by unfold vw;rw[fT,hf];exact dA _ hb)) hr⟩
 exact all X.outer (λ_ hb=>hb) I.ok.m7
def Inv.stack(I:Inv X Vw σ H s):s.heap.FunFrames X.base X.stack:=by
 rcases I.ok.oh with e|⟨e,hf⟩
 .rw[e];exact I.m7
 .rw[e];obtain⟨m,hn,_⟩:=I.loc;refine .cons (by rw[I.ok.kind];decide) hf hn ?_ I.m7;exact gD (dU I.ok.nJ I.ok.above)
def Inv.mY(I:Inv X Vw σ H s):∀b∈vw X.stack,b∈X.env.locals::X.fs:=λb hb=>by
 rcases I.ok.oh with e|⟨e,hf⟩
 .rw[e]at hb;exact dA _ hb
 .rw[e]at hb;unfold vw at hb;rw[fT,hf]at hb;exact hb
def Inv.ni(I:Inv X Vw σ H s):∀b∈vw X.stack,H b=none:=λb hb=>by
 rcases cZ.mp (I.mY b hb)with e|hb
 .rw[e];exact I.free
 .obtain⟨_,o,ho,_⟩:=I.ok.m7.mem hb;exact I.base.free b o ho (I.ok.nP b hb) λz=>I.ok.nF b z hb
def Inv.step{g':Array GenState}{t':Nat}{d':Drawn}{ch:List Addr}(I:Inv X Vw σ H s) (Wy:∀b∈ch,(b∈X.ex\/X.s₀.heap.objs.size<=b)/\b≠X.env.locals/\(∀x c,X.env.cells.lookup x=some c->c≠b)/\∀p∈X.pn++Vw,p.1≠b) (keep:∀b o,b≠X.env.locals->b∉X.fs->b∉ch->s.heap.get? b=some o->H b=none->h'.get? b=some o) (slot:∀b o,b≠X.env.locals->b∈X.fs->b∉ch->s.heap.get? b=some o->H b=none->∃sl,h'.get? b=some {o with slots:=sl}) (free:∀b o,b∉ch->s.heap.get? b=some o->H b=none->H' b=none)
  (there:∀b o,b∉ch->s.heap.get? b=some o->∃o',h'.get? b=some o')
  (mZ:∀b xs,H b=some (.tup xs)->H' b=some (.tup xs)) (mU:∀b o u,H b=some (.frz o u)->H' b=some (.frz o u)) (ng:∀b ps,H b=some (.tbl ps)->∃more,H' b=some (.tbl (ps++more)))
  (ns:∀m,s.heap.Ns X.env.locals m->h'.Ns X.env.locals m) (mE:xK X.prog X.w H' h') (hg:AllBare g'):
  Inv X Vw σ H' {s with heap:=h',gens:=g',drawn:=d',toks:=t'}:=by
 have neL:∀b o,X.s₀.heap.get? b=some o->b≠X.env.locals:=λb o e=>dE (dF (dq e) I.ok.above);have neC:∀b o,X.s₀.heap.get? b=some o->b∉X.ex->b∉ch:=λb o e hx hb=>by
  rcases(Wy b hb).1 with z|z
  .exact hx z
  .exact absurd (dF (dq e) z) (eV _)
 have X4:∀x c,X.env.cells.lookup x=some c->∀v,s.heap.IsCell c v->h'.IsCell c v:=λx c e v ⟨o,ho,hd⟩=>by
  have nch:c∉ch:=λz=>(Wy c z).2.2.1 x c e rfl;by_cases hc:c∈X.fs
  .obtain⟨sl,q⟩:=slot c o (I.oC x c e) hc nch ho (I.mK x c e);exact⟨_,q,hd⟩
  .exact⟨o,keep c o (I.oC x c e) hc nch ho (I.mK x c e),hd⟩
 refine⟨I.ok,I.os,hg,⟨λb o e n hb hx=>?_,λb o e n hb hx=>?_,λb o e n hx=>?_,λb o e hx=>?_,λb xs e=>mZ b xs (I.base.mZ b xs e),λb o xs e=>mU b o xs (I.base.mU b o xs e),λb ps e=>?_⟩,?_,λx c e=>?_,?_,λx c e=>?_,λp hp=>?_,mE,I.len⟩
 .exact keep b o (neL b o e) hb (neC b o e hx) (I.base.keep b o e n hb hx) (I.base.free b o e n hx)
 .obtain⟨sl,e1⟩:=I.base.slot b o e n hb hx;obtain⟨W1,e2⟩:=slot b _ (neL b o e) hb (neC b o e hx) e1 (I.base.free b o e n hx);exact⟨W1,e2⟩
 .obtain⟨o',e1⟩:=I.base.there b o e hx;exact free b o' (neC b o e hx) e1 (I.base.free b o e n hx)
 .obtain⟨o',e1⟩:=I.base.there b o e hx;exact there b o' (neC b o e hx) e1
 .obtain⟨m1,e1⟩:=I.base.ng b ps e;obtain⟨m2,e2⟩:=ng b _ e1;exact⟨m1++m2,by rw[e2,kD]⟩
 .obtain⟨m,hn,hl⟩:=I.loc;refine⟨m,ns m hn,λi x v e1 e2 e3=>?_⟩;obtain⟨u,r,l⟩:=hl i x v e1 e2 e3;refine⟨u,r,?_⟩;rcases l with l|⟨k,c,e,z⟩
  .exact .inl l
  .exact .inr ⟨k,c,e,X4 x c e _ z⟩
 .obtain⟨v,z⟩:=I.cell x c e;exact⟨v,X4 x c e v z⟩
 .obtain⟨m,⟨o,_,_,ho,_⟩,_⟩:=I.loc;exact free _ o (λz=>(Wy _ z).2.1 rfl) ho I.free
 .obtain⟨v,o,ho,hd⟩:=I.cell x c e;exact free c o (λz=>(Wy c z).2.2.1 x c e rfl) ho (I.mK x c e)
 .obtain⟨e,n,ne,nf,d⟩:=I.pin p hp;have nch:p.1∉ch:=λz=>(Wy p.1 z).2.2.2 p hp rfl;exact⟨keep p.1 p.2 ne nf nch e n,free p.1 p.2 nch e n,ne,nf,d⟩
def Inv.un{t':Nat}(I:Inv X Vw σ H s)(u:Un X.fs [] H H' s.heap h')(mE:xK X.prog X.w H' h'):Inv X Vw σ H' {s with heap:=h',toks:=t'}:=by
 obtain⟨m,⟨o,es,ep,ho,r⟩,_⟩:=id I.loc;obtain⟨sl,hL⟩:=u.any ho I.free (by simp);exact I.step (g':=s.gens) (d':=s.drawn) (ch:=[]) (λ_ z=>nomatch z) (λb o _ hb _ e n=>u.keep b o e n hb (by simp)) (λb o _ hb _ e n=>u.slot b o e n hb (by simp)) (λb o _ e n=>u.free b o e n (by simp)) (λb o _ e=>u.there b o e (by simp)) u.mZ u.mU u.ng (λm' hm=>by
  obtain⟨o',es',ep',Wg,r'⟩:=hm;rw[ho]at Wg;cases Wg;exact⟨_,es',ep',hL,r'⟩) mE I.bare
def Inv.call{g':Array GenState}{t':Nat}{d':Drawn}{ch:List Addr}(I:Inv X Vw σ H s)(u:Un (vw X.stack) ch H H' s.heap h')(mE:xK X.prog X.w H' h')(hg:AllBare g') (Wy:∀b∈ch,(b∈X.ex\/X.s₀.heap.objs.size<=b)/\b≠X.env.locals/\(∀x c,X.env.cells.lookup x=some c->c≠b)/\∀p∈X.pn++Vw,p.1≠b):
  Inv X Vw σ H' {s with heap:=h',gens:=g',drawn:=d',toks:=t'}:=by
 obtain⟨m,⟨o,es,ep,ho,r⟩,_⟩:=id I.loc;obtain⟨sl,hL⟩:=u.any ho I.free λz=>(Wy _ z).2.1 rfl;exact I.step (ch:=ch) Wy (λb o hL hb hc e n=>u.keep b o e n (λz=>(cZ.mp (I.mY b z)).elim hL hb) hc) (λb o _ _ hc e n=>u.any e n hc) (λb o hc e n=>u.free b o e n hc) (λb o hc e=>u.there b o e hc) u.mZ u.mU u.ng (λm' hm=>by
  obtain⟨o',es',ep',Wg,r'⟩:=hm;rw[ho]at Wg;cases Wg;exact⟨_,es',ep',hL,r'⟩) mE hg
def Inv.turned{t':Nat}{it:Addr}(I:Inv X Vw σ H s)(k:∀b o,b≠it->s.heap.get? b=some o->h'.get? b=some o)(hn:H it=none)(hL:it≠X.env.locals) (h1:it∈X.ex\/X.s₀.heap.objs.size<=it) (h2:∀x c,X.env.cells.lookup x=some c->c≠it) (h3:∀p∈X.pn++Vw,p.1≠it):Inv X Vw σ H {s with heap:=h',toks:=t'}:=by
 have nit:∀b u,H b=some u->b≠it:=λb u e z=>by rw[z,hn]at e;cases e
 refine I.step (g':=s.gens) (d':=s.drawn) (ch:=[it]) (λb hb=>?_) (λb o _ _ hc e _=>k b o (λz=>hc (by simp[z])) e) (λb o _ _ hc e _=>⟨o.slots,k b o (λz=>hc (by simp[z])) e⟩) (λ_ _ _ _ n=>n)
  (λb o hc e=>⟨o,k b o (λz=>hc (by simp[z])) e⟩) (λ_ _ e=>e) (λ_ _ _ e=>e) (λb ps e=>⟨#[],by rw[e];simp⟩) (λm hm=>?_) (λb u e=>?_) I.bare
 .have e:b=it:=by simpa using hb
  subst e;exact⟨h1,hL,h2,h3⟩
 .obtain⟨o,es,ep,ho,r⟩:=hm;exact⟨o,es,ep,k _ o (dG hL) ho,r⟩
 .refine(I.mE b u e).mS (λc v hc q=>k c v ?_ q) (λ_ q=>q) λ_ _ q=>q;rcases hc with z|z
  .rw[z];exact nit b u e
  .exact nit c _ z
def Inv.tok(I:Inv X Vw σ H s)(t:Nat):Inv X Vw σ H {s with toks:=t}:=I.un (h':=s.heap) (t':=t) Un.refl I.mE
def Inv.kept{t':Nat}(I:Inv X Vw σ H s)(k:∀b u,s.heap.get? b=some u->h'.get? b=some u):Inv X Vw σ H {s with heap:=h',toks:=t'}:=I.un (Un.kept k) (I.mE.kept k)
def Inv.laid{a:Addr}{o:HO}{t':Nat}(I:Inv X Vw σ H s)(k:∀b u,s.heap.get? b=some u->h'.get? b=some u)(hp:s.heap.objs.size<=a)(new:sf X.prog X.w (upd H a o) h' a o):
  Inv X Vw σ (upd H a o) {s with heap:=h',toks:=t'}:=I.un (Un.laid k hp (I.mE.fresh hp)) (I.mE.laid k hp new)
def Inv.write{x e:Addr}{o:HO}{t':Nat}(I:Inv X Vw σ H s)(mu:SV (H x))(he:e=x\/H e=some (.own x))(k:∀b u,b≠e->s.heap.get? b=some u->h'.get? b=some u)(heo:∃u,h'.get? e=some u) (new:sf X.prog X.w (upd H x o) h' x o):Inv X Vw σ (upd H x o) {s with heap:=h',toks:=t'}:=I.un (Un.write mu he k heo) (I.mE.write mu he k heo new)
def Inv.nv{Wz:List (Addr×Obj)}(I:Inv X Vw σ H s)(h:∀p∈Wz,s.heap.get? p.1=some p.2/\H p.1=none/\p.1≠X.env.locals/\p.1∉X.fs/\∀v,p.2.data≠.cell v):Inv X Wz σ H s:=
 ⟨I.ok,I.os,I.bare,I.base,I.loc,I.cell,I.free,I.mK,λp hp=>(dR.mp hp).elim (λz=>I.pin p (fm _ z)) (h p),I.mE,I.len⟩
def Bf{N:List Str}(hN:N.Nodup){i j:Nat}{x:Str}(a:N[i]?=some x)(b:N[j]?=some x):i=j:=by obtain⟨h1,e1⟩:=cT.mp a;obtain⟨h2,e2⟩:=cT.mp b;exact(lu hN).mp (e1.trans e2.symm)
def C8{M:Model}{A:Ar}{E:Vl->Sd->Prop}{i:Nat}{x:Str}{v:V}{u:Vl}{Q:Unit->Sd->Prop}(I:Inv X Vw σ H s)(hN:X.N.Nodup)(hi:X.N[i]?=some x)(hx:JX X.env.scope x)(r:qm v u) (h:∀s',Inv X Vw (σ.set i (some v)) H s'->(∃a,Heap.SameBut a s.heap s'.heap/\(a=X.env.locals\/X.env.cells.lookup x=some a))->Q () s') (hf:JW X x:=by first|exact .inl rfl|exact .inr rfl|assumption):wpAny M A (storeName X.env x u) Q E s:=by
 obtain⟨m,hn,hl⟩:=id I.loc;have Yk:(X.env.scope.kind==.class||(X.env.scope.kind==.module&&X.env.locals != X.env.globals))=false:=by rw[I.ok.kind];rfl
 have hiσ:i<σ.length:=by rw[I.len];exact(cT.mp hi).1
 have oC:=I.oC;have VM:∀{a:Addr} {h':Heap},(∃o,s.heap.get? a=some o/\H a=none)->Heap.SameBut a s.heap h'->xK X.prog X.w H h':=λ{a h'} ha hs b ob e=>by
  obtain⟨_,_,Wn⟩:=ha;refine(I.mE b ob e).mS (λc w' hc q=>(hs.2 c ?_).trans q) (λ_ q=>q) λ_ _ q=>q
  rintro rfl
  rcases hc with rfl|hc
  .rw[Wn]at e;cases e
  .rw[Wn]at hc;cases hc
 rcases hx with hk|hk
 .refine wpAny_storeName_local hk hn (λh' W9 hs=>?_) Yk;obtain⟨oL,_,_,hoL,_⟩:=id hn;refine h _ ⟨I.ok,I.os,I.bare,⟨λb o e n hb hx=>?_,λb o e n hb hx=>?_,I.base.free,λb o e hx=>?_,I.base.mZ,I.base.mU,I.base.ng⟩,⟨_,W9,λj y v' e1 e2 e3=>?_⟩,λy c e=>?_,I.free,I.mK,λp hp=>?_,VM ⟨oL,hoL,I.free⟩ hs,by simpa using I.len⟩ ⟨_,hs,.inl rfl⟩
  .exact(hs.2 b (dE (dF (dq e) I.ok.above))).trans (I.base.keep b o e n hb hx)
  .obtain⟨sl,e1⟩:=I.base.slot b o e n hb hx;exact⟨sl,(hs.2 b (dE (dF (dq e) I.ok.above))).trans e1⟩
  .obtain⟨o',e1⟩:=I.base.there b o e hx;exact⟨o',(hs.2 b (dE (dF (dq e) I.ok.above))).trans e1⟩
  .by_cases hj:j=i
   .subst hj;rw[hi]at e1;cases e1;rw[eF hiσ]at e2;cases e2;exact⟨u,r,.inl ⟨hk,by simp⟩⟩
   .rw[eK (dG hj)]at e2;obtain⟨u',r',q⟩:=hl j y v' e1 e2 e3;refine⟨u',r',?_⟩;rcases q with⟨k,e⟩|⟨k,c,e,z⟩
    .refine .inl ⟨k,?_⟩;have:y≠x:=λe=>hj (Bf hN e1 (e ▸ hi));simp[this,e]
    .exact .inr ⟨k,c,e,z.sameBut hs (oC y c e)⟩
  .obtain⟨w',z⟩:=I.cell y c e;exact⟨w',z.sameBut hs (oC y c e)⟩
  .obtain⟨e,n,ne,nf,d⟩:=I.pin p hp;exact⟨(hs.2 p.1 ne).trans e,n,ne,nf,d⟩
 .have hfn:X.fn x=true:=by
   rcases hf with z|z
   .exact z
   .rw[z]at hk;cases hk
  obtain⟨c,hc⟩:=I.ok.has x (.inl hk);obtain⟨w',z⟩:=I.cell x c hc;refine wpAny_storeName_cell I.ok.kind hk hc z (λh' hc' hs=>?_);obtain⟨oc,hoc,hocd⟩:=id z;refine h {s with heap:=h'} ⟨I.ok,I.os,I.bare,⟨λb o e n hb hx=>?_,λb o e n hb hx=>?_,I.base.free,λb o e hx=>?_,I.base.mZ,I.base.mU,I.base.ng⟩,⟨m,hn.sameBut hs (dG (oC x c hc)),λj y v' e1 e2 e3=>?_⟩,λy c' e=>?_,I.free,I.mK,λp hp=>?_,VM ⟨oc,hoc,I.mK x c hc⟩ hs,by simpa using I.len⟩ ⟨c,hs,.inr hc⟩
  .exact(hs.2 b (dE (dF (dq e) (I.ok.oa x c hfn hc)))).trans (I.base.keep b o e n hb hx)
  .obtain⟨sl,e1⟩:=I.base.slot b o e n hb hx;exact⟨sl,(hs.2 b (dE (dF (dq e) (I.ok.oa x c hfn hc)))).trans e1⟩
  .obtain⟨o',e1⟩:=I.base.there b o e hx;exact⟨o',(hs.2 b (dE (dF (dq e) (I.ok.oa x c hfn hc)))).trans e1⟩
  .by_cases hj:j=i
   .subst hj;rw[hi]at e1;cases e1;rw[eF hiσ]at e2;cases e2;exact⟨u,r,.inr ⟨.inl hk,c,hc,hc'⟩⟩
   .rw[eK (dG hj)]at e2;obtain⟨u',r',q⟩:=hl j y v' e1 e2 e3;refine⟨u',r',?_⟩;rcases q with q|⟨k,c',e,z'⟩
    .exact .inl q
    .refine .inr ⟨k,c',e,z'.sameBut hs ?_⟩
     rintro rfl
     exact hj (Bf hN e1 (I.ok.inj _ _ _ e hc ▸ hi))
  .by_cases X5:c'=c
   .subst X5;exact⟨_,hc'⟩
   .obtain⟨w2,z2⟩:=I.cell y c' e;exact⟨w2,z2.sameBut hs X5⟩
  .obtain⟨e,n,ne,nf,d⟩:=I.pin p hp;refine⟨(hs.2 p.1 ?_).trans e,n,ne,nf,d⟩;intro q;rw[q,hoc]at e;have q':oc=p.2:=de e;exact d w' (by rw[<-q'];exact hocd)
def wF{M:Model}{A:Ar}{E:Vl->Sd->Prop}{i:Nat}{x:Str}{v:V}{u:Vl}{Q:Unit->Sd->Prop}(I:Inv X Vw σ H s)(hN:X.N.Nodup)(hi:X.N[i]?=some x)(hx:JX X.env.scope x)(r:qm v u) (h:∀s',Inv X Vw (σ.set i (some v)) H s'->Q () s') (hf:JW X x:=by first|exact .inl rfl|exact .inr rfl|assumption):wpAny M A (storeName X.env x u) Q E s:=
 C8 I hN hi hx r (λs' I' _=>h s' I') hf
def Inv.ow{s':Sd}{ch:List Addr}(I:Inv X Vw σ H s)(ho:s'.os=s.os)(u:Un (vw X.stack) ch H H' s.heap s'.heap)(mE:xK X.prog X.w H' s'.heap)(hg:AllBare s'.gens) (Wy:∀b∈ch,(b∈X.ex\/X.s₀.heap.objs.size<=b)/\b≠X.env.locals/\(∀x c,X.env.cells.lookup x=some c->c≠b)/\∀p∈X.pn++Vw,p.1≠b):Inv X Vw σ H' s':=by
 obtain⟨h',g',d',t',o'⟩:=s';have e:o'=s.os:=ho;subst e;exact I.call (g':=g') (t':=t') (d':=d') u mE hg Wy
end
abbrev XK:=Vl->Option Addr->Hp->Prop
abbrev St:=List (Option V)
abbrev VK:=V->Hp->Prop
abbrev TE:=St->Hp->VK->Prop
abbrev TT:=St->Hp->(Bool->Hp->Prop)->Prop
abbrev TA:=St->Hp->(List V->Hp->Prop)->Prop
structure DT where
 nx:St->Hp->Prop
 rt:VK
 bk:St->Hp->Prop:=λ_ _=>False
 ct:St->Hp->Prop:=λ_ _=>False
abbrev TS:=DT->St->Hp->Prop
def EP(X:Cx)(Vw:List (Addr×Obj))(σ:St)(Q:VK)(u:Vl)(s':Sd):Prop:=∃v H',Inv X Vw σ H' s'/\qm v u/\Q v H'
def TP(X:Cx)(Vw:List (Addr×Obj))(σ:St)(Q:Bool->Hp->Prop)(b:Bool)(s':Sd):Prop:=∃H',Inv X Vw σ H' s'/\Q b H'
def AP(X:Cx)(Vw:List (Addr×Obj))(σ:St)(Q:List V->Hp->Prop)(us:List Vl)(s':Sd):Prop:=∃vs H',Inv X Vw σ H' s'/\qc vs us/\Q vs H'
def SP(X:Cx)(Vw:List (Addr×Obj))(D:DT)(f:Flow)(s':Sd):Prop:=
 match f with
 | .next=>∃σ' H',Inv X Vw σ' H' s'/\D.nx σ' H'
 | .brk=>∃σ' H',Inv X Vw σ' H' s'/\D.bk σ' H'
 | .cont=>∃σ' H',Inv X Vw σ' H' s'/\D.ct σ' H'
 | .ret u=>∃v σ' H',Inv X Vw σ' H' s'/\qm v u/\D.rt v H'
def PE(X:Cx)(e:Expr)(t:TE):Prop:=
 ∀(Vw:List (Addr×Obj)) (s:Sd) (σ:St) (H:Hp) (Q:VK),Inv X Vw σ H s->t σ H Q->wpAny (model X.prog X.w) X.A (eval e X.env) (EP X Vw σ Q) X.xe s
def PT(X:Cx)(e:Expr)(t:TT):Prop:=
 ∀(Vw:List (Addr×Obj)) (s:Sd) (σ:St) (H:Hp) (Q:Bool->Hp->Prop),Inv X Vw σ H s->t σ H Q->wpAny (model X.prog X.w) X.A (isTrue e X.env (eval e X.env)) (TP X Vw σ Q) X.xe s
def PW(X:Cx)(e:Expr)(t:TT):Prop:=
 ∀(V9:Sem Vl) (Vw:List (Addr×Obj)) (s:Sd) (σ:St) (H:Hp) (Q:Bool->Hp->Prop),Inv X Vw σ H s->t σ H Q->wpAny (model X.prog X.w) X.A (isTrue e X.env V9) (TP X Vw σ Q) X.xe s
def PW.pt{X:Cx}{e:Expr}{t:TT}(h:PW X e t):PT X e t:=h _
def PA(X:Cx)(es:List Expr)(t:TA):Prop:=
 ∀(pos:Pos) (Vw:List (Addr×Obj)) (s:Sd) (σ:St) (H:Hp) (Q:List V->Hp->Prop),Inv X Vw σ H s->t σ H Q->wpAny (model X.prog X.w) X.A (spliced (backTo pos (starEach es X.env))) (AP X Vw σ Q) X.xe s
def PS(X:Cx)(st:Stmt)(t:TS):Prop:=
 ∀(Vw:List (Addr×Obj)) (s:Sd) (σ:St) (H:Hp) (D:DT),Inv X Vw σ H s->t D σ H->wpAny (model X.prog X.w) X.A (exec st X.env) (SP X Vw D) X.xe s
def BE(X:Cx)(st:List Stmt)(t:TS):Prop:=
 ∀(Vw:List (Addr×Obj)) (s:Sd) (σ:St) (H:Hp) (D:DT),Inv X Vw σ H s->t D σ H->wpAny (model X.prog X.w) X.A (execs st X.env) (SP X Vw D) X.xe s
def rQ{α:Type}{t:Sem α}{Q Q':α->Sd->Prop}{M:Model}{A:Ar}{E:Vl->Sd->Prop}{s:Sd}(h:wpAny M A t Q E s)(hQ:∀a s,Q a s->Q' a s):wpAny M A t Q' E s:=dZ h hQ λ_ _ x=>x
variable {tA tB':TT}{ta tb:TE}{pos:Pos}
section
def Ex(i:Nat):TE:=λσ H Q=>∃v,σ[i]?=some (some v)/\Q v H
def tC(v:V):TE:=λ_ H Q=>Q v H
def KS{i:Nat}{x:Str}{pos:Pos}(hN:X.N[i]?=some x)(hv:Qb X.env.scope x)(hd:yX x:=by decide)(WA:(x==("__classdict__":Str))=false:=by decide):PE X (.Name x pos) (Ex i):=by
 intro Vw s σ H Q I h;obtain⟨v,e,h⟩:=h;obtain⟨m,hn,hl⟩:=I.loc;obtain⟨u,r,l⟩:=hl i x v hN e hv;have VB:EP X Vw σ Q u s:=⟨v,H,I,r,h⟩;rcases l with⟨hk,hm⟩|⟨hk,c,hc,hcell⟩
 .exact lL (wpAny_loadName_local I.ok.kind hk hn hm VB) hd
 .rcases hk with hk|hk
  .exact lL (wpAny_loadName_cell I.ok.kind hk hc hcell VB) hd
  .exact lL (wpAny_loadName_free I.ok.kind hk hc hcell VB WA) hd
def Rg{i j pos}:PE X (.Constant (.int i) j pos) (tC (.int i)):=λ_ _ _ H _ I h=>wpAny_Constant_int ⟨.int i,H,I.tok _,⟨_,rfl⟩,h⟩
def Tf{b j pos}:PE X (.Constant (.bool b) j pos) (tC (.bl b)):=λ_ _ _ H _ I h=>Constant_bool ⟨.bl b,H,I,rfl,h⟩
def Qt{j pos}:PE X (.Constant .none j pos) (tC .mz):=λ_ _ _ H _ I h=>Constant_none ⟨.mz,H,I,rfl,h⟩
def QL{x j pos}:PE X (.Constant (.str x) j pos) (tC (.str x)):=λ_ _ _ H _ I h=>Calls.Constant_str ⟨.str x,H,I.tok _,⟨_,rfl⟩,h⟩
def Gl(X:Cx)(x:Str):Prop:=X.env.kindOf x=some .globalImplicit
def wn{E:Vl->Sd->Prop}{Vw:List (Addr×Obj)}{s:Sd}{σ:St}{H:Hp}{x:Str}{u:Vl}{pos:Pos}{Q:Vl->Sd->Prop}(I:Inv X Vw σ H s)(hg:Gl X x)(hm:X.mg x=some u)(h:Q u s) (hd:yX x:=by decide):wpAny (model X.prog X.w) X.A (eval (.Name x pos) X.env) Q E s:=
 je I.ok.kind hg (Calls.loadGlobal_global (by rw[I.ok.glob];exact I.mod.glob.keeps I.bk) hm h) hd
def xT{E:Vl->Sd->Prop}{Vw:List (Addr×Obj)}{s:Sd}{σ:St}{H:Hp}{x:Str}{u:Vl}{pos:Pos}{Q:Vl->Sd->Prop}(I:Inv X Vw σ H s)(hg:Gl X x)(hm:X.mg x=none)(hv:bootBuiltins x=some u)(h:Q u s) (hn:x≠"__name__":=by decide) (hd:yX x:=by decide):wpAny (model X.prog X.w) X.A (eval (.Name x pos) X.env) Q E s:=by
 obtain⟨mb,h1,h2⟩:=I.mod.blt;exact je I.ok.kind hg (Calls.loadGlobal_builtin (by rw[I.ok.glob];exact I.mod.glob.keeps I.bk) hm (by rw[I.ok.blt];exact h1.keeps I.bk) ((h2 x hn).trans hv) h) hd
def Ed{x:Str}{v:V}{u:Vl}{pos:Pos}(hg:Gl X x)(hm:X.mg x=some u)(r:qm v u)(hd:yX x:=by decide):PE X (.Name x pos) (tC v):=
 λ_ _ _ H _ I h=>wn I hg hm ⟨v,H,I,r,h⟩ hd
variable {a b:Expr}
def tB(t:TE):TT:=λσ H Q=>t σ H λx H1=>∃c,x=.bl c/\Q c H1
def PP{e:Expr}{t:TE}(h:PE X e t)(he:∀V9,isTrue e X.env V9=(do let v<-V9;standAt e.pos;holding [v] (truthy v)):=by intro _;rfl):PT X e (tB t):=by intro Vw s σ H Q I hw;refine isTrue_plain (rQ (h Vw s σ H _ I hw) λv s1 zz=>x5 zz λx H1 I1 r1 q1=>?_) (he _);obtain⟨d,rfl,q⟩:=q1;cases r1;exact eZ ⟨H1,I1,q⟩
variable {rest:List Expr}
def T5(t u:TT):TT:=λσ H Q=>t σ H λc H1=>if c=true then u σ H1 Q else Q false H1
def Vs(t u:TT):TT:=λσ H Q=>t σ H λc H1=>if c=true then Q true H1 else u σ H1 Q
def Uw(t:TT):TT:=λσ H Q=>t σ H λc H1=>Q (!c) H1
def OH(ha:PT X a tA):PW X (.BoolOp .And [a] pos) tA:=by
 intro wh Vw s σ H Q I h;refine isTrue_and (rQ (ha Vw s σ H Q I h) λc s1 e=>?_);cases c with
 | true=>exact isTrue_and_nil e
 | false=>exact e
def Rt(ha:PT X a tA):PW X (.BoolOp .Or [a] pos) tA:=by
 intro wh Vw s σ H Q I h;refine isTrue_or (rQ (ha Vw s σ H Q I h) λc s1 e=>?_);cases c with
 | false=>exact isTrue_or_nil e
 | true=>exact e
def Qc(ha:PT X a tA)(hb:PW X (.BoolOp .And (b::rest) pos) tB'):PW X (.BoolOp .And (a::b::rest) pos) (T5 tA tB'):=by
 intro wh Vw s σ H Q I h;refine isTrue_and (rQ (ha Vw s σ H _ I h) λc s1 ⟨H1,I1,q1⟩=>?_);cases c with
 | true=>exact hb wh Vw s1 σ H1 Q I1 q1
 | false=>exact⟨H1,I1,q1⟩
def SZ(ha:PT X a tA)(hb:PW X (.BoolOp .Or (b::rest) pos) tB'):PW X (.BoolOp .Or (a::b::rest) pos) (Vs tA tB'):=by
 intro wh Vw s σ H Q I h;refine isTrue_or (rQ (ha Vw s σ H _ I h) λc s1 ⟨H1,I1,q1⟩=>?_);cases c with
 | true=>exact⟨H1,I1,q1⟩
 | false=>exact hb wh Vw s1 σ H1 Q I1 q1
def PQ(ha:PT X a tA):PT X (.UnaryOp .Not a pos) (Uw tA):=by intro Vw s σ H Q I h;exact isTrue_not (ha Vw s σ H (λc H1=>Q (!c) H1) I h)
def S5(ta tb:TE):TE:=λσ H Q=>ta σ H λx H1=>∃c,x=.bl c/\if c=true then tb σ H1 Q else Q (.bl false) H1
def Ul(ta tb:TE):TE:=λσ H Q=>ta σ H λx H1=>∃c,x=.bl c/\if c=true then Q (.bl true) H1 else tb σ H1 Q
def SH(ta:TE):TE:=λσ H Q=>ta σ H λx H1=>∃c,x=.bl c/\Q (.bl (!c)) H1
def RB{op}{t:TE}(h:PE X a t):PE X (.BoolOp op [a] pos) t:=λVw s σ H Q I hw=>BoolOp_one (h Vw s σ H Q I hw)
def P8(ha:PE X a ta)(hb:PE X (.BoolOp .And (b::rest) pos) tb):PE X (.BoolOp .And (a::b::rest) pos) (S5 ta tb):=by
 intro Vw s σ H Q I h;refine BoolOp_and (rQ (ha Vw s σ H _ I h) λv s1 zz=>x5 zz λx H1 I1 r1 q1=>?_);obtain⟨c,rfl,q1⟩:=q1;cases r1;refine eZ ?_;cases c with
 | true=>exact hb Vw s1 σ H1 Q I1 q1
 | false=>exact⟨.bl false,H1,I1,rfl,q1⟩
def S8(ha:PE X a ta)(hb:PE X (.BoolOp .Or (b::rest) pos) tb):PE X (.BoolOp .Or (a::b::rest) pos) (Ul ta tb):=by
 intro Vw s σ H Q I h;refine BoolOp_or (rQ (ha Vw s σ H _ I h) λv s1 zz=>x5 zz λx H1 I1 r1 q1=>?_);obtain⟨c,rfl,q1⟩:=q1;cases r1;refine eZ ?_;cases c with
 | false=>exact hb Vw s1 σ H1 Q I1 q1
 | true=>exact⟨.bl true,H1,I1,rfl,q1⟩
def RD(ha:PE X a ta):PE X (.UnaryOp .Not a pos) (SH ta):=by intro Vw s σ H Q I h;refine UnaryOp_ (rQ (ha Vw s σ H _ I h) λv s1 zz=>x5 zz λx H1 I1 r1 q1=>?_);obtain⟨c,rfl,q1⟩:=q1;cases r1;exact not_of (eZ ⟨.bl (!c),H1,I1,rfl,q1⟩)
def Vu(t:TT)(ta tb:TE):TE:=λσ H Q=>t σ H λc H1=>if c=true then ta σ H1 Q else tb σ H1 Q
def KM{c:Expr}(hc:PT X c tA)(ha:PE X a ta)(hb:PE X b tb):PE X (.IfExp c a b pos) (Vu tA ta tb):=by
 intro Vw s σ H Q I h;refine wpAny_IfExp (rQ (hc Vw s σ H _ I h) λd s1 ⟨H1,I1,q1⟩=>?_);cases d with
 | true=>exact ha Vw s1 σ H1 Q I1 q1
 | false=>exact hb Vw s1 σ H1 Q I1 q1
end
def yo(K:pX)(H:Hp)(a:Addr)(xs:List V):Prop:=
 Rd H a (.lst xs)\/
  ∃(o:Obj) (its:Array Vl) (n:Nat),K.lookup a=some o/\o.cls=.type "list"/\o.dict=none/\o.data=.seq its n/\its.size<=sizeLine/\qc xs its.toList
def ux(K:pX)(H:Hp)(a:Addr)(xs:List V):Prop:=
 Rd H a (.tup xs)\/
  ∃(o:Obj) (its:Array Vl) (n:Nat),K.lookup a=some o/\o.cls=.type "tuple"/\o.dict=none/\o.data=.seq its n/\its.size<=sizeLine/\qc xs its.toList
def UJ:Vl->Option V
 | .none=>some .mz
 | .bool b=>some (.bl b)
 | .int i _=>some (.int i)
 | .str x _=>some (.str x)
 | .bytes b _=>some (.byt b)
 | .float b _=>some (.flt b)
 | .ref a=>some (.ref a)
 | .type n=>some (.ty n)
 | _=>none
def qm.abs{x:V}{u:Vl}(r:qm x u):UJ u=some x:=by
 cases x with
 | mz=>cases r;rfl
 | bl _=>cases r;rfl
 | int _=>obtain⟨t,rfl⟩:=r;rfl
 | str _=>obtain⟨t,rfl⟩:=r;rfl
 | byt _=>obtain⟨t,rfl⟩:=r;rfl
 | flt _=>obtain⟨t,rfl⟩:=r;rfl
 | ref _=>cases r;rfl
 | ty _=>cases r;rfl
def qm.inj{x y:V}{u:Vl}(r:qm x u)(q:qm y u):x=y:=de (r.abs.symm.trans q.abs)
theorem qc.inj:∀{xs ys:List V} {us:List Vl},qc xs us->qc ys us->xs=ys
 | _,_,_,.nil,.nil=>rfl
 | _,_,_,.cons r t,.cons r' t'=>by rw[r.inj r',qc.inj t t']
variable {xs ys:List V}
section
variable {σ:St}{a:Addr}
def ux.of{K:pX}(h:H a=some (.tup xs)):ux K H a xs:=.inl (.inl h)
def Inv.list(I:Inv X Vw σ H s)(h:yo X.K H a xs):∃its:List Vl,qc xs its/\PlainL s.heap a its.toArray/\xs.length<=sizeLine:=by
 rcases h with h|⟨o,its,n,hk,hc,hd,hs,hz,r⟩
 .obtain⟨z,its,n,r,e⟩:=h.ok I.mE;exact⟨its,r,⟨_,n,e,rfl,rfl,rfl⟩,z⟩
 .refine⟨its.toList,r,⟨o,n,I.mV a o hk,hc,hd,by simpa using hs⟩,?_⟩;have e:=r.length;simp only[iQ]at e;omega
def Inv.tuple(I:Inv X Vw σ H s)(h:ux X.K H a xs):∃its:List Vl,qc xs its/\IsTup s.heap a its.toArray/\xs.length<=sizeLine:=by
 rcases h with h|⟨o,its,n,hk,hc,hd,hs,hz,r⟩
 .obtain⟨z,its,r,p⟩:=h.ok I.mE;exact⟨its,r,p.is,z⟩
 .refine⟨its.toList,r,⟨o,I.mV a o hk,hc,n,by simpa using hs⟩,?_⟩;have e:=r.length;simp only[iQ]at e;omega
def Inv.nB(I:Inv X Vw σ H s)(h:yo X.K H a xs)(h':yo X.K H a ys):xs=ys:=by
 obtain⟨its,r,⟨o,n,e,_,_,d⟩,_⟩:=I.list h;obtain⟨its',r',⟨o',n',e',_,_,d'⟩,_⟩:=I.list h';rw[e]at e';cases e';rw[d]at d';injection d' with d1 _
 have:its=its':=by simpa using eL Array.toList d1
 subst this;exact r.inj r'
def Inv.mQ(I:Inv X Vw σ H s)(h:ux X.K H a xs)(h':ux X.K H a ys):xs=ys:=by
 obtain⟨its,r,⟨o,e,_,n,d⟩,_⟩:=I.tuple h;obtain⟨its',r',⟨o',e',_,n',d'⟩,_⟩:=I.tuple h';rw[e]at e';cases e';rw[d]at d';injection d' with d1 _
 have:its=its':=by simpa using eL Array.toList d1
 subst this;exact r.inj r'
end
abbrev Cx.nk(X:Cx)(E:Vl->Sd->Prop):Cx:={X with xe:=E}
abbrev Cx.nZ(X:Cx):Cx:=X.nk λ_ _=>False
def Cx.Ok.nk{X:Cx}(ok:X.Ok)(E:Vl->Sd->Prop):(X.nk E).Ok:=
 ⟨ok.mod,ok.kind,ok.glob,ok.blt,ok.above,ok.inj,ok.has,ok.oa,ok.hd,ok.frames,ok.oh,ok.oE,ok.bs,ok.nJ,ok.nA,ok.nF,ok.m7,ok.nP⟩
def Cx.Ok.mP{X:Cx}{E:Vl->Sd->Prop}(ok:(X.nk E).Ok):X.Ok:=
 ⟨ok.mod,ok.kind,ok.glob,ok.blt,ok.above,ok.inj,ok.has,ok.oa,ok.hd,ok.frames,ok.oh,ok.oE,ok.bs,ok.nJ,ok.nA,ok.nF,ok.m7,ok.nP⟩
section
variable {σ:St}{E:Vl→Sd→Prop}
def Inv.nk(I:Inv X Vw σ H s)(E:Vl->Sd->Prop):Inv (X.nk E) Vw σ H s:=⟨I.ok.nk E,I.os,I.bare,I.base,I.loc,I.cell,I.free,I.mK,I.pin,I.mE,I.len⟩
def Inv.mP(I:Inv (X.nk E) Vw σ H s):Inv X Vw σ H s:=⟨I.ok.mP,I.os,I.bare,I.base,I.loc,I.cell,I.free,I.mK,I.pin,I.mE,I.len⟩
def SP.mP{D:DT}{f:Flow}{s':Sd}(h:SP (X.nk E) Vw D f s'):SP X Vw D f s':=by
 cases f with
 | next=>obtain⟨σ',H',I,q⟩:=h;exact⟨σ',H',I.mP,q⟩
 | brk=>obtain⟨σ',H',I,q⟩:=h;exact⟨σ',H',I.mP,q⟩
 | cont=>obtain⟨σ',H',I,q⟩:=h;exact⟨σ',H',I.mP,q⟩
 | ret u=>obtain⟨v,σ',H',I,r,q⟩:=h;exact⟨v,σ',H',I.mP,r,q⟩
def BE.nZ{st:List Stmt}{t:TS}(h:BE X.nZ st t):BE X st t:=λVw s σ H D I hw=>dZ (h Vw s σ H D (I.nk _) hw) (λ_ _ q=>q.mP) λ_ _ z=>False.elim z
end
variable {st:Stmt}{u:TS}{te:TE}
section
variable {rest:List Stmt}{t:TS}{e:Expr}
def S':TS:=λD σ H=>D.nx σ H
def TZ(t u:TS):TS:=λD σ H=>t {D with nx:=u D} σ H
def Nv:BE X [] S':=λ_ _ σ H _ I h=>gM ⟨σ,H,I,h⟩
def Ki(h1:PS X st t)(h2:BE X rest u):BE X (st::rest) (TZ t u):=by
 intro Vw s σ H D I h;refine jt (rQ (h1 Vw s σ H {D with nx:=u D} I h) λf s1 q=>?_);cases f with
 | next=>obtain⟨σ',H',I',q⟩:=q;exact h2 Vw s1 σ' H' D I' q
 | ret v=>exact q
 | brk=>exact q
 | cont=>exact q
def DH(h1:PS X st t):BE X [st] t:=by
 intro Vw s σ H D I h;refine jt (rQ (h1 Vw s σ H D I h) λf s1 q=>?_);cases f with
 | next=>exact gM q
 | ret v=>exact q
 | brk=>exact q
 | cont=>exact q
def Inv.quiet{Vw:List (Addr×Obj)}{σ:St}{H:Hp}{s:Sd}(I:Inv X Vw σ H s):interactive X.env=false:=by simp[interactive,I.ok.kind]
def Td(te:TE):TS:=λD σ H=>te σ H λ_ H1=>D.nx σ H1
def On(he:PE X e te)(hs:swapsWith e none pos.line X.env=pure false:=by rfl):PS X (.Expr e pos) (Td te):=by intro Vw s σ H D I h;exact wpAny_Expr_any (rQ (he Vw s σ H _ I h) λv s1 zz=>x5 zz λx H1 I1 r1 q1=>⟨σ,H1,I1,q1⟩) I.quiet hs
def Uv(te:TE):TS:=λD σ H=>te σ H D.rt
def Ra(he:PE X e te):PS X (.Return (some e) pos) (Uv te):=by intro Vw s σ H D I h;exact wpAny_Return_some (rQ (he Vw s σ H _ I h) λv s1 zz=>x5 zz λx H1 I1 r1 q1=>⟨x,σ,H1,I1,r1,q1⟩)
def Ua(c:TT)(t u:TS):TS:=λD σ H=>c σ H λb H1=>if b=true then t D σ H1 else u D σ H1
def RS{c:Expr}{a b:List Stmt}{tc:TT}(hc:PT X c tc)(ha:BE X a t)(hb:BE X b u):PS X (.If c a b pos) (Ua tc t u):=by
 intro Vw s σ H D I h;refine wpAny_If (rQ (hc Vw s σ H _ I h) λd s1 ⟨H1,I1,q1⟩=>?_);cases d with
 | true=>exact ha Vw s1 σ H1 D I1 q1
 | false=>exact hb Vw s1 σ H1 D I1 q1
def Qg:TS:=λ_ _ _=>False
def J3:PS X st Qg:=λ_ _ _ _ _ _ h=>h.elim
end
abbrev TG:=V->St->Hp->(St->Hp->Prop)->Prop
abbrev Oe:=List V->St->Hp->(St->Hp->Prop)->Prop
def PG(X:Cx)(V4:Expr)(t:TG):Prop:=
 ∀(Vw:List (Addr×Obj)) (s:Sd) (σ:St) (H:Hp) (v:V) (u:Vl) (Q:St->Hp->Prop),Inv X Vw σ H s->qm v u->t v σ H Q->
  wpAny (model X.prog X.w) X.A (assign V4 X.env u) (λ_ s'=>∃σ' H',Inv X Vw σ' H' s'/\Q σ' H') X.xe s
def ME(X:Cx)(ts:List Expr)(t:Oe):Prop:=
 ∀(Vw:List (Addr×Obj)) (s:Sd) (σ:St) (H:Hp) (vs:List V) (us:List Vl) (Q:St->Hp->Prop),Inv X Vw σ H s->qc vs us->t vs σ H Q->
  wpAny (model X.prog X.w) X.A (assignInOrder ((assignEach ts X.env).map (·.2)) us) (λ_ s'=>∃σ' H',Inv X Vw σ' H' s'/\Q σ' H') X.xe s
abbrev Q0:=V->V->V->Hp->(Hp->Prop)->Prop
def Sn(X:Cx)(t:Q0):Prop:=
 ∀(Vw:List (Addr×Obj)) (s:Sd) (σ:St) (H:Hp) (o i v:V) (ov iv u:Vl) (Q:Hp->Prop),Inv X Vw σ H s->qm o ov->qm i iv->qm v u->t o i v H Q->
  wpAny (model X.prog X.w) X.A (setItem ov iv u) (λ_ s'=>∃H',Inv X Vw σ H' s'/\Q H') X.xe s
def Io(i:Nat):TG:=λv σ H Q=>Q (σ.set i (some v)) H
def OI{i:Nat}{x:Str}(hN:X.N.Nodup)(hi:X.N[i]?=some x)(hx:JX X.env.scope x)(hf:JW X x:=by first|exact .inl rfl|exact .inr rfl|assumption):PG X (.Name x pos) (Io i):=by intro Vw s σ H v u Q I r h;exact kS (wF I hN hi hx r (λs' I'=>⟨_,H,I',h⟩) hf)
def Uc:Oe:=λvs σ H Q=>vs=[]/\Q σ H
def Sm(t:TG)(u:Oe):Oe:=λvs σ H Q=>∃v r,vs=v::r/\t v σ H λσ' H'=>u r σ' H' Q
def Nb:ME X [] Uc:=by intro Vw s σ H vs us Q I r h;obtain⟨e,h⟩:=h;subst e;cases r;exact assignInOrder_nil ⟨σ,H,I,h⟩
def J4{e:Expr}{es:List Expr}{t:TG}{u:Oe}(h1:PG X e t)(h2:ME X es u) (hs:(assignEach (e::es) X.env).map (·.2)=assign e X.env::(assignEach es X.env).map (·.2):=by rfl):ME X (e::es) (Sm t u):=by
 intro Vw s σ H vs us Q I r h;obtain⟨v,vr,e1,h⟩:=h;subst e1;cases r with
 | cons r rr=>rw[hs];refine assignInOrder_cons (rQ (h1 Vw s σ H _ _ _ I r h) λ_ s1 ⟨σ1,H1,I1,q1⟩=>?_);exact h2 Vw s1 σ1 H1 _ _ Q I1 rr q1
def Ue(K:pX)(n:Nat)(t:Oe):TG:=λv σ H Q=>∃a xs,v=.ref a/\ux K H a xs/\xs.length=n/\t xs σ H Q
def Qn{es:List Expr}{k:Nat}{t:Oe}{n:Nat}(hc:X.calm=true)(h:ME X es t) (hn:(assignEach es X.env).length=n:=by rfl) (VS:(assignEach es X.env).findIdx? (·.1)=none:=by rfl):PG X (.Tuple es k pos) (Ue X.K n t):=by
 intro Vw s σ H v u Q I r hw;obtain⟨a,xs,e1,hq,hl,hw⟩:=hw;subst e1;cases r;obtain⟨its,rv,ht,hz⟩:=I.tuple hq;refine assign_Tuple_tuple (I.ok.hd hc) ht (by simp[hn,<-hl,rv.length]) VS λh' hx=>?_;have I1:Inv X Vw σ H {s with heap:=h'}:=I.kept (t':=s.toks) λb o e=>hx b o (dE (dq e)) e;exact h Vw _ σ H xs _ Q I1 (by simpa using rv) hw
def TX(to ti:TE)(t:Q0):TG:=λv σ H Q=>to σ H λo H1=>ti σ H1 λi H2=>t o i v H2 λH3=>Q σ H3
def Qk{o i:Expr}{to ti:TE}{t:Q0}(ho:PE X o to)(hi:PE X i ti)(hs:Sn X t) (ha:∀v,assign (.Subscript o i pos) X.env v=(do
   let ov<-holding [v] (eval o X.env);let iv<-holding [v,ov] (eval i X.env)
   standAt pos
   holding [v,ov,iv] (setItem ov iv v)
   release [v,ov,iv] []):=by intro _;rfl):PG X (.Subscript o i pos) (TX to ti t):=by
 intro Vw s σ H v u Q I r h;rw[ha];refine cR (d9 (rQ (ho Vw s σ H _ I h) λov s1 zz=>x5 zz λx H1 I1 r1 q1=>?_));refine cR (d9 (rQ (hi Vw s1 σ H1 _ I1 q1) λiv s2 zz=>x5 zz λy H2 I2 r2 q2=>?_));refine cR (gK (cR (d9 (rQ (hs Vw s2 σ H2 x y v ov iv u _ I2 r1 r2 r q2) λ_ s3 ⟨H3,I3,q3⟩=>?_))));exact wpAny_release ⟨σ,H3,I3,q3⟩
def NT(te:TE)(g:TG):TS:=λD σ H=>te σ H λx H1=>g x σ H1 D.nx
def Qx{tg e:Expr}{te:TE}{g:TG}(he:PE X e te)(hg:PG X tg g)(hs:swapsWithSole [tg] e pos.line X.env=pure false:=by rfl)(hw:swappedStores [tg] e X.env=pure none:=by rfl)
  (h1:(assignEach [tg] X.env).map (·.2)=[assign tg X.env]:=by rfl):PS X (.Assign [tg] e pos) (NT te g):=by
 intro Vw s σ H D I h;refine wpAny_Assign_stores (rQ (he Vw s σ H _ I h) λv s1 zz=>x5 zz λx H1 I1 r1 q1=>?_) hs hw;rw[h1];exact rQ (hg Vw s1 σ H1 x v _ I1 r1 q1) λ_ s2 q=>q
def Kj{i:Nat}{x:Str}{e:Expr}{te:TE}{VF:Pos}(hN:X.N.Nodup)(hi:X.N[i]?=some x)(hx:JX X.env.scope x)(he:PE X e te)(hs:swapsWith e (some (.Name x VF)) pos.line X.env=pure false:=by rfl)(hf:JW X x:=by first|exact .inl rfl|exact .inr rfl|assumption):
  PS X (.Assign [.Name x VF] e pos) (NT te (Io i)):=by
 intro Vw s σ H D I h;refine kT (rQ (he Vw s σ H _ I h) λv s1 zz=>x5 zz λy H1 I1 r1 q1=>?_) hs;exact wF I1 hN hi hx r1 (λs2 I2=>⟨_,H1,I2,q1⟩) hf
def QU(c:TT)(tb:TS):TS:=λD σ H=>∃W:Nat->St->Hp->Prop,(∃m,W m σ H)/\∀m σ H,W m σ H->
 c σ H λb H1=>if b=true then ∃N:St->Hp->Prop,(∀σ' H',N σ' H'->∃m',m'<m/\W m' σ' H')/\tb {D with nx:=N,ct:=N,bk:=D.nx} σ H1 else D.nx σ H1
def K4{c:Expr}{body:List Stmt}{tc:TT}{tb:TS}(hp:PassesOwn (model X.prog X.w) X.A X.env X.xe)(hc:PT X c tc)(hb:BE X body tb):PS X (.While c body [] pos) (QU tc tb):=by
 intro Vw s σ H D I h;obtain⟨W,⟨m0,w0⟩,turn⟩:=h;refine wpAny_While (codeAny_whileLoop (λn s'=>∃σ' H',Inv X Vw σ' H' s'/\W n σ' H') ?_ m0 ⟨σ,H,I,w0⟩)
 rintro n s1 ⟨σ1,H1,I1,w1⟩
 refine gw hp (rQ (hc Vw s1 σ1 H1 _ I1 (turn n σ1 H1 w1)) λb s2 ⟨H2,I2,q2⟩=>?_);cases b with
 | true=>
  obtain⟨N,hN,q2⟩:=q2;rw[cX rfl];refine gw hp (rQ (hb Vw s2 σ1 H2 _ I2 q2) λf s3 q3=>?_);cases f with
  | next=>obtain⟨σ3,H3,I3,n3⟩:=q3;obtain⟨m',hm,w3⟩:=hN σ3 H3 n3;exact⟨m',hm,σ3,H3,I3,w3⟩
  | cont=>obtain⟨σ3,H3,I3,n3⟩:=q3;obtain⟨m',hm,w3⟩:=hN σ3 H3 n3;exact⟨m',hm,σ3,H3,I3,w3⟩
  | brk=>exact q3
  | ret v=>exact q3
 | false=>rw[cV df];exact gM ⟨σ1,H2,I2,q2⟩
structure It where
 go:Nat->Hp->Prop
 om:Nat->Hp->V->Hp->Prop
 stop:Nat->Hp->Prop
def Aj(X:Cx)(Vw:List (Addr×Obj))(H:Hp)(b:Addr):Prop:=
 H b=none/\b≠X.env.locals/\b∉X.fs/\(b∈X.ex\/X.s₀.heap.objs.size<=b)/\(∀x c,X.env.cells.lookup x=some c->c≠b)/\∀p∈X.pn++Vw,p.1≠b
def Inv.nH{X:Cx}{Vw:List (Addr×Obj)}{σ:St}{H H':Hp}{s:Sd}{b:Addr}(I:Inv X Vw σ H s)(hb:s.heap.objs.size<=b)(hn:H' b=none):Aj X Vw H' b:=by
 refine⟨hn,gH (dF I.lt hb),I.oj hb,.inr (dU I.sz hb),λx c e z=>?_,λp hp z=>?_⟩
 .obtain⟨v,q⟩:=I.cell x c e;exact absurd (dF q.lt (by rw[z];exact hb)) (eV _)
 .exact absurd (dF (dq (I.pin p hp).1) (by rw[z];exact hb)) (eV _)
structure Fx(P:Pg)(w:Wo)(K:pX)(tg:Expr)(J:It)(fp:List Addr)(it:Addr)(tn:Nat->Heap->Prop):Prop where
 mem:it∈fp
 obj:∀i h,tn i h->∀b∈fp,∃o,h.get? b=some o/\∀v,o.data≠.cell v
 keep:∀i h h',tn i h->(∀b∈fp,∀o,h.get? b=some o->h'.get? b=some o)->tn i h'
 item:∀(X:Cx),X.prog=P->X.w=w->X.K=K->X.calm=true->∀(i:Nat) (Vw:List (Addr×Obj)) (s:Sd) (σ:St) (H:Hp) (E:Vl->Sd->Prop),Inv X Vw σ H s->(∀b∈fp,Aj X Vw H b)->tn i s.heap->J.go i H->
  wpAny (model P w) X.A (pyNext (.ref it)) (λr s1=>∃u,r=some u/\
   wpAny (model P w) X.A (letOwnedTupleGo tg (.ref it) u) (λ_ s2=>∃x H',Inv X Vw σ H' s2/\qm x u/\J.om i H x H'/\tn (i+1) s2.heap/\∀b∈fp,H' b=none) E s1) E s
 done:∀(X:Cx),X.prog=P->X.w=w->X.K=K->X.calm=true->∀(i:Nat) (Vw:List (Addr×Obj)) (s:Sd) (σ:St) (H:Hp) (E:Vl->Sd->Prop),Inv X Vw σ H s->(∀b∈fp,Aj X Vw H b)->tn i s.heap->J.stop i H->
  wpAny (model P w) X.A (pyNext (.ref it)) (λr s1=>r=none/\Inv X Vw σ H s1) E s
 self:∀(A:Ar) (i:Nat) (s:Sd) (Q:Vl->Sd->Prop) (E:Vl->Sd->Prop),tn i s.heap->Q (.ref it) s->wpAny (model P w) A (pyIter (.ref it)) Q E s
abbrev TI:=St->Hp->(It->Hp->Prop)->Prop
def U8(X:Cx)(Vw:List (Addr×Obj))(σ:St)(tg:Expr)(R:It->Hp->Prop)(itv:Vl)(s2:Sd):Prop:=
 ∃(it:Addr) (fp:List Addr) (tn:Nat->Heap->Prop) (J:It) (H':Hp),itv=.ref it/\Inv X Vw σ H' s2/\Fx X.prog X.w X.K tg J fp it tn/\tn 0 s2.heap/\(∀b∈fp,Aj X Vw H' b)/\R J H'
def PI(X:Cx)(tg iter:Expr)(wi:TI):Prop:=
 ∀(Vw:List (Addr×Obj)) (s:Sd) (σ:St) (H:Hp) (R:It->Hp->Prop),Inv X Vw σ H s->wi σ H R->
  wpAny (model X.prog X.w) X.A (eval iter X.env) (λv s1=>wpAny (model X.prog X.w) X.A (pyIter v) (U8 X Vw σ tg R) X.xe s1) X.xe s
def Hv{M:Model}{A:Ar}{E:Vl->Sd->Prop}{s:Sd}{tg:Expr}{it:Addr}{u:Vl}{o:Obj}{n:String}{vs:Array Vl}{Q:Unit->Sd->Prop}(ho:s.heap.get? it=some o)(hc:o.cls=.type n)(hd:o.data=.fields vs) (hn:["enumerate","zip","dict_itemiterator","dict_reverseitemiterator","odict_iterator","itertools.zip_longest","itertools.pairwise"].contains n=false) (hQ:Q () s):wpAny M A (letOwnedTupleGo tg (.ref it) u) Q E s:=by
  unfold letOwnedTupleGo;cases tg<;>first
    | exact cY hQ
    | (cases u<;>first
        | exact cY hQ
        | (refine cR (wpAny_load ho ?_)
           rw[hc,hd];show wpAny M A (if (["enumerate","zip","dict_itemiterator","dict_reverseitemiterator","odict_iterator","itertools.zip_longest","itertools.pairwise"].contains n&&vs[0]?==some (rawInt _))=true then _ else _) Q E s;rw[cV (by intro h;rw[hn,eN]at h;cases h)];exact cY hQ))
def TM(K:pX)(a:Addr):It:=
 ⟨λi H=>∃xs x,yo K H a xs/\xs[i]?=some x,λi H x H'=>H'=H/\∀xs,yo K H a xs->xs[i]?=some x,λi H=>∃xs,yo K H a xs/\xs.length<=i⟩
def UO(K:pX)(a:Addr):It:=
 ⟨λi H=>∃xs x,ux K H a xs/\xs[i]?=some x,λi H x H'=>H'=H/\∀xs,ux K H a xs->xs[i]?=some x,λi H=>∃xs,ux K H a xs/\xs.length<=i⟩
def TC(lo:Int)(n:Nat):It:=⟨λi _=>i<n,λi H x H'=>H'=H/\x=.int (lo+i),λi _=>n<=i⟩
def Jn{P:Pg}{w:Wo}{K:pX}{tg:Expr}(a it:Addr):Fx P w K tg (TM K a) [it] it (λi h=>h.IsListIter it a i) where
 mem:=by simp
 obj:=λi h st b hb=>by
  have e:b=it:=by simpa using hb
  subst e;obtain⟨o,e,c,d⟩:=st;exact⟨o,e,λv z=>by rw[d]at z;cases z⟩
 keep:=λi h h' st k=>st.at λo e=>k it (by simp) o e
 item:=by intro X hP hw hK hc i Vw s σ H E I hf st hg;subst hP hw hK;obtain⟨xs,x,hq,hx⟩:=hg;obtain⟨its,rv,p,hz⟩:=I.list hq;obtain⟨u,hu,ru⟩:=rv.get hx;obtain⟨f0,f1,f2,f3,f4,f5⟩:=hf it (by simp);refine jS st p.isList (x:=u) (by simpa using hu) λh' WV sb=>?_;have I1:Inv X Vw σ H {s with heap:=h'}:=I.turned (t':=s.toks) (λb o hb e=>(sb.2 b hb).trans e) f0 f1 f3 f4 f5;obtain⟨o,e,c,d⟩:=id WV;exact⟨u,rfl,Hv (s:={s with heap:=h'}) e c d (by decide) ⟨x,H,I1,ru,⟨rfl,λys hy=>by rw[I.nB hy hq];exact hx⟩,WV,λb hb=>(hf b hb).1⟩⟩
 done:=by intro X hP hw hK hc i Vw s σ H E I hf st hg;subst hP hw hK;obtain⟨xs,hq,hx⟩:=hg;obtain⟨its,rv,p,hz⟩:=I.list hq;obtain⟨f0,f1,f2,f3,f4,f5⟩:=hf it (by simp);have hl:=rv.length;exact jV (I.ok.hd hc) st p.isList (by simp;omega) λh' eb=>⟨rfl,I.turned (t':=s.toks) (λb o hb e=>eb b o hb e) f0 f1 f3 f4 f5⟩
 self:=λ_ _ _ _ _ st h=>wpAny_pyIter_listiter st h
def Gu{P:Pg}{w:Wo}{K:pX}{tg:Expr}(a it:Addr):Fx P w K tg (UO K a) [it] it (λi h=>h.IsTupleIter it a i) where
 mem:=by simp
 obj:=λi h st b hb=>by
  have e:b=it:=by simpa using hb
  subst e;obtain⟨o,e,c,d⟩:=st;exact⟨o,e,λv z=>by rw[d]at z;cases z⟩
 keep:=λi h h' st k=>st.at λo e=>k it (by simp) o e
 item:=by intro X hP hw hK hc i Vw s σ H E I hf st hg;subst hP hw hK;obtain⟨xs,x,hq,hx⟩:=hg;obtain⟨its,rv,p,hz⟩:=I.tuple hq;obtain⟨u,hu,ru⟩:=rv.get hx;obtain⟨f0,f1,f2,f3,f4,f5⟩:=hf it (by simp);refine wpAny_pyNext_tuple_item st (show s.heap.IsTuple a its.toArray from p) (x:=u) (by simpa using hu) λh' WV sb=>?_;have I1:Inv X Vw σ H {s with heap:=h'}:=I.turned (t':=s.toks) (λb o hb e=>(sb.2 b hb).trans e) f0 f1 f3 f4 f5;obtain⟨o,e,c,d⟩:=id WV;exact⟨u,rfl,Hv (s:={s with heap:=h'}) e c d (by decide) ⟨x,H,I1,ru,⟨rfl,λys hy=>by rw[I.mQ hy hq];exact hx⟩,WV,λb hb=>(hf b hb).1⟩⟩
 done:=by intro X hP hw hK hc i Vw s σ H E I hf st hg;subst hP hw hK;obtain⟨xs,hq,hx⟩:=hg;obtain⟨its,rv,p,hz⟩:=I.tuple hq;obtain⟨f0,f1,f2,f3,f4,f5⟩:=hf it (by simp);have hl:=rv.length;exact wpAny_pyNext_tuple_end (I.ok.hd hc) st (show s.heap.IsTuple a its.toArray from p) (by simp;omega) λh' eb=>⟨rfl,I.turned (t':=s.toks) (λb o hb e=>eb b o hb e) f0 f1 f3 f4 f5⟩
 self:=λ_ _ _ _ _ st h=>wpAny_pyIter_tupleiter st h
def Gj{P:Pg}{w:Wo}{K:pX}{tg:Expr}(it:Addr)(lo:Int)(n:Nat):Fx P w K tg (TC lo n) [it] it (λi h=>IsRangeIter h it (lo+(i:Nat)*1) ((n:Int) - (i:Nat)) 1) where
 mem:=by simp
 obj:=λi h st b hb=>by
  have e:b=it:=by simpa using hb
  subst e;exact⟨_,st,λv z=>by
   have z':Data.fields _=Data.cell v:=z;cases z'⟩
 keep:=λi h h' st k=>k it (by simp) _ st
 item:=by intro X hP hw hK hc i Vw s σ H E I hf st hg;subst hP hw hK;obtain⟨f0,f1,f2,f3,f4,f5⟩:=hf it (by simp);have W:=Walks.range (prog:=X.prog) (w:=X.w) (I.ok.hd hc) it lo 1 n;refine W.item i s _ _ hg st λv h' tk hv WV kk=>?_;obtain⟨t,rfl⟩:=hv;have I1:Inv X Vw σ H {s with heap:=h',toks:=tk}:=I.turned (λb o hb e=>kk b o (by simpa using hb) e) f0 f1 f3 f4 f5;refine⟨_,rfl,Hv (s:={s with heap:=h',toks:=tk}) (n:="range_iterator") WV rfl rfl (by decide) ⟨.int (lo+i),H,I1,⟨t,?_⟩,⟨rfl,rfl⟩,WV,λb hb=>(hf b hb).1⟩⟩;rw[Int.mul_one]
 done:=by intro X hP hw hK hc i Vw s σ H E I hf st hg;subst hP hw hK;obtain⟨f0,f1,f2,f3,f4,f5⟩:=hf it (by simp);exact wpAny_pyNext_range_end (I.ok.hd hc) st (by have:n<=i:=hg;omega) λh' eb=>⟨rfl,I.turned (t':=s.toks) (λb o hb e=>eb b o hb e) f0 f1 f3 f4 f5⟩
 self:=λ_ _ _ _ _ st h=>wpAny_pyIter_rangeiter st h
variable {tg:Expr}
def J0{Vw:List (Addr×Obj)}{σ:St}{H:Hp}{s:Sd}{R:It->Hp->Prop}{E:Vl->Sd->Prop}{lo hi:Int}{t u v:Tok}{tk:Nat}(I:Inv X Vw σ H s)(h1:-(2 ^ 62)<=lo)(h2:lo<2 ^ 62)(h3:-(2 ^ 62)<=hi)(h4:hi<2 ^ 62) (q:R (TC lo (hi - lo).toNat) H):wpAny (model X.prog X.w) X.A (pyIter (.ref s.heap.objs.size)) (U8 X Vw σ tg R) E {s with heap:=s.heap.push {cls:=.type "range",data:=.fields #[.int lo t,.int hi u,.int 1 v]},toks:=tk}:=by
 refine wpAny_pyIter_range (IsRange.new ..) (small_one h1 h2 h3 h4) ?_;have I1:Inv X Vw σ H {s with heap:=s.heap.push {cls:=.type "range",data:=.fields #[.int lo t,.int hi u,.int 1 v]},toks:=tk}:=I.kept λb o e=>cW _ e;refine⟨(s.heap.push {cls:=.type "range",data:=.fields #[.int lo t,.int hi u,.int 1 v]}).objs.size,[(s.heap.push {cls:=.type "range",data:=.fields #[.int lo t,.int hi u,.int 1 v]}).objs.size],_,_,H,rfl,I1.kept (t':=tk) λb o e=>cW _ e,Gj _ lo (hi - lo).toNat,?_,λb hb=>?_,q⟩
 .have e1:lo+((0:Nat):Int)*1=lo:=by simp
  have e2:(((hi - lo).toNat:Nat):Int) - ((0:Nat):Int)=Builtin.Range.rangeSize lo hi 1:=by rw[rangeSize_one];split<;>omega
  show IsRangeIter _ _ (lo+((0:Nat):Int)*1) ((((hi - lo).toNat:Nat):Int) - ((0:Nat):Int)) 1;rw[e1,e2];exact dC _ rfl
 .have e:b=(s.heap.push {cls:=.type "range",data:=.fields #[.int lo t,.int hi u,.int 1 v]}).objs.size:=by simpa using hb
  subst e;exact I1.nH (c9 _) (I1.mE.fresh (c9 _))
def SX(ta:TA):TI:=λσ H R=>ta σ H λvs H1=>∃j:Int,vs=[.int j]/\-(2 ^ 62)<=j/\j<2 ^ 62/\R (TC 0 j.toNat) H1
def Ji{a:Expr}{ta:TA}{p pos:Pos}(hg:Gl X "range")(hm:X.mg "range"=none)(ha:PA X [a] ta)(hs:starEach [a] X.env=[(false,eval a X.env)]:=by rfl):PI X tg (.Call (.Name "range" p) [a] [] pos) (SX ta):=by
 intro Vw s σ H R I h;refine Call_ (xT I hg hm boot_range (fR (rQ (ha pos Vw s σ H _ I h) λus s1 zz=>x5 zz λvs H1 I1 r1 q1=>?_) hs rfl));obtain⟨j,e,q1,q2,q⟩:=q1;subst e;cases r1 with
 | cons r rr=>cases rr;obtain⟨t,rfl⟩:=r;exact call_range_1 (J0 I1 (by omega) (by omega) q1 q2 (by simpa using q))
def Uz(wi:TI)(g:TG)(tb:TS):TS:=λD σ H=>wi σ H λJ H1=>∃W:Nat->Nat->St->Hp->Prop,(∃m,W 0 m σ H1)/\∀i m σ H,W i m σ H->
 (J.stop i H/\D.nx σ H)\/(J.go i H/\∃N:St->Hp->Prop,(∀σ' H',N σ' H'->∃m',m'<m/\W (i+1) m' σ' H')/\∀x H',J.om i H x H'->g x σ H' λσ2 H2=>tb {D with nx:=N,ct:=N,bk:=D.nx} σ2 H2)
def Bz(fp:List Addr)(h:Heap):List (Addr×Obj):=fp.filterMap λb=>(h.get? b).map λo=>(b,o)
def uC{fp:List Addr}{h:Heap}{b:Addr}{o:Obj}(hb:b∈fp)(e:h.get? b=some o):(b,o)∈Bz fp h:=kF.mpr ⟨b,hb,by rw[e];rfl⟩
def JL{fp:List Addr}{h:Heap}{p:Addr×Obj}(hp:p∈Bz fp h):p.1∈fp/\h.get? p.1=some p.2:=by
 obtain⟨b,hb,e⟩:=kF.mp hp;cases q:h.get? b with
 | none=>rw[q]at e;cases e
 | some o=>rw[q]at e;have e':(b,o)=p:=de e;subst e';exact⟨hb,q⟩
def Inv.pinned{Vw:List (Addr×Obj)}{σ:St}{H:Hp}{s:Sd}{fp:List Addr}(I:Inv X Vw σ H s)(hf:∀b∈fp,Aj X Vw H b)(ho:∀b∈fp,∃o,s.heap.get? b=some o/\∀v,o.data≠.cell v):Inv X (Vw++Bz fp s.heap) σ H s:=
 I.nv λp hp=>(dR.mp hp).elim (λz=>I.pin p (eh _ z)) λz=>by obtain⟨hb,e⟩:=JL z;obtain⟨f0,f1,f2,_⟩:=hf p.1 hb;obtain⟨o,e',d⟩:=ho p.1 hb;rw[e]at e';cases e';exact⟨e,f0,f1,f2,d⟩
def Inv.mM{Vw pl:List (Addr×Obj)}{σ:St}{H:Hp}{s:Sd}(I:Inv X (Vw++pl) σ H s):Inv X Vw σ H s:=I.nv λp hp=>I.pin p (eh _ (fm _ hp))
def QG{iter:Expr}{body:List Stmt}{wi:TI}{g:TG}{tb:TS}{pos:Pos}(hp:PassesOwn (model X.prog X.w) X.A X.env X.xe)(hc:X.calm=true)(hi:PI X tg iter wi)(hg:PG X tg g)(hb:BE X body tb) (hs:∀x,foldedSetIterable iter X.env x=pure x:=by intro _;rfl):PS X (.For tg iter body [] pos) (Uz wi g tb):=by
 intro Vw s σ H D I h;refine wpAny_For (rQ (hi Vw s σ H _ I h) λv s1 h1=>rQ h1 λitv s2 h2=>?_) hs;obtain⟨it,fp,tn,J,H2,e,I2,T,VW,f2,W,⟨m0,w0⟩,turn⟩:=h2;subst e;have WN:∀{H':Hp},(∀b∈fp,H' b=none)->∀b∈fp,Aj X Vw H' b:=λhn b hb=>⟨hn b hb,(f2 b hb).2⟩;refine codeAny_forLoop_any (λn s'=>∃i σ' H',Inv X Vw σ' H' s'/\tn i s'.heap/\(∀b∈fp,H' b=none)/\W i n σ' H') ?_ m0 ⟨0,σ,H2,I2,VW,λb hb=>(f2 b hb).1,w0⟩
 rintro n s3 ⟨i,σ3,H3,I3,Wp,fr3,w3⟩
 rcases turn i n σ3 H3 w3 with⟨stop,qn⟩|⟨go,N,hN,step⟩
 .refine gw hp (rQ (T.done X rfl rfl rfl hc i Vw s3 σ3 H3 X.xe I3 (WN fr3) Wp stop) λr s4 ⟨hr,I4⟩=>?_);subst hr;exact gM ⟨σ3,H3,I4,qn⟩
 .refine gw hp (rQ (T.item X rfl rfl rfl hc i Vw s3 σ3 H3 X.xe I3 (WN fr3) Wp go) λr s4 ⟨u,hr,h4⟩=>?_);subst hr;refine gw hp (rQ h4 λ_ s5 zz=>?_);obtain⟨x,H5,I5,r5,y5,X6,fr5⟩:=zz;have I5':=I5.pinned (WN fr5) (T.obj _ _ X6);refine gw hp (rQ (hg _ s5 σ3 H5 x u _ I5' r5 (step x H5 y5)) λ_ s6 ⟨σ6,H6,I6,q6⟩=>?_);refine gw hp (rQ (hb _ s6 σ6 H6 _ I6 q6) λf s7 q7=>?_);have again:∀{σ7:St} {H7:Hp},Inv X (Vw++Bz fp s5.heap) σ7 H7 s7->N σ7 H7->∃m,m<n/\∃i σ' H',Inv X Vw σ' H' s7/\tn i s7.heap/\(∀b∈fp,H' b=none)/\W i m σ' H':=λ{σ7 H7} I7 n7=>by obtain⟨m',hm,w7⟩:=hN σ7 H7 n7;refine⟨m',hm,i+1,σ7,H7,I7.mM,T.keep _ _ _ X6 λb hb o e=>(I7.pin (b,o) (eh _ (eh _ (uC hb e)))).1,λb hb=>?_,w7⟩;obtain⟨o,e,d⟩:=T.obj _ _ X6 b hb;exact(I7.pin (b,o) (eh _ (eh _ (uC hb e)))).2.1
  cases f with
  | next=>obtain⟨σ7,H7,I7,n7⟩:=q7;exact again I7 n7
  | cont=>obtain⟨σ7,H7,I7,n7⟩:=q7;exact again I7 n7
  | brk=>obtain⟨σ7,H7,I7,q7⟩:=q7;exact⟨σ7,H7,I7.mM,q7⟩
  | ret v=>obtain⟨x7,σ7,H7,I7,r7,q7⟩:=q7;exact⟨x7,σ7,H7,I7.mM,r7,q7⟩
abbrev R2:=V->V->Hp->VK->Prop
def wO(X:Cx)(f:Vl->Vl->Sem Vl)(r:R2):Prop:=
 ∀(Vw:List (Addr×Obj)) (s:Sd) (σ:St) (H:Hp) (x y:V) (v u:Vl) (Q:VK),Inv X Vw σ H s->qm x v->qm y u->r x y H Q->
  wpAny (model X.prog X.w) X.A (f v u) (EP X Vw σ Q) X.xe s
def UC(X:Cx)(f:Vl->Sem Vl)(r:V->Hp->VK->Prop):Prop:=
 ∀(Vw:List (Addr×Obj)) (s:Sd) (σ:St) (H:Hp) (x:V) (v:Vl) (Q:VK),Inv X Vw σ H s->qm x v->r x H Q->
  wpAny (model X.prog X.w) X.A (f v) (EP X Vw σ Q) X.xe s
def xR(X:Cx)(f:Vl)(r:List V->Hp->VK->Prop):Prop:=
 ∀(Vw:List (Addr×Obj)) (s:Sd) (σ:St) (H:Hp) (xs:List V) (us:List Vl) (Q:VK),Inv X Vw σ H s->qc xs us->r xs H Q->
  wpAny (model X.prog X.w) X.A (call f us) (EP X Vw σ Q) X.xe s
def To(r:R2)(ta tb:TE):TE:=λσ H Q=>ta σ H λx H1=>tb σ H1 λy H2=>r x y H2 Q
def Vi(r:V->Hp->VK->Prop)(ta:TE):TE:=λσ H Q=>ta σ H λx H1=>r x H1 Q
def rI(C:Int->Int->Prop)(g:Int->Int->V):R2:=λx y H Q=>∃i j,x=.int i/\y=.int j/\C i j/\Q (g i j) H
def Pk(g:Int->Int->V):R2:=λx y H Q=>∃i j,x=.int i/\y=.int j/\Q (g i j) H
def rU(g:Int->V):V->Hp->VK->Prop:=λx H Q=>∃i,x=.int i/\Q (g i) H
variable {tc:TE}
section
variable {a b c:Expr}
def PY(ha:PE X a ta)(hb:PE X b tb){Vw:List (Addr×Obj)}{s:Sd}{σ:St}{H:Hp}{R:V->V->Hp->Prop}(I:Inv X Vw σ H s) (h:ta σ H λx H1=>tb σ H1 λy H2=>R x y H2) {Q:Vl->Sd->Prop} {f:Vl->Vl->Sem Vl} (hf:∀v u s2 x y H2,Inv X Vw σ H2 s2->qm x v->qm y u->R x y H2->wpAny (model X.prog X.w) X.A (f v u) Q X.xe s2):
  wpAny (model X.prog X.w) X.A (eval a X.env) (λv s₁=>wpAny (model X.prog X.w) X.A (eval b X.env) (λu s₂=>wpAny (model X.prog X.w) X.A (f v u) Q X.xe s₂) X.xe s₁) X.xe s:=by
 refine rQ (ha Vw s σ H _ I h) λv s1 zz=>x5 zz λx H1 I1 r1 q1=>?_;refine rQ (hb Vw s1 σ H1 _ I1 q1) λu s2 zz=>x5 zz λy H2 I2 r2 q2=>?_;exact hf v u s2 x y H2 I2 r1 r2 q2
def Pn{op:Operator}{r:R2}(ho:wO X (binaryOp op) r)(ha:PE X a ta)(hb:PE X b tb):PE X (.BinOp a op b pos) (To r ta tb):=by intro Vw s σ H Q I h;exact wpAny_BinOp (PY ha hb I h λv u s2 x y H2 I2 rx ry q=>ho Vw s2 σ H2 x y v u Q I2 rx ry q)
def Sx{op:UnaryOp}{r:V->Hp->VK->Prop}(ho:UC X (unaryOp op) r)(ha:PE X a ta):PE X (.UnaryOp op a pos) (Vi r ta):=by intro Vw s σ H Q I h;exact UnaryOp_ (rQ (ha Vw s σ H _ I h) λv s1 zz=>x5 zz λx H1 I1 r1 q1=>ho Vw s1 σ H1 x v Q I1 r1 q1)
def UV{f:Vl->Vl->Sem Vl}{C:Int->Int->Prop}{g:Int->Int->Int} (rule:∀(i j:Int) (t u:Tok) (s:Sd) (Q:Vl->Sd->Prop) (E:Vl->Sd->Prop),C i j->Q (.int (g i j) s.toks) {s with toks:=s.toks+1}->wpAny (model X.prog X.w) X.A (f (.int i t) (.int j u)) Q E s):
  wO X f (rI C λi j=>.int (g i j)):=by
 intro Vw s σ H x y v u Q I rx ry h;obtain⟨i,j,rfl,rfl,hc,q⟩:=h;obtain⟨t,rfl⟩:=rx;obtain⟨t',rfl⟩:=ry;exact rule i j t t' s _ _ hc ⟨.int (g i j),H,I.tok _,⟨_,rfl⟩,q⟩
def SK{f:Vl->Vl->Sem Vl}{g:Int->Int->Int} (rule:∀(i j:Int) (t u:Tok) (s:Sd) (Q:Vl->Sd->Prop) (E:Vl->Sd->Prop),Q (.int (g i j) s.toks) {s with toks:=s.toks+1}->wpAny (model X.prog X.w) X.A (f (.int i t) (.int j u)) Q E s):
  wO X f (Pk λi j=>.int (g i j)):=by
 intro Vw s σ H x y v u Q I rx ry h;obtain⟨i,j,rfl,rfl,q⟩:=h;obtain⟨t,rfl⟩:=rx;obtain⟨t',rfl⟩:=ry;exact rule i j t t' s _ _ ⟨.int (g i j),H,I.tok _,⟨_,rfl⟩,q⟩
def OU{f:Vl->Vl->Sem Vl}{g:Int->Int->Bool} (rule:∀(i j:Int) (t u:Tok) (s:Sd) (Q:Vl->Sd->Prop) (E:Vl->Sd->Prop),Q (.bool (g i j)) s->wpAny (model X.prog X.w) X.A (f (.int i t) (.int j u)) Q E s):
  wO X f (Pk λi j=>.bl (g i j)):=by
 intro Vw s σ H x y v u Q I rx ry h;obtain⟨i,j,rfl,rfl,q⟩:=h;obtain⟨t,rfl⟩:=rx;obtain⟨t',rfl⟩:=ry;exact rule i j t t' s _ _ ⟨.bl (g i j),H,I,rfl,q⟩
def S6(i j:Int):Prop:=0<j/\j<1073741824
def Cz(i j:Int):Prop:=(-(2 ^ 64)<i/\i<2 ^ 64)\/(-(2 ^ 64)<j/\j<2 ^ 64)
def Cz.ok{i j:Int}(h:Cz i j):IntMulOk i j:=by
 rcases h with⟨h1,h2⟩|⟨h1,h2⟩
 .exact .of_left (intBits_le_64 h1 h2)
 .exact .of_right (intBits_le_64 h1 h2)
def QX:wO X (binaryOp .Add) (Pk λi j=>.int (i+j)):=SK λ_ _ _ _ _ _ _ q=>add_int q
def Ry:wO X (binaryOp .Sub) (Pk λi j=>.int (i - j)):=SK λ_ _ _ _ _ _ _ q=>sub_int q
def Qd:wO X (binaryOp .Mult) (rI Cz λi j=>.int (i*j)):=UV λ_ _ _ _ _ _ _ hc q=>mul_int q hc.ok
def MN:wO X (binaryOp .FloorDiv) (rI S6 λi j=>.int (i / j)):=UV λi j _ _ _ _ _ hc q=>by have h1:(0:Int)<j:=hc.1;have h2:j<1073741824:=hc.2;exact floordiv_int (by omega) (by rw[Int.fdiv_eq_ediv_of_nonneg i (by omega)];exact q) (.inl (PyProof.noPylong_small (by omega)))
def Q9:wO X (binaryOp .Mod) (rI (λ_ j=>0<j) λi j=>.int (i % j)):=UV λi j _ _ _ _ _ hc q=>by have h1:(0:Int)<j:=hc;exact mod_int' (by omega) (by rw[Int.fmod_eq_emod_of_nonneg i (by omega)];exact q)
def Vm{f:Vl->Sem Vl}{g:Int->Int} (rule:∀(i:Int) (t:Tok) (s:Sd) (Q:Vl->Sd->Prop) (E:Vl->Sd->Prop),Q (.int (g i) s.toks) {s with toks:=s.toks+1}->wpAny (model X.prog X.w) X.A (f (.int i t)) Q E s):
  UC X f (rU λi=>.int (g i)):=by
 intro Vw s σ H x v Q I rx h;obtain⟨i,rfl,q⟩:=h;obtain⟨t,rfl⟩:=rx;exact rule i t s _ _ ⟨.int (g i),H,I.tok _,⟨_,rfl⟩,q⟩
def P0:UC X (unaryOp .USub) (rU λi=>.int (-i)):=Vm λ_ _ _ _ _ q=>neg_int q
end
section
variable {a b c:Expr}
def Hl{Vw:List (Addr×Obj)}{σ:St}{H:Hp}{s:Sd}{Q:VK}{k k':Bool}(I:Inv X Vw σ H s)(q:Q (.bl k) H)(e:k=k'):EP X Vw σ Q (.bool k') s:=by subst e;exact⟨.bl k,H,I,rfl,q⟩
def Tx:wO X (compareOp .Lt) (Pk λi j=>.bl (decide (i<j))):=OU λ_ _ _ _ _ _ _ q=>lt_int q
def R7:wO X (compareOp .LtE) (Pk λi j=>.bl (decide (i<=j))):=OU λ_ _ _ _ _ _ _ q=>le_int q
def R1:wO X (compareOp .Gt) (Pk λi j=>.bl (decide (j<i))):=OU λ_ _ _ _ _ _ _ q=>gt_int q
def Tr:wO X (compareOp .GtE) (Pk λi j=>.bl (decide (j<=i))):=OU λ_ _ _ _ _ _ _ q=>ge_int q
def IT:wO X (compareOp .In) (λx y H Q=>∃i j,x=.str i/\y=.str j/\Q (.bl (!(Builtin.Str.occurrences j i 0 j.length 1).isEmpty)) H):=by intro Vw s σ H x y v u Q I rx ry h;obtain⟨i,j,rfl,rfl,q⟩:=h;obtain⟨t,rfl⟩:=rx;obtain⟨t',rfl⟩:=ry;exact in_str (Hl I q rfl)
def P4:wO X (compareOp .Is) (λx y H Q=>y=.mz/\Q (.bl (decide (x=.mz))) H):=by
 intro Vw s σ H x y v u Q I rx ry h;obtain⟨rfl,q⟩:=h;cases ry;refine is_none_gen (Hl I q ?_);cases x<;>first
  | (cases rx;rfl)
  | (obtain⟨t,rfl⟩:=rx;rfl)
def M7:wO X (compareOp .IsNot) (λx y H Q=>y=.mz/\Q (.bl (!decide (x=.mz))) H):=by
 intro Vw s σ H x y v u Q I rx ry h;obtain⟨rfl,q⟩:=h;cases ry;refine isnot_none_gen (Hl I q ?_);cases x<;>first
  | (cases rx;rfl)
  | (obtain⟨t,rfl⟩:=rx;rfl)
def Gi(b:Expr){op:CmpOp}(h:op≠.In:=by decide)(h2:op≠.NotIn:=by decide):behindInMarks op b=false:=by
 have e1:(op==CmpOp.In)=false:=by cases op<;>first|rfl|exact absurd rfl h
 have e2:(op==CmpOp.NotIn)=false:=by cases op<;>first|rfl|exact absurd rfl h2
 cases b<;>simp[behindInMarks,e1,e2]
def HQ{op:CmpOp}{r:R2}(ho:wO X (compareOp op) r)(ha:PE X a ta)(hb:PE X b tb)(hm:behindInMarks op b=false):PE X (.Compare a [op] [b] pos) (To r ta tb):=by intro Vw s σ H Q I h;exact wpAny_Compare1 (PY ha hb I h λv u s2 x y H2 I2 rx ry q=>ho Vw s2 σ H2 x y v u Q I2 rx ry q) hm
def Pq(t:TE):TT:=λσ H Q=>t σ H λx H'=>∃k,x=.bl k/\Q k H'
def Hy{op:CmpOp}{r:R2}(ho:wO X (compareOp op) r)(ha:PE X a ta)(hb:PE X b tb)(hm:behindInMarks op b=false):PT X (.Compare a [op] [b] pos) (Pq (To r ta tb)):=by
 intro Vw s σ H Q I h;refine wpAny_isTrue_Compare1 (rQ (ha Vw s σ H _ I h) λv s1 zz=>x5 zz λx H1 I1 r1 q1=>rQ (hb Vw s1 σ H1 _ I1 q1) λu s2 zz=>x5 zz λy H2 I2 r2 q2=>
  rQ (ho Vw s2 σ H2 x y v u _ I2 r1 r2 q2) λc s3 zz=>?_) hm
 obtain⟨z,H3,I3,r3,k,e,q3⟩:=zz;subst e;cases r3;exact eZ ⟨H3,I3,q3⟩
def Kk(r r':R2)(ta tb tc:TE):TE:=λσ H Q=>ta σ H λx H1=>tb σ H1 λy H2=>r x y H2 λz H3=>∃k,z=.bl k/\
 (if k=true then tc σ H3 λw' H4=>r' y w' H4 Q else Q (.bl false) H3)
def KN{op Ws:CmpOp}{r r':R2}(ho:wO X (compareOp op) r)(Wg:wO X (compareOp Ws) r')(ha:PE X a ta)(hb:PE X b tb)(hc:PE X c tc) (hm:lastMarks [op,Ws] [b,c]=false:=by with_unfolding_all rfl):PE X (.Compare a [op,Ws] [b,c] pos) (Kk r r' ta tb tc):=by
 intro Vw s σ H Q I h;refine Compare_chain (rQ (ha Vw s σ H _ I h) λv s1 zz=>x5 zz λx H1 I1 r1 q1=>chain_link (rQ (hb Vw s1 σ H1 _ I1 q1) λu s2 zz=>x5 zz λy H2 I2 r2 q2=>
  rQ (ho Vw s2 σ H2 x y v u _ I2 r1 r2 q2) λd s3 zz=>?_)) hm
 obtain⟨z,H3,I3,r3,k,e,q3⟩:=zz;subst e;cases r3;refine eZ ?_;cases k with
 | false=>exact ite_ff ⟨.bl false,H3,I3,rfl,q3⟩
 | true=>exact ite_tt (chain_last (rQ (hc Vw s3 σ H3 _ I3 q3) λw' s4 zz=>x5 zz λz' H4 I4 r4 q4=>Wg Vw s4 σ H4 y z' u w' Q I4 r2 r4 q4))
def L9{op Ws:CmpOp}{r r':R2}(ho:wO X (compareOp op) r)(Wg:wO X (compareOp Ws) r')(ha:PE X a ta)(hb:PE X b tb)(hc:PE X c tc) (hm:lastMarks [op,Ws] [b,c]=false:=by with_unfolding_all rfl):PT X (.Compare a [op,Ws] [b,c] pos) (Pq (Kk r r' ta tb tc)):=by
 intro Vw s σ H Q I h;refine isTrue_chain (rQ (ha Vw s σ H _ I h) λv s1 zz=>x5 zz λx H1 I1 r1 q1=>test_link (rQ (hb Vw s1 σ H1 _ I1 q1) λu s2 zz=>x5 zz λy H2 I2 r2 q2=>
  rQ (ho Vw s2 σ H2 x y v u _ I2 r1 r2 q2) λd s3 zz=>?_)) hm
 obtain⟨z,H3,I3,r3,k,e,q3⟩:=zz;subst e;cases r3;refine eZ ?_;cases k with
 | false=>obtain⟨k',e',q'⟩:=q3;cases e';exact ite_ff ⟨H3,I3,q'⟩
 | true=>refine ite_tt (test_last (rQ (hc Vw s3 σ H3 _ I3 q3) λw' s4 zz=>x5 zz λz' H4 I4 r4 q4=>rQ (Wg Vw s4 σ H4 y z' u w' _ I4 r2 r4 q4) λd' s5 zz=>?_));obtain⟨z2,H5,I5,r5,k2,e2,q5⟩:=zz;subst e2;cases r5;exact eZ ⟨H5,I5,q5⟩
def yl:(sizeLine:Nat)<2 ^ 63:=by rw[dI];decide
def GY:wO X (binaryOp .Add) (λx y H Q=>∃i j,x=.str i/\y=.str j/\i.length+j.length<=sizeLine/\Q (.str (i++j)) H):=by intro Vw s σ H x y v u Q I rx ry h;obtain⟨i,j,rfl,rfl,hz,q⟩:=h;obtain⟨t,rfl⟩:=rx;obtain⟨t',rfl⟩:=ry;exact add_str (λt' tk=>⟨.str (i++j),H,I.tok _,⟨_,rfl⟩,q⟩) hz
def wA{x:V}{us:List Vl}(r:qc [x] us):∃u,us=[u]/\qm x u:=by
 cases r with
 | cons r1 r2=>cases r2;exact⟨_,rfl,r1⟩
def PN{x y:V}{us:List Vl}(r:qc [x,y] us):∃u w',us=[u,w']/\qm x u/\qm y w':=by
 cases r with
 | cons r1 r2=>
  cases r2 with
  | cons r3 r4=>cases r4;exact⟨_,_,rfl,r1,r3⟩
def IW(hc:X.calm=true):xR X (.builtin "min") (λxs H Q=>∃i j,xs=[.int i,.int j]/\Q (.int (if j<i then j else i)) H):=by
 intro Vw s σ H xs us Q I r h;obtain⟨i,j,rfl,q⟩:=h;obtain⟨u,w',rfl,⟨t,rfl⟩,⟨t',rfl⟩⟩:=PN r;refine min_two_ints (I.ok.hd hc) λh' tk k=>⟨_,H,I.kept k,?_,q⟩;by_cases hj:j<i
 .rw[cX hj,cX hj];exact⟨_,rfl⟩
 .rw[cV hj,cV hj];exact⟨_,rfl⟩
def C1:xR X (.type "int") (λxs H Q=>(∃i,xs=[.int i]/\Q (.int i) H)\/∃k,xs=[.bl k]/\Q (.int (if k then 1 else 0)) H):=by
 intro Vw s σ H xs us Q I r h;rcases h with⟨i,rfl,q⟩|⟨k,rfl,q⟩
 .obtain⟨u,rfl,t,rfl⟩:=wA r;exact call_int_int ⟨.int i,H,I,⟨_,rfl⟩,q⟩
 .obtain⟨u,rfl,r1⟩:=wA r;cases r1;exact call_int_bool ⟨.int (if k then 1 else 0),H,I.tok _,⟨_,rfl⟩,q⟩
end
structure Ha(h:Heap)(x dx C:Addr)(mA:Str->Option Vl):Prop where
 obj:h.get? x=some (W.instObj C dx)
 ns:h.Ns1 dx mA
 ne:dx≠x
def JD{h:Heap}{dx:Addr}{mA:Str->Option Vl}(n:h.Ns1 dx mA):∃od,h.get? dx=some od/\∀name,W.lookIn name od=some (mA name):=by
 obtain⟨o,es,ep,ho,hd,hk,_,hm⟩:=n;refine⟨o,ho,λname=>?_⟩;have e:=hm name;unfold nsFind findBy at e;rw[<-kG]at e;unfold W.lookIn;rw[hd];dsimp only;split
 .rename_i y q;rw[q]at e;exact eL some e
 .rename_i q;rw[q]at e;have a:es.toList.any (·.refKey)=false:=by rw[kU];intro y hy;obtain⟨z,t,hkey⟩:=hk y (j7.mp hy);simp[DictEntry.refKey,hkey]
  have a':¬es.toList.any (·.refKey)=true:=by rw[a];exact df
  rw[cV a'];exact eL some e
def Ha.look{h:Heap}{x dx C:Addr}{mA:Str->Option Vl}(I:Ha h x dx C mA):∃od,W.InstAt h x (W.instObj C dx) C (some od)/\∀name,W.lookIn name od=some (mA name):=
 let⟨od,ho,hl⟩:=JD I.ns
 ⟨od,⟨I.obj,rfl,rfl,ho⟩,hl⟩
variable {prog:Pg}{A:Ar}{K:pX}{dx C:Addr}{mA:Str→Option Vl}{name:Str}
section
variable {w:Wo}{E:Vl→Sd→Prop}{x f:Addr}{v:Vl}
def Ox{Yl:Bool}{Q:Vl->Sd->Prop}(X:K.In s.heap)(I:Ha s.heap x dx C mA)(hg:W.plainGet K C name=true)(hh:W.hasDictIn K C=true) (ha:W.findIn K (.ref C) name=some none) (hv:mA name=some v) (hv':W.handedIn v=true) (h:Q v {s with toks:=s.toks+1}):
  wpAny (model prog w) A (getAttr (.ref x) name Yl) Q E s:=by
 obtain⟨od,J,hl⟩:=I.look;exact W.get_value X J (kg hg).1 (W.findObj_own hh ha rfl (by rw[hl,hv])) hv' h
def L7{pl:Sem Bool}{Q:Vl×List Vl->Sd->Prop}(X:K.In s.heap)(I:Ha s.heap x dx C mA)(hg:W.plainGet K C name=true) (hf:W.findIn K (.ref C) name=some (some (.ref f))) (ht:W.isFn K (.ref f)=true) (hv:mA name=none) (h:Q (.ref f,[.ref x]) s):
  wpAny (model prog w) A (getMethod (.ref x) name pl) Q E s:=by
 obtain⟨od,J,hl⟩:=I.look;exact W.method_fn X J (kg hg).1 (kg hg).2 hf (fg.mp ht) (by show(W.lookIn name od).map (·.isSome)=some false;rw[hl,hv];rfl) h
def O8{ns:List Str}{Q:Unit->Sd->Prop}(X:K.In s.heap)(I:Ha s.heap x dx C mA) (hs:W.findIn K (.ref C) "__setattr__"=some (some (.builtin "object.__setattr__"))) (hp:W.plainOver K C=true) (ht:W.takerIn K C name=some none) (hh:W.hasDictIn K C=true) (hw:PySem.Within mA ns) (hsz:ns.length<=sizeLine) (h:∀h',Ha h' x dx C (λy=>if y=name then some v else mA y)->Heap.SameBut dx s.heap h'->Q () {s with heap:=h',toks:=s.toks+2}):
  wpAny (model prog w) A (setAttr (.ref x) name v) Q E s:=by
 obtain⟨od,J,hl⟩:=I.look;refine W.set_plain X J hs (W.osa_open (s:={s with toks:=s.toks+1}) (r:=none) X J hp ht λb=>?_);obtain⟨cd,hc,hd'⟩:=W.any_some hh;have hx:s.heap.get? x=some ⟨.ref C,some dx,.plain,#[]⟩:=I.obj;refine cR (cY (cR (cR (wpAny_loadPart hx (cR (lV (s:={s with toks:=s.toks+1}) (kh X hc) ?_))))));rw[hd'];refine cY (a:=some dx) (cR (cY (cR ?_)));refine wpAny_nsSet1 (s:={s with toks:=s.toks+1}) I.ns λh' Ym Xe=>?_;obtain⟨oD,esD,epD,hoD,FJ,hcD⟩:=Ym.count (PySem.Within.cons name v hw);refine cR (lw hoD (by rw[FJ];exact ly (dU hcD (by rw[dW];omega))) ?_);exact cY (h _ ⟨(Xe.2 _ (dG I.ne)).trans I.obj,Ym,I.ne⟩ Xe)
def Ky{R:Result->Sd->Prop}{vs:List Vl}{kw:List (Str×Vl)}(X:K.In s.heap)(hm:W.makesIn K C=true) (hi:W.findIn K (.ref C) "__init__"=some (some (.ref f))) (hf:W.typeIn K (.ref f)=some (.type "function")) (h:codeAny (model prog w) (A.under (.builtin "type.__call__" ⟨.ref C::vs,kw⟩)) (.call (.ref f) ⟨.ref (s.heap.objs.size+1)::vs,kw⟩) (W.InitBack (s.heap.objs.size+1) R) {s with heap:=(s.heap.push W.emptyDict).push (W.instObj C s.heap.objs.size)}):
  codeAny (model prog w) A (.call (.ref C) ⟨vs,kw⟩) R s:=by
 obtain⟨hh,g,d,t,os⟩:=s;exact W.make_core (W.makes_of X hm) (iS X hi) (λself=>W.bind_fn X self hf) (.inl rfl) h
end
def uT(f:Str)(v:V):List (Str×V)->List (Str×V)
 | []=>[(f,v)]
 | (g,x)::r=>if g=f then(g,v)::r else(g,x)::uT f v r
theorem zM(f g:Str)(v:V):∀fs:List (Str×V),(uT f v fs).lookup g=if g=f then some v else fs.lookup g
 | []=>by
  show List.lookup g [(f,v)]=_;by_cases h:g=f
  .have hb:(g==f)=true:=fg.mpr h;simp only[List.lookup,hb,cX h]
  .have hb:(g==f)=false:=fL.mpr h;simp only[List.lookup,hb,cV h]
 | (k,x)::r=>by
  have ih:=zM f g v r;rw[show uT f v ((k,x)::r)=(if k=f then(k,v)::r else(k,x)::uT f v r)from rfl];by_cases hk:k=f
  .rw[cX hk];by_cases h:g=k
   .have hb:(g==k)=true:=fg.mpr h;simp only[List.lookup,hb,cX (h.trans hk)]
   .have hb:(g==k)=false:=fL.mpr h;simp only[List.lookup,hb,cV (λe:g=f=>h (e.trans hk.symm))]
  .rw[cV hk];by_cases h:g=k
   .have hb:(g==k)=true:=fg.mpr h;simp only[List.lookup,hb,cV (λe:g=f=>hk (h.symm.trans e))]
   .have hb:(g==k)=false:=fL.mpr h;simp only[List.lookup,hb];exact ih
theorem zh(f:Str)(v:V):∀fs:List (Str×V),f∈(uT f v fs).map (·.1)/\∀g,g∈fs.map (·.1)->g∈(uT f v fs).map (·.1)
 | []=>⟨by simp[uT],λg h=>by simp at h⟩
 | (k,x)::r=>by
  obtain⟨i1,i2⟩:=zh f v r;rw[show uT f v ((k,x)::r)=(if k=f then(k,v)::r else(k,x)::uT f v r)from rfl];by_cases hk:k=f
  .rw[cX hk];subst hk;exact⟨by simp,λg h=>by simpa using h⟩
  .rw[cV hk];refine⟨?_,λg h=>?_⟩
   .rw[dQ];exact dA _ i1
   .rw[dQ]at h ⊢;rcases cZ.mp h with e|e
    .exact cZ.mpr (.inl e)
    .exact dA _ (i2 g e)
theorem zS(f:Str)(v:V):∀fs:List (Str×V),(uT f v fs).length<=fs.length+1
 | []=>by simp[uT]
 | (k,x)::r=>by
  have ih:=zS f v r;rw[show uT f v ((k,x)::r)=(if k=f then(k,v)::r else(k,x)::uT f v r)from rfl];by_cases hk:k=f
  .rw[cX hk,dW,dW];omega
  .rw[cV hk,dW,dW];omega
def xN.some_of{v:V}{o:Option Vl}(r:xN (some v) o):∃u,o=some u/\qm v u:=by
 cases o with
 | none=>exact(show False from r).elim
 | some u=>exact⟨u,rfl,r⟩
def xN.none_of{o:Option Vl}(r:xN none o):o=none:=by
 cases o with
 | none=>rfl
 | some u=>exact(show False from r).elim
def IR{v:V}{u:Vl}(r:qm v u):W.handedIn u=true:=by
 cases v with
 | mz=>cases(show u=Value.none from r);rfl
 | bl b=>cases(show u=Value.bool b from r);rfl
 | int i=>obtain⟨t,e⟩:=(show ∃t,u=Value.int i t from r);cases e;rfl
 | str x=>obtain⟨t,e⟩:=(show ∃t,u=Value.str x t from r);cases e;rfl
 | byt b=>obtain⟨t,e⟩:=(show ∃t,u=Value.bytes b t from r);cases e;rfl
 | flt b=>obtain⟨t,e⟩:=(show ∃t,u=Value.float b t from r);cases e;rfl
 | ref a=>cases(show u=Value.ref a from r);rfl
 | ty n=>cases(show u=Value.type n from r);rfl
section
variable {P:Pg}{w:Wo}{a:Addr}{fs fs':List (Str × V)}
def EH(mE:xK P w H h)(e:H a=some (.ins C dx fs)):∃mA,Ha h a dx C mA/\(∀f,xN (fs.lookup f) (mA f))/\PySem.Within mA (fs.map (·.1))/\fs.length<=1000/\H dx=some (.own a):=by obtain⟨d,z,ne,ob,mA,n,r,q⟩:=(show sf P w H h a (.ins C dx fs)from mE a _ e);exact⟨mA,⟨ob,n,ne⟩,r,q,z,d⟩
end
structure Cls(K:pX)(C:Addr):Prop where
 pg:W.plainGet K C Str.empty=true
 hd:W.hasDictIn K C=true
 po:W.plainOver K C=true
 sa:W.findIn K (.ref C) "__setattr__"=some (some (.builtin "object.__setattr__"))
def Cls.get{K:pX}{C:Addr}(c:Cls K C)(f:Str):W.plainGet K C f=true:=c.pg
def tE(K:pX)(C:Addr)(f:Str):Prop:=W.findIn K (.ref C) f=some none
def tE.oy{K:pX}{C:Addr}{f:Str}(n:tE K C f):W.takerIn K C f=some none:=by unfold W.takerIn;rw[show W.findIn K (.ref C) f=some none from n];rfl
structure Vv(K:pX)(C:Addr)(f:Str)(v:V)(u:Vl):Prop where
 at_:W.findIn K (.ref C) f=some (some u)
 rel:qm v u
 get:W.specialIn K u "__get__"=some none
 cp:W.copiedNames.contains f=false
structure uU(K:pX)(C:Addr)(m:Str)(f:Addr):Prop where
 at_:W.findIn K (.ref C) m=some (some (.ref f))
 fn:W.isFn K (.ref f)=true
 kp:W.keepIn K (.ref f)=true
section
variable {σ:St}{a:Addr}{fs:List (Str × V)}{f:Str}{v:V}{E:Vl→Sd→Prop}
def A8{b:Bool}{Q:Vl->Sd->Prop}(I:Inv X Vw σ H s)(e:H a=some (.ins C dx fs))(c:Cls X.K C)(n:tE X.K C f)(l:fs.lookup f=some v) (h:∀u s',Inv X Vw σ H s'->qm v u->Q u s'):wpAny (model X.prog X.w) A (getAttr (.ref a) f b) Q E s:=by
 obtain⟨mA,O,r,_,_,_⟩:=EH I.mE e;obtain⟨u,hu,ru⟩:=xN.some_of (v:=v) (o:=mA f) (by rw[<-l];exact r f);exact Ox I.mV O (c.get f) c.hd n hu (IR ru) (h u _ (I.tok _) ru)
def AR{m:Str}{g:Addr}{pl:Sem Bool}{Q:Vl×List Vl->Sd->Prop}(I:Inv X Vw σ H s)(e:H a=some (.ins C dx fs))(c:Cls X.K C)(k:uU X.K C m g)(l:fs.lookup m=none) (h:Q (.ref g,[.ref a]) s):wpAny (model X.prog X.w) A (getMethod (.ref a) m pl) Q E s:=by
 obtain⟨mA,O,r,_,_,_⟩:=EH I.mE e;have hn:mA m=none:=xN.none_of (by rw[<-l];exact r m);exact L7 I.mV O (c.get m) k.at_ k.fn hn h
def BD{y:V}{u:Vl}{Q:Unit->Sd->Prop}(I:Inv X Vw σ H s)(e:H a=some (.ins C dx fs))(c:Cls X.K C)(n:tE X.K C f)(hl:fs.length<1000)(ry:qm y u) (h:∀s',Inv X Vw σ (upd H a (.ins C dx (uT f y fs))) s'->Q () s'):wpAny (model X.prog X.w) A (setAttr (.ref a) f u) Q E s:=by
 obtain⟨mA,O,r,wi,_,ho⟩:=EH I.mE e;have hz:(fs.map (·.1)).length<=sizeLine:=by rw[cQ,dI];omega
 refine O8 I.mV O c.sa c.po n.oy c.hd wi hz λh' O' sb=>h _ ?_;have hd:∃o,h'.get? dx=some o:=let⟨o,_,_,e',_⟩:=O'.ns;⟨o,e'⟩;refine I.write (x:=a) (e:=dx) (by rw[e];exact True.intro) (.inr ho) (λb q hb z=>(sb.2 b hb).trans z) hd ?_;refine⟨by rw[pH O.ne];exact ho,?_,O.ne,O'.obj,_,O'.ns,λg=>?_,λg hg=>?_⟩
 .have:=zS f y fs;omega
 .show xN ((uT f y fs).lookup g) (if g=f then some u else mA g);rw[zM];by_cases q:g=f
  .rw[cX q,cX q];exact ry
  .rw[cV q,cV q];exact r g
 .by_cases q:g=f
  .rw[q];exact(zh f y fs).1
  .refine(zh f y fs).2 g (wi g λz=>hg ?_);show(if g=f then some u else mA g)=none;rw[cV q];exact z
def Inv.made(I:Inv X Vw σ H s):Inv X Vw σ (upd (upd H s.heap.objs.size (.own (s.heap.objs.size+1))) (s.heap.objs.size+1) (.ins C s.heap.objs.size [])) {s with heap:=(s.heap.push W.emptyDict).push (W.instObj C s.heap.objs.size)}:=by
 have e1:(s.heap.push W.emptyDict).get? s.heap.objs.size=some W.emptyDict:=dC s.heap rfl;have e2:((s.heap.push W.emptyDict).push (W.instObj C s.heap.objs.size)).get? (s.heap.objs.size+1)=some (W.instObj C s.heap.objs.size):=by
  have:=dC (s.heap.push W.emptyDict) (o:=W.instObj C s.heap.objs.size) rfl
  rwa [fi]at this
 have e3:(s.heap.push W.emptyDict).Ns s.heap.objs.size (λ_=>none):=⟨W.emptyDict,#[],_,e1,rfl,(λe he=>absurd he (by simp)),λ_=>rfl⟩;have I1:=I.laid (a:=s.heap.objs.size) (o:=.own (s.heap.objs.size+1)) (h':=s.heap.push W.emptyDict) (t':=s.toks) (λb u q=>cW _ q) (c9 _) ⟨_,e1⟩;refine I1.laid (a:=s.heap.objs.size+1) (o:=.ins C s.heap.objs.size []) (t':=s.toks) (λb u q=>cW _ q) (lW (fi _ _)) ?_;have ne:s.heap.objs.size≠s.heap.objs.size+1:=dE (fu _);refine⟨by rw[pH ne,pM],eQ _,ne,e2,λ_=>none,(kW e3).at λo q=>cW _ q,λ_=>True.intro,λy hy=>absurd rfl hy⟩
def HW{prog:Pg}{w:Wo}{env:Env}{e:Expr}{f:Str}{pos:Pos}{s:Sd}{Q:Vl->Sd->Prop}(hb:attributeBase e f env (eval e env)=eval e env) (h:wpAny (model prog w) A (eval e env) (λo s₁=>wpAny (model prog w) A (getAttr o f true) Q E s₁) E s):wpAny (model prog w) A (eval (.Attribute e f pos) env) Q E s:=
 Attribute_any_ h (by rw[arm_eval_Attribute,hb])
end
def TV(K:pX)(ta:TE)(f:Str):TE:=λσ H Q=>ta σ H λx H1=>∃a C dx fs v,x=.ref a/\H1 a=some (.ins C dx fs)/\Cls K C/\tE K C f/\fs.lookup f=some v/\Q v H1
def UN(K:pX)(ta tv:TE)(f:Str):TS:=λD σ H=>tv σ H λy H1=>ta σ H1 λx H2=>∃a C dx fs,x=.ref a/\H2 a=some (.ins C dx fs)/\Cls K C/\tE K C f/\fs.length<1000/\
 D.nx σ (upd H2 a (.ins C dx (uT f y fs)))
def Pd(X:Cx)(op:Operator)(rd:V->V->Hp->VK->Prop):Prop:=
 ∀(Vw:List (Addr×Obj)) (s:Sd) (σ:St) (H:Hp) (x y:V) (u v:Vl) (Q:VK),Inv X Vw σ H s->qm x u->qm y v->rd x y H Q->wpAny (model X.prog X.w) X.A (inplaceOp op u v) (EP X Vw σ Q) X.xe s
def NL(K:pX)(ta tv:TE)(rd:V->V->Hp->VK->Prop)(f:Str):TS:=λD σ H=>ta σ H λx H1=>∃a C dx fs v,x=.ref a/\H1 a=some (.ins C dx fs)/\Cls K C/\tE K C f/\fs.lookup f=some v/\
 tv σ H1 λy H2=>rd v y H2 λz H3=>∃Yn fs',H3 a=some (.ins C Yn fs')/\fs'.length<1000/\D.nx σ (upd H3 a (.ins C Yn (uT f z fs')))
variable {value:Expr}{VF XH:Pos}{tv:TE}
section
variable {o e:Expr}{f:Str}
def QH(he:PE X e ta)(hb:attributeBase e f X.env (eval e X.env)=eval e X.env):PE X (.Attribute e f pos) (TV X.K ta f):=by intro Vw s σ H Q I h;refine HW hb (rQ (he Vw s σ H _ I h) λu s1 zz=>?_);obtain⟨x,H1,I1,rx,a,C,dx,fs,v,ex,ea,c,n,l,q⟩:=zz;subst ex;obtain rfl:u=Value.ref a:=rx;exact A8 I1 ea c n l λu' s2 I2 ru=>⟨v,H1,I2,ru,q⟩
def P'(ha:PE X o ta)(hv:PE X value tv)(hs:swapsWith value (some (.Attribute o f VF)) pos.line X.env=pure false):PS X (.Assign [.Attribute o f VF] value pos) (UN X.K ta tv f):=by intro Vw s σ H D I h;refine iB (rQ (hv Vw s σ H _ I h) λu s1 zz=>x5 zz λy H1 I1 ry q=>rQ (ha Vw s1 σ H1 _ I1 q) λov s2 zz=>?_) hs;obtain⟨x,H2,I2,rx,a,C,dx,fs,ex,ea,c,n,l,q2⟩:=zz;subst ex;obtain rfl:ov=Value.ref a:=rx;exact BD I2 ea c n l ry λs3 I3=>⟨σ,_,I3,q2⟩
def JR{op:Operator}{rd:V->V->Hp->VK->Prop}(ha:PE X o ta)(hv:PE X value tv)(hop:Pd X op rd):PS X (.AugAssign (.Attribute o f XH) op value pos) (NL X.K ta tv rd f):=by intro Vw s σ H D I h;refine wpAny_AugAssign_AttributeAny (rQ (ha Vw s σ H _ I h) λov s1 zz=>?_);obtain⟨x,H1,I1,rx,a,C,dx,fs,v,ex,ea,c,n,l,q⟩:=zz;subst ex;obtain rfl:ov=Value.ref a:=rx;refine A8 I1 ea c n l λu s2 I2 ru=>rQ (hv Vw s2 σ H1 _ I2 q) λw3 s3 zz=>x5 zz λy H2 I3 ry q3=>rQ (hop Vw s3 σ H2 v y u w3 _ I3 ru ry q3) λw4 s4 zz=>?_;obtain⟨z,H3,I4,rz,Yn,fs',ea',l',q4⟩:=zz;exact BD I4 ea' c n l' rz λs5 I5=>⟨σ,_,I5,q4⟩
def UM:V->V->Hp->VK->Prop:=λx y H Q=>∃i j,x=.int i/\y=.int j/\Q (.int (i+j)) H
def TR:V->V->Hp->VK->Prop:=λx y H Q=>∃i j,x=.int i/\y=.int j/\Q (.int (i - j)) H
def P9:Pd X .Add UM:=by
 rintro Vw s σ H x y u v Q I rx ry ⟨i,j,rfl,rfl,q⟩
 obtain⟨t,rfl⟩:=(show ∃t,u=Value.int i t from rx);obtain⟨t',rfl⟩:=(show ∃t',v=Value.int j t' from ry);exact PyProof.Rows.iadd_int ⟨.int (i+j),H,I.tok _,⟨_,rfl⟩,q⟩
def RH:Pd X .Sub TR:=by
 rintro Vw s σ H x y u v Q I rx ry ⟨i,j,rfl,rfl,q⟩
 obtain⟨t,rfl⟩:=(show ∃t,u=Value.int i t from rx);obtain⟨t',rfl⟩:=(show ∃t',v=Value.int j t' from ry);exact PyProof.Rows.isub_int ⟨.int (i - j),H,I.tok _,⟨_,rfl⟩,q⟩
end
variable {Q:Vl→Sd→Prop}
section
variable {σ:St}{E:Vl→Sd→Prop}{c:Vl}{b:Bool}
inductive BO(K:pX)(H:Hp):V->Vl->Prop where
 | mz:BO K H .mz (.type "NoneType")
 | bl (x:Bool):BO K H (.bl x) (.type "bool")
 | int (i:Int):BO K H (.int i) (.type "int")
 | str (x:Str):BO K H (.str x) (.type "str")
 | flt (x:UInt64):BO K H (.flt x) (.type "float")
 | lst {a:Addr} {xs:List V} (e:H a=some (.lst xs)):BO K H (.ref a) (.type "list")
 | frz {a:Addr} {o:Obj} {xs:List V} (e:H a=some (.frz o (.lst xs))):BO K H (.ref a) (.type "list")
 | tup {a:Addr} {xs:List V} (e:H a=some (.tup xs)):BO K H (.ref a) (.type "tuple")
 | dK {a:Addr} {kvs:List (qE×V)} (e:H a=some (.dK kvs)):BO K H (.ref a) (.type "dict")
 | dT {a:Addr} {kvs:List (List qE×V)} (e:H a=some (.dT kvs)):BO K H (.ref a) (.type "dict")
 | ins {a C dx:Addr} {fs:List (Str×V)} (e:H a=some (.ins C dx fs)) (cl:Cls K C) (ha:W.findIn K (.ref C) "__class__"=some (some (.builtin "object.__class__")))
   (hn:W.specialIn K (.builtin "object.__class__") "__get__"=some (some (.builtin "getset_descriptor.__get__"))) (htk:W.takesIn K (.builtin "object.__class__")=some true)
   (hm:W.mroIn K C (.type "object")=some true):BO K H (.ref a) (.ref C)
end
structure rC(k:Nat)(A:Ar):Prop where
 hd:A.handled=none
 dp:A.depth+3*k+5<recursionLimit
 un:A.units+16*k+200<cLine
def rC.mono{j k:Nat}{A:Ar}(r:rC k A)(h:j<=k):rC j A:=⟨r.hd,by have:=r.dp;omega,by have:=r.un;omega⟩
def rC.deeper{k:Nat}{A:Ar}(r:rC (k+1) A)(env:Env):rC k (A.deeper env):=
 ⟨r.hd,by have:=r.dp;show A.depth+1+3*k+5<_;omega,by have:=r.un;show A.units+3+16*k+200<_;omega⟩
def GM{A:Ar}{C:Addr}{us:List Vl}{kw:List (Str×Vl)}:(A.under (.builtin "type.__call__" ⟨.ref C::us,kw⟩)).depth=A.depth+1:=by first|rfl|simp[Around.under,Code.weight,Code.isCreation,Code.isGuard,Code.isCaller,Code.frames,Code.isFrame,guardIds]
def Hm{A:Ar}{C:Addr}{us:List Vl}{kw:List (Str×Vl)}:(A.under (.builtin "type.__call__" ⟨.ref C::us,kw⟩)).units=A.units+1:=by first|rfl|simp[Around.under,Code.cUnits,Code.frames,Code.isFrame]
def rC.make{k:Nat}{A:Ar}(r:rC (k+1) A)(C:Addr)(us:List Vl)(kw:List (Str×Vl)):rC k (A.under (.builtin "type.__call__" ⟨.ref C::us,kw⟩)):=
 ⟨r.hd,by have:=r.dp;rw[GM];omega,by have:=r.un;rw[Hm];omega⟩
def rC.depth{k:Nat}{A:Ar}(r:rC k A):A.depth<recursionLimit:=by have:=r.dp;omega
def rC.units{k:Nat}{A:Ar}(r:rC k A):A.units+64<cLine:=by have:=r.un;omega
def Sr:TA:=λ_ H Q=>Q [] H
def RX(ta:TE)(tr:TA):TA:=λσ H Q=>ta σ H λx H1=>tr σ H1 λxs H2=>Q (x::xs) H2
variable {es:List Expr}
section
variable {e:Expr}{t:TA}
def Qo:PA X [] Sr:=λ_ _ _ _ H Q I h=>jg ⟨[],H,I,.nil,h⟩
def NB(ha:PE X e te)(hr:PA X es t)(hs:AB X e es:=by rfl):PA X (e::es) (RX te t):=by intro pos Vw s σ H Q I h;rw[hs];show wpAny _ _ (spliced ((false,eval e X.env)::backTo pos (starEach es X.env))) _ _ s;refine iX (rQ (ha Vw s σ H _ I h) λu s1 zz=>x5 zz λx H1 I1 r1 q1=>?_);exact rQ (hr pos Vw s1 σ H1 _ I1 q1) λus s2 zz=>x5 zz λxs H2 I2 r2 q2=>⟨x::xs,H2,I2,.cons r1 r2,q2⟩
def Ug(t:TA):TE:=λσ H Q=>t σ H λxs H1=>xs.length<=sizeLine/\∀p,H1 p=none->Q (.ref p) (upd H1 p (.tup xs))
def Um(t:TA):TE:=λσ H Q=>t σ H λxs H1=>xs.length<=sizeLine/\∀p,H1 p=none->Q (.ref p) (upd H1 p (.lst xs))
def Rq{x1}(h:PA X es t):PE X (.Tuple es x1 pos) (Ug t):=by intro Vw s σ H Q I hq;refine wpAny_Tuple_spliced (rQ (h pos Vw s σ H _ I hq) λus s1 ⟨xs,H1,I1,r,z,q⟩=>⟨by rw[<-r.length];exact z,?_⟩);have hf:H1 s1.heap.objs.size=none:=I1.mE.fresh (c9 _);refine⟨.ref s1.heap.objs.size,upd H1 s1.heap.objs.size (.tup xs),I1.laid (t':=s1.toks) (λb u e=>cW _ e) (c9 _) ?_,rfl,q _ hf⟩;exact⟨z,us,r,⟨_,dC _ rfl,rfl,⟨_,rfl⟩,rfl⟩⟩
def QW(h:PA X es t):PE X (.List es pos) (Um t):=by intro Vw s σ H Q I hq;refine wpAny_List_spliced (rQ (h pos Vw s σ H _ I hq) λus s1 ⟨xs,H1,I1,r,z,q⟩=>⟨by rw[<-r.length];exact z,?_⟩);have hf:H1 s1.heap.objs.size=none:=I1.mE.fresh (c9 _);refine⟨.ref s1.heap.objs.size,upd H1 s1.heap.objs.size (.lst xs),I1.laid (t':=s1.toks) (λb u e=>cW _ e) (c9 _) ?_,rfl,q _ hf⟩;exact⟨z,us,0,r,dC _ rfl⟩
end
abbrev Sp:=List V->Hp->VK->XK->Prop
abbrev JZ:=List Env->Hp->Sd->XK->Vl->Sd->Prop
structure GA(P:Pg)(w:Wo)(K:pX)(mg:Str->Option Vl)(base:Heap)(A:Ar)(outer:List Env)(s:Sd)(H:Hp):Prop where
 frames:A.frames=some outer
 mod:Mod K mg base
 bs:∀b o,base.get? b=some o->s.heap.get? b=some o/\H b=none
 nJ:base.objs.size<=s.heap.objs.size
 m7:s.heap.FunFrames base outer
 nP:∀b∈vw outer,H b=none
 mE:xK P w H s.heap
 bare:AllBare s.gens
def CE(outer:List Env)(P:Pg)(w:Wo)(H:Hp)(s:Sd)(Q:VK)(u:Vl)(s':Sd):Prop:=
 ∃v H',s'.os=s.os/\AllBare s'.gens/\Un (vw outer) [] H H' s.heap s'.heap/\xK P w H' s'.heap/\qm v u/\Q v H'
def CR(CX:JZ)(outer:List Env)(P:Pg)(w:Wo)(H:Hp)(s:Sd)(Q:VK)(E:XK)(r:Result)(s':Sd):Prop:=
 match r with
 | .ok (.ret u)=>CE outer P w H s Q u s'
 | .ok _=>False
 | .error e=>CX outer H s E e s'
structure wC(P:Pg)(w:Wo)(K:pX)(mg:Str->Option Vl)(base:Heap)(CX:JZ)(k:Nat)(f:Addr)(fd:FuncData)(ps:List Str)(sp:Sp):Prop where
 len:∀vs H Q E,sp vs H Q E->vs.length=ps.length
 run:∀(A:Ar) (outer:List Env) (s:Sd) (H:Hp) (args:Args) (us:List Vl) (vs:List V) (Q:VK) (E:XK),rC k A->GA P w K mg base A outer s H->BindsTo s fd args (ps.zip us)->qc vs us->sp vs H Q E->
  codeAny (model P w) A (.call (.ref f) args) (CR CX outer P w H s Q E) s
def GA.make{P:Pg}{w:Wo}{K:pX}{mg:Str->Option Vl}{base:Heap}{A:Ar}{outer:List Env}{s:Sd}{H:Hp}(e:GA P w K mg base A outer s H)(C:Addr)(us:List Vl)(kw:List (Str×Vl)):
  GA P w K mg base (A.under (.builtin "type.__call__" ⟨.ref C::us,kw⟩)) outer s H:=⟨by first|exact e.frames|(simpa [Around.under,Code.envs,Code.isFrame,pushEnvs]using e.frames),e.mod,e.bs,e.nJ,e.m7,e.nP,e.mE,e.bare⟩
variable {s':Sd}
section
variable {σ:St}
def Inv.nN(I:Inv X Vw σ H s):GA X.prog X.w X.K X.mg X.base X.A X.stack s H:=
 ⟨I.ok.frames,I.ok.mod,I.bs,dU I.ok.nJ I.sz,I.stack,I.ni,I.mE,I.bare⟩
def Inv.after{Q:VK}{u:Vl}(I:Inv X Vw σ H s)(h:CE X.stack X.prog X.w H s Q u s'):EP X Vw σ Q u s':=by obtain⟨v,H',os,bare,un,mE,r,q⟩:=h;obtain⟨hh,g,d,t,Yo⟩:=s';obtain rfl:Yo=s.os:=os;exact⟨v,H',I.call (h':=hh) (g':=g) (d':=d) (t':=t) (ch:=[]) un mE bare (λb z=>absurd z (by simp)),r,q⟩
end
def Sa(sp:Sp)(Wq:List V)(E:XK)(t:TA):TE:=λσ H Q=>t σ H λvs H1=>sp (vs++Wq) H1 Q E
def SO(C:Addr)(sp:Sp)(Wq:List V)(E:XK)(t:TA):TE:=λσ H Q=>t σ H λvs H1=>∀x dx,H1 x=none->H1 dx=none->dx≠x->
 sp (.ref x::(vs++Wq)) (upd (upd H1 dx (.own x)) x (.ins C dx [])) (λv H2=>v=.mz/\Q (.ref x) H2) E
def ui(K:pX)(fd:FuncData)(ps:List Str)(ds:List Vl):Prop:=
 ∀(s:Sd) (us:List Vl),K.In s.heap->(us++ds).length=ps.length->BindsTo s fd ⟨us,[]⟩ (ps.zip (us++ds))
def ui.all{K:pX}{fd:FuncData}{ps:List Str}(h:∀us:List Vl,us.length=ps.length->bindArgs fd ⟨us,[]⟩=pure (ps.zip us)):ui K fd ps []:=λs us _ hl=>by rw[eR]at hl ⊢;exact .of_eq (h us hl)
def Bu(CX:JZ)(X:Cx)(E:XK):Prop:=∀(Vw:List (Addr×Obj)) (σ:St) (H:Hp) (s:Sd) (e:Vl) (s':Sd),Inv X Vw σ H s->CX X.stack H s E e s'->X.xe e s'
variable {CX:JZ}{k:Nat}{fd:FuncData}{ps:List Str}{sp:Sp}{Wq:List V}{ds:List Vl}{m:Str}{p VA:Pos}
section
variable {f:Addr}{E:XK}{x:Str}{e o:Expr}{t:TA}
def DA{Vw:List (Addr×Obj)}{σ:St}{H:Hp}{s:Sd}{Q:VK}{us:List Vl}{vs:List V}(F:wC X.prog X.w X.K X.mg X.base CX k f fd ps sp)(hr:rC k X.A)(hb:ui X.K fd ps ds)(hd:qc Wq ds)(hx:Bu CX X E) (I:Inv X Vw σ H s) (r:qc vs us) (h:sp (vs++Wq) H Q E):wpAny (model X.prog X.w) X.A (call (.ref f) us) (EP X Vw σ Q) X.xe s:=by
 have r2:qc (vs++Wq) (us++ds):=r.append hd;have hl:(us++ds).length=ps.length:=by rw[<-r2.length];exact F.len _ _ _ _ h
 refine hG (gc (F.run X.A X.stack s H ⟨us,[]⟩ (us++ds) (vs++Wq) Q E hr I.nN (hb s us I.mV hl) r2 h) λr s' hq=>?_);cases r with
 | error e=>exact hx Vw σ H s e s' I hq
 | ok fl=>
  cases fl with
  | ret u=>exact I.after hq
  | next=>exact False.elim hq
  | brk=>exact False.elim hq
  | cont=>exact False.elim hq
def OA(F:wC X.prog X.w X.K X.mg X.base CX k f fd ps sp)(hr:rC k X.A)(hg:Gl X x)(hm:X.mg x=some (.ref f))(hk:W.keepIn X.K (.ref f)=true)(hb:ui X.K fd ps ds)(hd:qc Wq ds)(hx:Bu CX X E) (ha:PA X (e::es) t) (VQ:yX x:=by decide) (he:AB X e es:=by rfl) (VN:B0 X pos es:=by rfl):
  PE X (.Call (.Name x p) (e::es) [] pos) (Sa sp Wq E t):=by
 intro Vw s σ H Q I h;refine fZ (wn I hg hm ?_ VQ);refine iC (h₀:=X.base) I.ok.mod.nX hk (rQ (ha pos Vw s σ H _ I h) λus s1 zz=>x5 zz λvs H1 I1 r q=>⟨I1.mV,?_⟩) he VN;exact DA F hr hb hd hx I1 r q
structure Mk(K:pX)(C f:Addr):Prop where
 makes:W.makesIn K C=true
 init:W.findIn K (.ref C) "__init__"=some (some (.ref f))
 fn:W.isFn K (.ref f)=true
 kp:W.keepIn K (.ref C)=true
def KJ{Vw:List (Addr×Obj)}{σ:St}{H:Hp}{s:Sd}{Q:VK}{us:List Vl}{vs:List V}(M:Mk X.K C f)(F:wC X.prog X.w X.K X.mg X.base CX k f fd ps sp)(hr:rC (k+1) X.A)(hb:ui X.K fd ps ds)(hd:qc Wq ds) (hx:Bu CX X E) (I:Inv X Vw σ H s) (r:qc vs us) (h:∀x dx,H x=none->H dx=none->dx≠x->sp (.ref x::(vs++Wq)) (upd (upd H dx (.own x)) x (.ins C dx [])) (λv H2=>v=.mz/\Q (.ref x) H2) E):
  wpAny (model X.prog X.w) X.A (call (.ref C) us) (EP X Vw σ Q) X.xe s:=by
 have hq:=h (s.heap.objs.size+1) s.heap.objs.size (I.mE.fresh (gR _)) (I.mE.fresh (c9 _)) (dE (fu _));have I2:=Inv.made (C:=C) I;have r2:qc (V.ref (s.heap.objs.size+1)::(vs++Wq)) (Value.ref (s.heap.objs.size+1)::(us++ds)):=.cons rfl (r.append hd);have hl:(Value.ref (s.heap.objs.size+1)::us++ds).length=ps.length:=by have e:=r2.length;rw[F.len _ _ _ _ hq]at e;exact e.symm
 refine hG (Ky (f:=f) I.mV M.makes M.init (fg.mp M.fn) (gc (F.run _ X.stack _ _ ⟨Value.ref (s.heap.objs.size+1)::us,[]⟩ (Value.ref (s.heap.objs.size+1)::(us++ds)) _ _ E (hr.make C us [])
  (I2.nN.make C us []) (hb _ (Value.ref (s.heap.objs.size+1)::us) I2.mV hl) r2 hq) λr s' Xf=>?_))
 cases r with
 | error e=>exact hx Vw σ _ _ e s' I2 Xf
 | ok fl=>
  cases fl with
  | ret u=>obtain⟨v,H',I3,rv,ev,q3⟩:=I2.after Xf;subst ev;exact⟨rv,⟨V.ref (s.heap.objs.size+1),H',I3,rfl,q3⟩⟩
  | next=>exact False.elim Xf
  | brk=>exact False.elim Xf
  | cont=>exact False.elim Xf
def Ny(M:Mk X.K C f)(F:wC X.prog X.w X.K X.mg X.base CX k f fd ps sp)(hr:rC (k+1) X.A)(hg:Gl X x)(hm:X.mg x=some (.ref C))(hb:ui X.K fd ps ds)(hd:qc Wq ds)(hx:Bu CX X E) (ha:PA X (e::es) t) (VQ:yX x:=by decide) (he:AB X e es:=by rfl) (VN:B0 X pos es:=by rfl):
  PE X (.Call (.Name x p) (e::es) [] pos) (SO C sp Wq E t):=by
 intro Vw s σ H Q I h;refine fZ (wn I hg hm ?_ VQ);refine iC (h₀:=X.base) I.ok.mod.nX M.kp (rQ (ha pos Vw s σ H _ I h) λus s1 zz=>x5 zz λvs H1 I1 r q=>⟨I1.mV,?_⟩) he VN;exact KJ M F hr hb hd hx I1 r q
end
variable {g:List Vl→List Vl→List Vl}{gV:List V→List V→List V}{ks:List Str}{kpos:Pos}{kws:List Keyword}{tk:TA}{nm:Option Str}
section
variable {f:Addr}{E:XK}{x:Str}{e o:Expr}{t:TA}
structure UR(K:pX)(fd:FuncData)(ps ks:List Str)(g:List Vl->List Vl->List Vl)(gV:List V->List V->List V):Prop where
 to:∀(s:Sd) (us ws:List Vl),K.In s.heap->(g us ws).length=ps.length->BindsTo s fd ⟨us,ks.zip ws⟩ (ps.zip (g us ws))
 rel:∀{vs:List V} {us:List Vl} {zs:List V} {ws:List Vl},qc vs us->qc zs ws->qc (gV vs zs) (g us ws)
end
structure se(N P:List Str)(sc:Scope):Prop where
 kind:sc.kind=.function
 co:sc.isCoroutine=false
 gen:sc.isGenerator=false
 nd:N.Nodup
 pre:N.take P.length=P
 par:∀x∈P,sc.names.lookup x=some .local\/sc.names.lookup x=some .cell
 oF:∀y∈sc.names,y.2≠.free
theorem CQ{kindOf:Str->Option NameKind}{x:Str}:∀{binds:List (Str×Vl)} {m:Str->Option Vl},(∀v,(x,v)∉binds)->bindL kindOf binds m x=m x
 | [],_,_=>rfl
 | (n,v)::r,m,h=>by
  unfold bindL;rw[CQ λw hw=>h w (dA _ hw)];split
  .have:x≠n:=by rintro rfl;exact h v dH
   simp[this]
  .rfl
theorem Dc{kindOf:Str->Option NameKind}{x:Str}:∀{binds:List (Str×Vl)} {m:Str->Option Vl},(∀v,(x,v)∉binds)->bindC kindOf binds m x=m x
 | [],_,_=>rfl
 | (n,v)::r,m,h=>by
  unfold bindC;rw[Dc λw hw=>h w (dA _ hw)];split
  .rfl
  .have:x≠n:=by rintro rfl;exact h v dH
   simp[this]
theorem CU{kindOf:Str->Option NameKind}{x:Str}{v:Vl}:∀{P:List Str} {vs:List Vl} {i:Nat} {m:Str->Option Vl},P.Nodup->P[i]?=some x->vs[i]?=some v->kindOf x=some .local->
  bindL kindOf (P.zip vs) m x=some v
 | [],_,_,_,_,h,_,_=>by simp at h
 | _::_,[],_,_,_,_,h,_=>by simp at h
 | p::P,w::vs,0,m,nd,h1,h2,hk=>by simp at h1 h2;subst h1;subst h2;show bindL kindOf ((p,w)::P.zip vs) m p=_;unfold bindL;rw[CQ λv hv=>(dJ.mp nd).1 (jK hv).1,cX hk];simp
 | p::P,w::vs,i+1,m,nd,h1,h2,hk=>by show bindL kindOf ((p,w)::P.zip vs) m x=_;unfold bindL;exact CU (i:=i) (dJ.mp nd).2 (by simpa using h1) (by simpa using h2) hk
theorem C7{kindOf:Str->Option NameKind}{x:Str}{v:Vl}:∀{P:List Str} {vs:List Vl} {i:Nat} {m:Str->Option Vl},P.Nodup->P[i]?=some x->vs[i]?=some v->kindOf x≠some .local->
  bindC kindOf (P.zip vs) m x=some v
 | [],_,_,_,_,h,_,_=>by simp at h
 | _::_,[],_,_,_,_,h,_=>by simp at h
 | p::P,w::vs,0,m,nd,h1,h2,hk=>by simp at h1 h2;subst h1;subst h2;show bindC kindOf ((p,w)::P.zip vs) m p=_;unfold bindC;rw[Dc λv hv=>(dJ.mp nd).1 (jK hv).1,cV hk];simp
 | p::P,w::vs,i+1,m,nd,h1,h2,hk=>by show bindC kindOf ((p,w)::P.zip vs) m x=_;unfold bindC;exact C7 (i:=i) (dJ.mp nd).2 (by simpa using h1) (by simpa using h2) hk
def start(N:List Str)(vs:List V):St:=vs.map some++List.replicate (N.length - vs.length) none
def uE(CX:JZ)(P:Pg)(w:Wo)(K:pX)(mg:Str->Option Vl)(base:Heap)(N:List Str)(qual:Str)(scope:Scope)(f:Addr)(cd:Vl)(A:Ar)(outer:List Env)(s:Sd)(H:Hp)(E:XK):Cx where
 prog:=P
 w:=w
 K:=K
 mg:=mg
 base:=base
 A:=A.deeper (envOfC qual scope s.heap.objs.size f cd)
 N:=N
 s₀:=s
 H₀:=H
 env:=envOfC qual scope s.heap.objs.size f cd
 outer:=outer
 stack:=envOfC qual scope s.heap.objs.size f cd::outer
 ex:=[]
 calm:=true
 fn:=λ_=>true
 pn:=[]
 xe:=λe s'=>wpAny (model P w) (A.deeper (envOfC qual scope s.heap.objs.size f cd)) (leaving (envOfC qual scope s.heap.objs.size f cd) e) (λ_ Yp=>CX outer H s E e Yp) (λe' Yp=>CX outer H s E e' Yp) s'
def Fb{sc:Scope}{n:Nat}{x:Str}(h:sc.names.lookup x=some .cell):∃c,(cellsFrom n sc.names []).lookup x=some c:=by have q:=lz sc.names n [] (.inl h);exact ju.mp q
def JS{CX:JZ}{P:Pg}{w:Wo}{K:pX}{mg:Str->Option Vl}{base:Heap}{N ps:List Str}{qual:Str}{scope:Scope}{f:Addr}{cd:Vl}{A:Ar}{outer:List Env}{s s1:Sd}{H:Hp}{E:XK}{us:List Vl}{vs:List V} (S:se N ps scope) (hd:A.handled=none) (e0:GA P w K mg base A outer s H) (hl:vs.length=ps.length) (r:qc vs us) (x:InCallC s s.heap.objs.size (bindL (envOfC qual scope s.heap.objs.size f cd).kindOf (ps.zip us) λ_=>none) (cellsFrom (s.heap.objs.size+1) scope.names []) (bindC (envOfC qual scope s.heap.objs.size f cd).kindOf (ps.zip us) λ_=>none) s1):
  Inv (uE CX P w K mg base N qual scope f cd A outer s H E) [] (start N vs) H s1:=by
 have VN:ps.length<=N.length:=by have:=eL List.length S.pre;rw[fD]at this;omega
 obtain⟨h1,tk,rfl,hk⟩:=x.done;have noA:∀b:Addr,b∉(uE CX P w K mg base N qual scope f cd A outer s H E).ex:=λb z=>absurd (show b∈([]:List Addr)from z) (by simp);refine⟨⟨e0.mod,S.kind,rfl,rfl,c9 _,λy z c h1 h2=>?_,λy hy=>?_,λy c _ h=>?_,λ_=>hd,Around.frames_deeper e0.frames,.inr ⟨rfl,rfl⟩,λb z=>absurd z (noA b),e0.bs,e0.nJ,λb _ _=>noA b,λb z=>absurd z (noA b),e0.m7,e0.nP⟩,rfl,e0.bare,Un.kept hk,⟨_,x.toInCall.ns,λi y v h1 h2 h3=>?_⟩,λy c h=>⟨_,x.cell y c h⟩,e0.mE.fresh (c9 _),λy c h=>?_,λp hp=>absurd (show p∈([]:List (Addr×Obj))from hp) (by simp),e0.mE.kept hk,?_⟩
 .exact name_of_addr x.apart (gI h1) (gI h2)
 .have hy:scope.names.lookup y=some .cell\/scope.names.lookup y=some .free:=hy;rcases hy with hy|hy
  .exact Fb hy
  .exact absurd rfl (S.oF _ (gI hy))
 .exact kE (x.above y c (gI h))
 .have hi:i<vs.length:=by
   unfold start at h2;by_cases hi:i<vs.length
   .exact hi
   .rw[eO (by simpa using hi)]at h2;rw[jG]at h2;split at h2<;>cases h2
  have ha:vs[i]?=some v:=by
   unfold start at h2;rw[eS (by simpa using hi),dw]at h2;cases e:vs[i]? with
   | none=>rw[e]at h2;cases h2
   | some a=>rw[e]at h2;cases h2;rfl
  obtain⟨u,hu,rv⟩:=r.get ha;have hp:ps[i]?=some y:=by rw[<-S.pre,List.getElem?_take_of_lt (by omega)];exact h1
  have ndP:ps.Nodup:=by rw[<-S.pre];exact S.nd.sublist (List.take_sublist _ _)
  refine⟨u,rv,?_⟩;rcases S.par y (fO hp)with k|k
  .exact .inl ⟨k,CU ndP hp hu k⟩
  .obtain⟨c,e⟩:=Fb (n:=s.heap.objs.size+1) k;refine .inr ⟨.inl k,c,e,?_⟩;have q:=x.cell y c e;rw[C7 ndP hp hu (by show scope.names.lookup y≠_;rw[k];decide)]at q;exact q
 .exact e0.mE.fresh (kE (x.above y c (gI h)))
 .unfold start;show _=N.length;rw[cU,cQ,iy];omega
def KY{CX:JZ}{P:Pg}{w:Wo}{K:pX}{mg:Str->Option Vl}{base:Heap}{k:Nat}{f:Addr}{name qual:Str}{params:Arguments}{body:List Stmt}{scope:Scope}{dV kV We pm VG ct oc:Vl}{an od:Option Addr} {Wv:Array (Option Vl)} {N ps:List Str} {sp:Sp} (lk:K.lookup f=some ⟨oc,od,.func (W.fnOf name qual params body scope dV kV We pm an VG ct),Wv⟩) (WA:W.codeIn K VG qual=true) (S:se N ps scope) (len:∀vs H Q E,sp vs H Q E->vs.length=ps.length) (VT:∀(A:Ar) (outer:List Env) (s:Sd) (H:Hp) (vs:List V) (Q:VK) (E:XK),rC k (A.deeper (envOfC qual scope s.heap.objs.size f VG))->sp vs H Q E->
   ∃t,BE (uE CX P w K mg base N qual scope f VG A outer s H E) body t/\t {nx:=λ_ H'=>Q .mz H',rt:=Q} (start N vs) H):
  wC P w K mg base CX (k+1) f (W.fnOf name qual params body scope dV kV We pm an VG ct) ps sp:=by
 refine⟨len,λA outer s H args us vs Q E hr e0 hb r W2=>?_⟩;have hl:=len _ _ _ _ W2;have KX:K.In s.heap:=e0.mod.nX.keeps λb o e=>(e0.bs b o e).1;have lim:s.heap.NoLimit:=e0.mod.nolimit.keeps λb o e=>(e0.bs b o e).1;have hkind:∀y∈ps.zip us,scope.names.lookup y.1=some .local\/(scope.names.lookup y.1=some .cell/\((cellsFrom (s.heap.objs.size+1) scope.names []).lookup y.1).isSome=true):=λ⟨n,v⟩ hy=>by
  rcases S.par n (jK hy).1 with q|q
  .exact .inl q
  .exact .inr ⟨q,lz _ _ _ (.inl q)⟩
 refine codeAny_call_function hr.depth (KX _ _ lk) rfl S.co S.gen rfl (W.codeRec_of KX WA) (hb _ _ _ _ ?_);refine wpAny_newFunctionEnv_cells S.kind hkind λenv he s1 x=>?_;subst he;refine⟨lim.keeps x.toInCall.keep,codeAny_func ?_⟩;obtain⟨t,ht,hq⟩:=VT A outer s H vs Q E (hr.deeper _) W2;have I:Inv (uE CX P w K mg base N qual scope f VG A outer s H E) [] (start N vs) H s1:=JS S hr.hd e0 hl r x;refine dZ (ht [] s1 (start N vs) H _ I hq) (λfl s' hs=>?_) λe s' hs=>hs;have VB:∀{σ':St} {H':Hp} {v:V} {u:Vl},Inv (uE CX P w K mg base N qual scope f VG A outer s H E) [] σ' H' s'->qm v u->Q v H'->CE outer P w H s Q u s':=
  λ{σ' H' v u} J rv q=>⟨v,H',J.os,J.bare,J.base,J.mE,rv,q⟩
 cases fl with
 | ret u=>obtain⟨v,σ',H',J,rv,q⟩:=hs;exact VB J rv q
 | next=>obtain⟨σ',H',J,q⟩:=hs;exact VB (v:=V.mz) (u:=Value.none) J rfl q
 | brk=>obtain⟨_,_,_,q⟩:=hs;exact False.elim q
 | cont=>obtain⟨_,_,_,q⟩:=hs;exact False.elim q
variable {id T:String}{r:List V→Hp→VK→Prop}
section
variable {x:Str}{e:Expr}{t:TA}
def UW(r:List V->Hp->VK->Prop)(t:TA):TE:=λσ H Q=>t σ H λvs H1=>r vs H1 Q
def Ly(hc:xR X (.builtin id) r)(hg:Gl X x)(hm:X.mg x=none)(hv:bootBuiltins x=some (.builtin id))(ha:PA X (e::es) t)(hn:x≠"__name__":=by decide)(VQ:yX x:=by decide)
  (he:AB X e es:=by rfl) (VN:B0 X pos es:=by rfl):PE X (.Call (.Name x p) (e::es) [] pos) (UW r t):=by
 intro Vw s σ H Q I h;refine fZ (xT I hg hm hv ?_ hn VQ);exact iD (rQ (ha pos Vw s σ H _ I h) λus s1 zz=>x5 zz λvs H1 I1 r1 q1=>hc Vw s1 σ H1 vs us Q I1 r1 q1) he VN
def Jy(hc:xR X (.type T) r)(hg:Gl X x)(hm:X.mg x=none)(hv:bootBuiltins x=some (.type T))(ha:PA X (e::es) t)(hn:x≠"__name__":=by decide)(VQ:yX x:=by decide)
  (he:AB X e es:=by rfl) (VN:B0 X pos es:=by rfl):PE X (.Call (.Name x p) (e::es) [] pos) (UW r t):=by
 intro Vw s σ H Q I h;refine fZ (xT I hg hm hv ?_ hn VQ);exact fR (rQ (ha pos Vw s σ H _ I h) λus s1 zz=>x5 zz λvs H1 I1 r1 q1=>hc Vw s1 σ H1 vs us Q I1 r1 q1) he VN
end
end L2
namespace HT
open PySem PyProof.Rows
section
open PySem.SeqAt
open PySem.AutoSeq1 (wpAny_loadPart')
open PySem.MeetsSeq PySem.MeetsSeq2 PySem.MeetsSeq3
end
variable {prog:Pg}{w:Wo}{A:Ar}{E:Vl→Sd→Prop}{s:Sd}
def OQ{t b:Addr}{vs ws:List Vl}{Q:Vl->Sd->Prop}(ht:IsTup s.heap t vs.toArray)(hb:IsTup s.heap b ws.toArray)(hv:vs≠[]) (h1:ws=[]->Q (.ref t) s) (h2:ws≠[]->Q (.ref s.heap.objs.size) {s with heap:=s.heap.push {cls:=.type "tuple",data:=.seq (vs++ws).toArray}})
  (hsz:vs.length+ws.length<=sizeLine):wpAny (model prog w) A (binaryOp .Add (.ref t) (.ref b)) Q E s:=by
 obtain⟨⟨cls,dd,data,sl⟩,ho,hc,n,hd⟩:=id ht;obtain⟨⟨cls2,dd2,data2,sl2⟩,ho2,hc2,n2,hd2⟩:=id hb;simp only at hc hd hc2 hd2;subst hc hd hc2 hd2;have e:vs.toArray++ws.toArray=(vs++ws).toArray:=by simp
 by_cases hw:ws=[]
 .exact kH ⟨_,ho,rfl⟩ ⟨_,ho2,rfl⟩ lA seq_tuple_add jT jI (jv _ _)
   (tuple_addW1 t b vs.toArray ws.toArray n n2 dd dd2 sl sl2 (by simpa using hv) (by simp[hw])) ⟨ho,ho2,h1 hw⟩
 .refine kH ⟨_,ho,rfl⟩ ⟨_,ho2,rfl⟩ lA seq_tuple_add jT jI (jv _ _)
   (tuple_addW2 t b vs.toArray ws.toArray n n2 dd dd2 sl sl2 (by simpa using hv) (by simpa using hw) (by rw[dh,dh];exact hsz)) ⟨ho,ho2,?_⟩
  rw[e];exact h2 hw
def sj(n d:Nat):Option Int->Nat
 | none=>d
 | some v=>if v<0 then(v+(n:Int)).toNat else min v.toNat n
def Bo(n d:Nat):sj n d none=d:=rfl
def Hr(n d k:Nat):sj n d (some (k:Int))=min k n:=by show(if (k:Int)<0 then((k:Int)+(n:Int)).toNat else min (k:Int).toNat n)=min k n;rw[cV (by omega),jh]
def QK(n d:Nat)(hd:d<=n)(o:Option Int):sj n d o<=n:=by
 cases o with
 | none=>exact hd
 | some v=>
  show(if v<0 then(v+(n:Int)).toNat else min v.toNat n)<=n;by_cases hv:v<0
  .rw[cX hv];omega
  .rw[cV hv];exact Nat.min_le_right _ _
def Ho(v:Int)(n d:Nat):(if v<0 then max (v+(n:Int)) 0 else min v (n:Int))=((sj n d (some v):Nat):Int):=by
 show(if v<0 then max (v+(n:Int)) 0 else min v (n:Int))=(((if v<0 then(v+(n:Int)).toNat else min v.toNat n):Nat):Int);by_cases hv:v<0
 .simp only[cX hv];omega
 .simp only[cV hv];omega
def G7(lo hi:Option Int)(n:Nat):Builtin.Slice.sliceAdjust lo hi 1 (n:Int)=(((sj n 0 lo:Nat):Int),((sj n n hi:Nat):Int)):=by
 have h1:¬((1:Int)<0):=by omega
 unfold Builtin.Slice.sliceAdjust;simp only[h1,jw];refine Prod.ext ?_ ?_
 .cases lo with
  | none=>rfl
  | some v=>exact Ho v n 0
 .cases hi with
  | none=>rfl
  | some v=>exact Ho v n n
def GX(i j:Nat):Builtin.Slice.slicePlaces (i:Int) (j:Int) 1=j - i:=by
 unfold Builtin.Slice.slicePlaces;have h1:(1:Int)>0:=by omega
 simp only[h1,iz,Int.ediv_one];split<;>omega
def BJ{v:Vl}{o:Option Int}{Q:Option Int->Sd->Prop}(p:IsPart v o)(h:Q o s):wpAny (model prog w) A (Builtin.Slice.slicePartIndex v) Q E s:=by
 cases p with
 | none=>exact slicePart_none h
 | int i t=>exact slicePart_int h
def vJ{sl:Addr}{vl vu:Vl}{lo hi:Option Int}{n:Nat}{Q:Int×Int×Nat->Sd->Prop}(hs:s.heap.IsSliceOf sl vl vu .none)(pl:IsPart vl lo)(pu:IsPart vu hi) (h:Q (((sj n 0 lo:Nat):Int),1,sj n n hi - sj n 0 lo) s):wpAny (model prog w) A (Builtin.Slice.sliceApplied (.ref sl) (pure (n:Int))) Q E s:=by
 obtain⟨os,Yq,X7,WO⟩:=id hs;unfold Builtin.Slice.sliceApplied Builtin.Slice.sliceFields;refine cR (cR (eW Yq WO (x:=vl) rfl (cR (eW Yq WO (x:=vu) rfl (cR (eW Yq WO (x:=.none) rfl (cY ?_)))))));refine cR (slicePart_none ?_);show wpAny _ _ (if ((1:Int)==0)=true then _ else _) _ _ s;rw[cV (by decide)];refine cR (BJ pl (cR (BJ pu (cR (cY ?_)))));show wpAny _ _ (match Builtin.Slice.sliceAdjust lo hi 1 (n:Int)with|(lo,hi)=>pure (lo,(1:Int),Builtin.Slice.slicePlaces lo hi 1)) _ _ s;rw[G7 lo hi n];show wpAny _ _ (pure (((sj n 0 lo:Nat):Int),(1:Int),Builtin.Slice.slicePlaces ((sj n 0 lo:Nat):Int) ((sj n n hi:Nat):Int) 1)) _ _ s;rw[GX];exact cY h
def Kz(xs:Array Vl)(i k:Nat):((List.range k).filterMap λ(m:Nat)=>xs[((i:Int)+(m:Int)*1).toNat]?).toArray=((xs.toList.drop i).take k).toArray:=by
 have e:(λ(m:Nat)=>xs[((i:Int)+(m:Int)*1).toNat]?)=λm=>xs[i+m]?:=by
  funext m;have:((i:Int)+(m:Int)*1).toNat=i+m:=by omega
  rw[this]
 rw[e];have:=pick_run xs i k;rw[List.filterMap_map]at this;have e2:((λx=>xs[x]?)∘λx=>i+x)=λm=>xs[i+m]?:=rfl;rw[e2]at this;rw[this]
def yG{t sl:Addr}{Vx:Array Vl}{vl vu:Vl}{lo hi:Option Int}{Q:Vl->Sd->Prop}(ht:IsTup s.heap t Vx)(hs:s.heap.IsSliceOf sl vl vu .none)(pl:IsPart vl lo)(pu:IsPart vu hi) (hw:¬(sj Vx.size 0 lo=0/\sj Vx.size Vx.size hi=Vx.size)) (h:Q (.ref s.heap.objs.size) {s with heap:=s.heap.push {cls:=.type "tuple",data:=.seq ((Vx.toList.drop (sj Vx.size 0 lo)).take (sj Vx.size Vx.size hi - sj Vx.size 0 lo)).toArray}})
  (hsz:Vx.size<=sizeLine):wpAny (model prog w) A (getItem (.ref t) (.ref sl)) Q E s:=by
 have WW:sizeOk (.seq ((Vx.toList.drop (sj Vx.size 0 lo)).take (sj Vx.size Vx.size hi - sj Vx.size 0 lo)).toArray):=by show((Vx.toList.drop (sj Vx.size 0 lo)).take (sj Vx.size Vx.size hi - sj Vx.size 0 lo)).toArray.size<=sizeLine;rw[dh,fD,fX,iQ];omega
 have hj:sj Vx.size Vx.size hi<=Vx.size:=QK _ _ (c9 _) hi;obtain⟨os,Yq,X7,WO⟩:=id hs;have hTs:s.TypeIs (.ref sl) "slice":=⟨os,Yq,X7⟩;unfold getItem
 try with_reducible refine d9 ?_
 first|refine cR (cY ?_)|skip
 refine cR (ji ht.typeIs (by decide) ?_);refine cR (fC (name:=Str.ofString "__getitem__") ht.typeIs fk
  (fY fk ht.typeIs kr ?_ (kI _ _)))
 show wpAny _ _ (Builtin.Tuple.tupleItemsOf (.ref t)>>=_) _ _ s;refine cR (tupleItemsOf_ ht ?_);refine cR (jx hTs ?_);rw[cX (by decide)];refine cR (vJ hs pl pu ?_);have hno:¬((((sj Vx.size 0 lo:Nat):Int)==0&&(1:Int)==1&&(sj Vx.size Vx.size hi - sj Vx.size 0 lo)==Vx.size)=true):=by intro q;rw[dP,dP]at q;have q1:((sj Vx.size 0 lo:Nat):Int)=0:=eq_of_beq q.1.1;have q2:sj Vx.size Vx.size hi - sj Vx.size 0 lo=Vx.size:=eq_of_beq q.2;exact hw ⟨by omega,by omega⟩
 show wpAny _ _ (if (((sj Vx.size 0 lo:Nat):Int)==0&&(1:Int)==1&&(sj Vx.size Vx.size hi - sj Vx.size 0 lo)==Vx.size)=true then _ else _) _ _ s;rw[cV hno,Kz]
 first
  | exact cR (m:=Builtin.Tuple.tupleExact _) (fP (cY ⟨_,rfl,cY h⟩) WW)
  | exact cR (m:=Builtin.Tuple.tupleExact _) (fP (cR (cY (cY ⟨_,rfl,cY h⟩))) WW)
  | exact cR (cR (m:=Builtin.Tuple.tupleExact _) (fP (cY (cY ⟨_,rfl,cY h⟩)) WW))
  | exact cR (cR (m:=Builtin.Tuple.tupleExact _) (fP (cY ⟨_,rfl,cY h⟩) WW))
end HT
namespace L2
open PySem PySem.Spec PyProof.Rows
abbrev TO:=St->Hp->(Option Int->Hp->Prop)->Prop
def PO(X:Cx)(e:Option Expr)(t:TO):Prop:=
 ∀(Vw:List (Addr×Obj)) (s:Sd) (σ:St) (H:Hp) (Q:Option Int->Hp->Prop),Inv X Vw σ H s->t σ H Q->
  wpAny (model X.prog X.w) X.A (evalPart e X.env) (λu s'=>∃o H',Inv X Vw σ H' s'/\IsPart u o/\Q o H') X.xe s
def NE:TO:=λ_ H Q=>Q none H
def SG(t:TE):TO:=λσ H Q=>t σ H λx H1=>∃i,x=.int i/\Q (some i) H1
variable {X:Cx}{e:Expr}{te:TE}{lo hi:Option Expr}{tl th:TO}{pos p2:Pos}
def NR:PO X none NE:=by intro Vw s σ H Q I h;rw[evalPart_none];exact cY ⟨none,H,I,.none,h⟩
def Ng(h:PE X e te):PO X (some e) (SG te):=by intro Vw s σ H Q I hw;rw[evalPart_some];refine rQ (h Vw s σ H _ I hw) λu s1 zz=>x5 zz λx H1 I1 r1 q1=>?_;obtain⟨i,rfl,q⟩:=q1;obtain⟨t,rfl⟩:=r1;exact⟨some i,H1,I1,.int i t,q⟩
def RY(X:Cx)(r:V->Option Int->Option Int->Hp->VK->Prop):Prop:=
 ∀(Vw:List (Addr×Obj)) (s:Sd) (σ:St) (H:Hp) (x:V) (v vl vu:Vl) (lo hi:Option Int) (sl:Addr) (Q:VK),Inv X Vw σ H s->qm x v->s.heap.IsSliceOf sl vl vu .none->IsPart vl lo->IsPart vu hi->r x lo hi H Q->
  ∃T id,typeLookup (.type T) "__getitem__"=pure (some (.builtin id))/\s.TypeIs v T/\wpAny (model X.prog X.w) X.A (getItem v (.ref sl)) (EP X Vw σ Q) X.xe s
def Vp(r:V->Option Int->Option Int->Hp->VK->Prop)(te:TE)(tl th:TO):TE:=λσ H Q=>te σ H λx H1=>tl σ H1 λl H2=>th σ H2 λu H3=>r x l u H3 Q
def K6{r:V->Option Int->Option Int->Hp->VK->Prop}(hr:RY X r)(he:PE X e te)(hl:PO X lo tl)(hu:PO X hi th):PE X (.Subscript e (.Slice lo hi none p2) pos) (Vp r te tl th):=by intro Vw s σ H Q I h;refine Subscript_ (rQ (he Vw s σ H _ I h) λv s1 zz=>x5 zz λx H1 I1 r1 q1=>?_);refine wpAny_Slice (rQ (hl Vw s1 σ H1 _ I1 q1) λvl s2 zz=>x5 zz λl H2 I2 pl q2=>rQ (hu Vw s2 σ H2 _ I2 q2) λvu s3 zz=>x5 zz λu H3 I3 pu q3=>?_);rw[evalPart_none];refine cY ?_;have I4:Inv X Vw σ H3 {s3 with heap:=s3.heap.push {cls:=.type "slice",data:=.fields #[vl,vu,.none]}}:=I3.kept (t':=s3.toks) λb ob q=>cW _ q;obtain⟨T,id,hT,ht,hg⟩:=hr Vw {s3 with heap:=s3.heap.push {cls:=.type "slice",data:=.fields #[vl,vu,.none]}} σ H3 x v vl vu l u s3.heap.objs.size Q I4 r1 (mi ..) pl pu q3;show wpAny (model X.prog X.w) X.A (subscriptTail e (.Slice lo hi none p2) v (.ref s3.heap.objs.size)) (EP X Vw σ Q) X.xe {s3 with heap:=s3.heap.push {cls:=.type "slice",data:=.fields #[vl,vu,.none]}};exact tail_any (ops:=[.ref s3.heap.objs.size,v]) ht hT hg (by with_unfolding_all rfl)
def BR(xs:List V)(lo hi:Option Int):List V:=(xs.drop (HT.sj xs.length 0 lo)).take (HT.sj xs.length xs.length hi - HT.sj xs.length 0 lo)
def zL(xs:List V)(lo hi:Option Int):(BR xs lo hi).length<=xs.length:=by unfold BR;rw[fD,fX];omega
def UL(K:pX):V->Option Int->Option Int->Hp->VK->Prop:=λx lo hi H Q=>∃a xs,x=.ref a/\ux K H a xs/\
 ¬(HT.sj xs.length 0 lo=0/\HT.sj xs.length xs.length hi=xs.length)/\∀p,H p=none->Q (.ref p) (upd H p (.tup (BR xs lo hi)))
def QC:RY X (UL X.K):=by
 intro Vw s σ H x v vl vu lo hi sl Q I rx hs pl pu h;obtain⟨a,xs,rfl,hx,hw,q⟩:=h;cases rx;obtain⟨its,r,ht,hz⟩:=I.tuple hx;have VC:its.toArray.size=xs.length:=by rw[dh];exact r.length.symm
 refine⟨"tuple",_,fk.lookup,ht.typeIs,?_⟩;refine HT.yG ht hs pl pu (by rw[VC];exact hw) ?_ (by rw[VC];exact hz);rw[VC];refine⟨.ref s.heap.objs.size,_,I.laid (t':=s.toks) (o:=.tup (BR xs lo hi)) (λb ob q=>cW _ q) (c9 _) ?_,rfl,q _ (I.mE.fresh (c9 _))⟩;exact⟨dU (zL xs lo hi) hz,_,(r.drop (HT.sj xs.length 0 lo)).take (HT.sj xs.length xs.length hi - HT.sj xs.length 0 lo),DP.new _ _⟩
def SB(K:pX):R2:=λx y H Q=>∃a b xs ys,x=.ref a/\y=.ref b/\ux K H a xs/\ux K H b ys/\xs≠[]/\xs.length+ys.length<=sizeLine/\
 (ys=[]->Q (.ref a) H)/\(ys≠[]->∀p,H p=none->Q (.ref p) (upd H p (.tup (xs++ys))))
def qc.nu{xs:List V}{us:List Vl}(r:qc xs us):us=[]↔xs=[]:=by
 cases r with
 | nil=>simp
 | cons _ _=>simp
def MY:wO X (binaryOp .Add) (SB X.K):=by intro Vw s σ H x y v u Q I rx ry h;obtain⟨a,b,xs,ys,rfl,rfl,ha,hb,hx,hz,q1,q2⟩:=h;cases rx;cases ry;obtain⟨its,r1,p1,_⟩:=I.tuple ha;obtain⟨its2,r2,p2,_⟩:=I.tuple hb;refine HT.OQ p1 p2 (λz=>hx (r1.nu.mp z)) (λz=>⟨.ref a,H,I,rfl,q1 (r2.nu.mp z)⟩) (λz=>?_) (by rw[<-r1.length,<-r2.length];exact hz);refine⟨.ref s.heap.objs.size,_,I.laid (t':=s.toks) (o:=.tup (xs++ys)) (λb ob q=>cW _ q) (c9 _) ?_,rfl,q2 (λw=>z (r2.nu.mpr w)) _ (I.mE.fresh (c9 _))⟩;exact⟨by rw[cU];exact hz,_,r1.append r2,DP.new _ _⟩
def F5(n:Nat)(i:Int):Option Nat:=if 0<=i then(if i<n then some i.toNat else none)else if -(n:Int)<=i then some (i+n).toNat else none
def vL{α:Type}(xs:List α)(i:Int):Option α:=(F5 xs.length i).bind λj=>xs[j]?
def HB{n:Nat}{i:Int}{j:Nat}(h:F5 n i=some j):seqIndex? i n=some j/\j<n/\-(n:Int)<=i/\i<n:=by
 unfold F5 at h;by_cases h0:0<=i
 .rw[cX h0]at h;by_cases h1:i<n
  .rw[cX h1]at h;have e:i.toNat=j:=de h;exact⟨by rw[lj h0 h1,e],by omega,by omega,h1⟩
  .rw[cV h1]at h;cases h
 .rw[cV h0]at h;by_cases h1:-(n:Int)<=i
  .rw[cX h1]at h;have e:(i+n).toNat=j:=de h;exact⟨by rw[kK (by omega) h1,e],by omega,h1,by omega⟩
  .rw[cV h1]at h;cases h
def Dw{α:Type}{xs:List α}{i:Int}{v:α}(h:vL xs i=some v):∃j,seqIndex? i xs.length=some j/\xs[j]?=some v/\j<xs.length/\-(xs.length:Int)<=i/\i<xs.length:=by
 unfold vL at h;cases e:F5 xs.length i with
 | none=>rw[e]at h;cases h
 | some j=>rw[e]at h;obtain⟨h1,h2,h3,h4⟩:=HB e;exact⟨j,h1,h,h2,h3,h4⟩
def uz{α:Type}{xs:List α}{j:Nat}{v:α}(h:xs[j]?=some v):vL xs (j:Int)=some v:=by
 have hj:j<xs.length:=(cT.mp h).1;have e:F5 xs.length (j:Int)=some j:=by unfold F5;rw[cX (by omega),cX (by omega)];simp
 unfold vL;rw[e];exact h
def AA(b:Expr):Prop:=∀o i,subscripted b false o i=operate [o,i] (getItem o i)
def RN(X:Cx)(r:R2):Prop:=
 ∀(value VJ:Expr) (Vw:List (Addr×Obj)) (s:Sd) (σ:St) (H:Hp) (x y:V) (v u:Vl) (Q:VK),Inv X Vw σ H s->qm x v->qm y u->r x y H Q->
  subscripted VJ false v u=operate [v,u] (getItem v u)->wpAny (model X.prog X.w) X.A (subscriptTail value VJ v u) (EP X Vw σ Q) X.xe s
def Vd(X:Cx)(id:String)(r:V->List V->Hp->VK->Prop):Prop:=
 ∀(Vw:List (Addr×Obj)) (s:Sd) (σ:St) (H:Hp) (x:V) (xs:List V) (v:Vl) (us:List Vl) (Q:VK),Inv X Vw σ H s->qm x v->qc xs us->r x xs H Q->
  wpAny (model X.prog X.w) X.A (call (.builtin id) (v::us)) (EP X Vw σ Q) X.xe s
variable {o:Expr}{es:List Expr}{to:TE}{t:TA}{name:Str}{VA VE:Pos}{T id:String}{r:V→List V→Hp→VK→Prop}{a:Expr}{ta tb:TE}
section
variable {b:Expr}
def LH{r:R2}(hr:RN X r)(ha:PE X a ta)(hb:PE X b tb)(hs:AA b):PE X (.Subscript a b pos) (To r ta tb):=by intro Vw s σ H Q I h;exact Subscript_ (PY ha hb I h λv u s2 x y H2 I2 rx ry q=>hr a b Vw s2 σ H2 x y v u Q I2 rx ry q (hs _ _))
def UB(K:pX):R2:=λx y H Q=>∃p xs i v,x=.ref p/\y=.int i/\yo K H p xs/\vL xs i=some v/\Q v H
def UD(K:pX):R2:=λx y H Q=>∃p xs i v,x=.ref p/\y=.int i/\ux K H p xs/\vL xs i=some v/\Q v H
def UA:R2:=λx y H Q=>∃z i c,x=.str z/\y=.int i/\z.length<=sizeLine/\vL z.cps.toList i=some c/\Q (.str ⟨#[c]⟩) H
def HH:RN X (UB X.K):=by
 intro value VJ Vw s σ H x y v u Q I rx ry h hs;obtain⟨p,xs,i,z,rfl,rfl,hq,he,q⟩:=h;cases rx;obtain⟨t,rfl⟩:=ry;obtain⟨its,r,pl,hz⟩:=I.list hq;obtain⟨j,h1,h2,h3,h4,h5⟩:=Dw he;obtain⟨w,ew,XI⟩:=r.get h2;have hl:=r.length;have hn:=yl;have VB:EP X Vw σ Q w s:=⟨z,H,I,XI,q⟩;by_cases h0:0<=i
 .have hj:i.toNat=j:=by rw[lj h0 h5]at h1;exact de h1
  exact item_listR pl.isList h0 (by omega) (by rw[hj];simpa using ew) VB hs
 .have hj:(i+(its.toArray.size:Int)).toNat=j:=by rw[kK (by omega) h4]at h1;rw[dh,<-hl];exact de h1
  exact jU (x:=w) pl.isList.typeIs kX.lookup
   (wpAny_getItem_list_neg (Q:=λr s'=>r=w/\EP X Vw σ Q r s') pl.isList (by omega) (by rw[dh]<;>omega) (by omega) (by rw[hj];simpa using ew) ⟨rfl,VB⟩) hs
def Qz:RN X (UD X.K):=by
 intro value VJ Vw s σ H x y v u Q I rx ry h hs;obtain⟨p,xs,i,z,rfl,rfl,hq,he,q⟩:=h;cases rx;obtain⟨t,rfl⟩:=ry;obtain⟨its,r,pl,hz⟩:=I.tuple hq;obtain⟨j,h1,h2,h3,h4,h5⟩:=Dw he;obtain⟨w,ew,XI⟩:=r.get h2;have hl:=r.length;have hn:=yl;have VB:EP X Vw σ Q w s:=⟨z,H,I,XI,q⟩;exact jU (x:=w) pl.typeIs slot_tuple_getitem.lookup
  (getItem_tuple (j:=j) (Q:=λr s'=>r=w/\EP X Vw σ Q r s') pl (by omega) (by omega) (by rw[dh,<-hl];exact h1) (by simpa using ew) ⟨rfl,VB⟩) hs
def QT:RN X UA:=by
 intro value VJ Vw s σ H x y v u Q I rx ry h hs;obtain⟨z,i,c,rfl,rfl,hz,he,q⟩:=h;obtain⟨t,rfl⟩:=rx;obtain⟨t',rfl⟩:=ry;obtain⟨j,h1,h2,h3,h4,h5⟩:=Dw he;have hl:z.cps.toList.length=z.length:=by simp[Str.length]
 rw[hl]at h1 h4 h5;have hn:=yl;exact tail_any (typeIs_str s z t) slot_str_getitem.lookup (getItem_str (c:=c) (by
  have e1:decide (i< -(2 ^ 63:Int))=false:=eJ (by omega);have e2:decide (i>=2 ^ 63)=false:=eJ (by omega);rw[e1,e2,jf]) (by rw[h1];simpa using h2) ⟨.str ⟨#[c]⟩,H,I.tok _,⟨_,rfl⟩,q⟩) hs
def GU(its:List Vl)(n j:Nat)(u:Vl):Obj.mapSeq (·.setIfInBounds j u) {cls:=.type "list",data:=.seq its.toArray n}={cls:=.type "list",data:=.seq (its.set j u).toArray n}:=by simp[Obj.mapSeq]
def Inv.lst{Vw:List (Addr×Obj)}{σ:St}{H:Hp}{s:Sd}{p:Addr}{xs:List V}(I:Inv X Vw σ H s)(h:H p=some (.lst xs)):
  ∃(its:List Vl) (n:Nat),qc xs its/\s.heap.get? p=some {cls:=.type "list",data:=.seq its.toArray n}/\xs.length<=sizeLine:=by
 obtain⟨z,its,n,r,e⟩:=I.mE p _ h;exact⟨its,n,r,e,z⟩
def Inv.nQ{Vw:List (Addr×Obj)}{σ:St}{H:Hp}{s:Sd}{p:Addr}{xs ys:List V}{its its':List Vl}{n n':Nat}{f:Obj->Obj}(I:Inv X Vw σ H s)(h:H p=some (.lst xs)) (ho:s.heap.get? p=some {cls:=.type "list",data:=.seq its.toArray n}) (hf:f {cls:=.type "list",data:=.seq its.toArray n}={cls:=.type "list",data:=.seq its'.toArray n'}) (r:qc ys its') (hz:ys.length<=sizeLine) (t:Nat):
  Inv X Vw σ (upd H p (.lst ys)) {s with heap:=s.heap.update p f,toks:=t}:=by
 have e:(s.heap.update p f).get? p=some {cls:=.type "list",data:=.seq its'.toArray n'}:=by rw[fv f ho (by rw[hf]<;>rfl),hf]
 refine I.write (x:=p) (e:=p) (by rw[h];trivial) (.inl rfl) (λb u hb q=>(fV _ _ (dG hb)).trans q) ⟨_,e⟩ ?_;exact⟨hz,its',n',r,e⟩
def Su:V->V->V->Hp->(Hp->Prop)->Prop:=λo i v H Q=>∃p xs k j,o=.ref p/\i=.int k/\H p=some (.lst xs)/\F5 xs.length k=some j/\Q (upd H p (.lst (xs.set j v)))
def LK:Sn X Su:=by
 intro Vw s σ H o i v ov iv u Q I ro ri rv h;obtain⟨p,xs,k,j,rfl,rfl,hp,hj,q⟩:=h;cases ro;obtain⟨t,rfl⟩:=ri;obtain⟨its,n,r,ho,hz⟩:=I.lst hp;obtain⟨h1,h2,h3,h4⟩:=HB hj;have hl:=r.length;have hn:=yl;have I':Inv X Vw σ (upd H p (.lst (xs.set j v))) {s with heap:=s.heap.update p (Obj.mapSeq (·.setIfInBounds j u))}:=
  I.nQ hp ho (GU its n j u) (r.set rv j) (by rw[ia];exact hz) s.toks
 by_cases h0:0<=k
 .have hk:k.toNat=j:=by rw[lj h0 h4]at h1;exact de h1
  exact W.ki_setAt ho h0 (by omega) (by rw[dh,<-hl];exact h4) (by rw[hk];exact⟨_,I',q⟩)
 .have hk:(k+(its.toArray.size:Int)).toNat=j:=by rw[kK (by omega) h3]at h1;rw[dh,<-hl];exact de h1
  exact W.ki_setBack ho (by omega) (by rw[dh,<-hl];exact h3) (by omega) (by rw[hk];exact⟨_,I',q⟩)
def DV(lo hi:Option Int)(n:Nat):(sliceBounds lo hi none n).1=((HT.sj n 0 lo:Nat):Int)/\(sliceBounds lo hi none n).2.1=((HT.sj n n hi:Nat):Int)/\(sliceBounds lo hi none n).2.2=1:=by
 refine⟨?_,?_,rfl⟩
 .cases lo with
  | none=>simp[sliceBounds,HT.sj]
  | some i=>
   simp only[sliceBounds,HT.sj,lB,show(1:Int)>0 by decide,iz];by_cases h:i<0
   .simp only[h,iz]<;>omega
   .simp only[h,jw]<;>omega
 .cases hi with
  | none=>simp[sliceBounds,HT.sj]
  | some i=>
   simp only[sliceBounds,HT.sj,lB,show(1:Int)>0 by decide,iz];by_cases h:i<0
   .simp only[h,iz]<;>omega
   .simp only[h,jw]<;>omega
def CB(its:List Vl)(lo hi:Option Int):slicePick its.toArray lo hi none=((its.drop (HT.sj its.length 0 lo)).take (HT.sj its.length its.length hi - HT.sj its.length 0 lo)).toArray:=by obtain⟨h1,h2,h3⟩:=DV lo hi its.toArray.size;unfold slicePick;rw[h1,h2,h3];simp only[sliceRange_one,pick_run,dh]<;>rfl
def Uo(K:pX):V->Option Int->Option Int->Hp->VK->Prop:=λx lo hi H Q=>∃a xs,x=.ref a/\yo K H a xs/\∀p,H p=none->Q (.ref p) (upd H p (.lst (BR xs lo hi)))
def Hq:RY X (Uo X.K):=by intro Vw s σ H x v vl vu lo hi sl Q I rx hs pl pu h;obtain⟨a,xs,rfl,hx,q⟩:=h;cases rx;obtain⟨its,r,ht,hz⟩:=I.list hx;have VC:=r.length;refine⟨"list",_,kX.lookup,ht.isList.typeIs,?_⟩;refine wpAny_getItem_list_slice ht.isList hs pl pu .none (by simp) ?_ (by rw[dh]<;>omega);rw[CB,<-VC];refine⟨.ref s.heap.objs.size,_,I.laid (t':=s.toks) (o:=.lst (BR xs lo hi)) (λb ob q=>cW _ q) (c9 _) ?_,rfl,q _ (I.mE.fresh (c9 _))⟩;exact⟨dU (zL xs lo hi) hz,_,0,(r.drop (HT.sj xs.length 0 lo)).take (HT.sj xs.length xs.length hi - HT.sj xs.length 0 lo),dC _ rfl⟩
def xS:V->Bool
 | .mz=>true
 | .bl _=>true
 | .int _=>true
 | .str _=>true
 | _=>false
def MH:V->V->Bool
 | .mz,.mz=>true
 | .bl a,.bl b=>a==b
 | .bl a,.int b=>(if a then 1 else 0)==b
 | .int a,.bl b=>a==(if b then 1 else 0)
 | .int a,.int b=>a==b
 | .str a,.str b=>a==b
 | _,_=>false
def PZ{A:Ar}{s:Sd}{y x:V}{u v:Vl}(ry:qm y u)(rx:qm x v)(fy:xS y=true)(fx:xS x=true):SeqAt.EqAt A s u v (MH y x):=by
 cases y with
 | mz=>
  cases ry;cases x with
  | mz=>cases rx;exact SeqAt.EqAt.same _
  | bl b=>cases rx;exact SeqAt.EqAt.none_bool b
  | int b=>obtain⟨t,rfl⟩:=rx;exact SeqAt.EqAt.none_int b t
  | str b=>obtain⟨t,rfl⟩:=rx;exact SeqAt.EqAt.none_str b t
  | _=>exact absurd (show false=true from fx) df
 | bl a=>
  cases ry;cases x with
  | mz=>cases rx;exact SeqAt.EqAt.bool_none a
  | bl b=>cases rx;exact SeqAt.EqAt.bool_bool a b
  | int b=>obtain⟨t,rfl⟩:=rx;exact SeqAt.EqAt.bool_int a b t
  | str b=>obtain⟨t,rfl⟩:=rx;exact SeqAt.EqAt.bool_str a b t
  | _=>exact absurd (show false=true from fx) df
 | int a=>
  obtain⟨t',rfl⟩:=ry;cases x with
  | mz=>cases rx;exact SeqAt.EqAt.int_none a t'
  | bl b=>cases rx;exact SeqAt.EqAt.int_bool a t' b
  | int b=>obtain⟨t,rfl⟩:=rx;exact SeqAt.EqAt.int_int a t' b t
  | str b=>obtain⟨t,rfl⟩:=rx;exact kB a t' b t
  | _=>exact absurd (show false=true from fx) df
 | str a=>
  obtain⟨t',rfl⟩:=ry;cases x with
  | mz=>cases rx;exact SeqAt.EqAt.str_none a t'
  | bl b=>cases rx;exact SeqAt.EqAt.str_bool a t' b
  | int b=>obtain⟨t,rfl⟩:=rx;exact kC a t' b t
  | str b=>obtain⟨t,rfl⟩:=rx;exact SeqAt.EqAt.str_str a t' b t
  | _=>exact absurd (show false=true from fx) df
 | _=>exact absurd (show false=true from fy) df
def DM(x:V)(u:Vl):Bool:=match u with
 | .none=>MH .mz x
 | .bool b=>MH (.bl b) x
 | .int i _=>MH (.int i) x
 | .str z _=>MH (.str z) x
 | _=>false
def GF{x y:V}{u:Vl}(r:qm y u)(f:xS y=true):DM x u=MH y x:=by
 cases y with
 | mz=>cases r;rfl
 | bl b=>cases r;rfl
 | int i=>obtain⟨t,rfl⟩:=r;rfl
 | str z=>obtain⟨t,rfl⟩:=r;rfl
 | _=>exact absurd (show false=true from f) df
theorem yx{x:V}:∀{xs:List V} {us:List Vl},qc xs us->xs.all xS=true->us.any (DM x)=xs.any λy=>MH y x
 | _,_,.nil,_=>rfl
 | y::xs,u::us,.cons r t,f=>by rw[gg,dP]at f;rw[fW,fW,GF r f.1,yx t f.2]
theorem vI{A:Ar}{s:Sd}{x:V}{v:Vl}(rx:qm x v)(fx:xS x=true):∀{xs:List V} {us:List Vl},qc xs us->xs.all xS=true->∀u∈us,SeqAt.EqAt A s u v (DM x u)
 | _,_,.nil,_=>λu hu=>by cases hu
 | y::xs,u::us,.cons r t,f=>λu' hu=>by
  rw[gg,dP]at f;rcases cZ.mp hu with rfl|hu
  .rw[GF r f.1];exact PZ r rx f.1 fx
  .exact vI rx fx t f.2 u' hu
def inV(x:V)(xs:List V):Bool:=xs.any λy=>MH y x
def T6(K:pX)(Xa:Bool):R2:=λx y H Q=>∃p xs,y=.ref p/\(yo K H p xs\/ux K H p xs)/\xS x=true/\xs.all xS=true/\Q (.bl (if Xa then !inV x xs else inV x xs)) H
def JK:wO X (compareOp .In) (T6 X.K false):=by
 intro Vw s σ H x y v u Q I rx ry h;obtain⟨p,xs,rfl,hq,fx,fs,q⟩:=h;cases ry;rcases hq with hq|hq
 .obtain⟨its,r,pl,hz⟩:=I.list hq;refine SeqAt.in_listAt (DM x) pl.isList (λw hw=>vI rx fx r fs w (by simpa using hw)) ⟨.bl _,H,I,rfl,?_⟩;rw[show its.toArray.any (DM x)=its.any (DM x)by simp,yx r fs];exact q
 .obtain⟨its,r,pl,hz⟩:=I.tuple hq;refine SeqAt.in_tupleAt (DM x) pl (λw hw=>vI rx fx r fs w (by simpa using hw)) ⟨.bl _,H,I,rfl,?_⟩;rw[show its.toArray.any (DM x)=its.any (DM x)by simp,yx r fs];exact q
def D7:wO X (compareOp .NotIn) (T6 X.K true):=by
 intro Vw s σ H x y v u Q I rx ry h;obtain⟨p,xs,rfl,hq,fx,fs,q⟩:=h;cases ry;rcases hq with hq|hq
 .obtain⟨its,r,pl,hz⟩:=I.list hq;refine SeqAt.notIn_listAt (DM x) pl.isList (λw hw=>vI rx fx r fs w (by simpa using hw)) ⟨.bl _,H,I,rfl,?_⟩;rw[show its.toArray.any (DM x)=its.any (DM x)by simp,yx r fs];exact q
 .obtain⟨its,r,pl,hz⟩:=I.tuple hq;refine SeqAt.notIn_tupleAt (DM x) pl (λw hw=>vI rx fx r fs w (by simpa using hw)) ⟨.bl _,H,I,rfl,?_⟩;rw[show its.toArray.any (DM x)=its.any (DM x)by simp,yx r fs];exact q
def Dx:wO X (compareOp .NotIn) (λx y H Q=>∃i j,x=.str i/\y=.str j/\Q (.bl (!(!(Builtin.Str.occurrences j i 0 j.length 1).isEmpty))) H):=by intro Vw s σ H x y v u Q I rx ry h;obtain⟨i,j,rfl,rfl,q⟩:=h;obtain⟨t,rfl⟩:=rx;obtain⟨t',rfl⟩:=ry;exact notIn_str ⟨.bl _,H,I,rfl,q⟩
def vV:xR X (.builtin "len") (λxs H Q=>∃p ys,xs=[.ref p]/\(yo X.K H p ys\/ux X.K H p ys)/\Q (.int ys.length) H):=by
 intro Vw s σ H xs us Q I r h;obtain⟨p,ys,rfl,hq,q⟩:=h;obtain⟨u,rfl,rx⟩:=wA r;cases rx;have hn:=yl;rcases hq with hq|hq
 .obtain⟨its,r',pl,hz⟩:=I.list hq;have VC:=r'.length;exact Calls.call_len_list pl.isList (by simp only[dh]<;>omega) ⟨.int ys.length,H,I.tok _,⟨s.toks+1,by rw[dh,VC]⟩,q⟩
 .obtain⟨its,r',pl,hz⟩:=I.tuple hq;have VC:=r'.length;exact len_tuple pl (by simp only[dh]<;>omega) ⟨.int ys.length,H,I.tok _,⟨s.toks+1,by rw[dh,VC]⟩,q⟩
def EY:xR X (.builtin "len") (λxs H Q=>∃z,xs=[.str z]/\z.length<=sizeLine/\Q (.int z.length) H):=by intro Vw s σ H xs us Q I r h;obtain⟨z,rfl,hz,q⟩:=h;obtain⟨u,rfl,t,rfl⟩:=wA r;have hn:=yl;exact len_str (by omega) ⟨.int z.length,H,I.tok _,⟨_,rfl⟩,q⟩
def Ef:xR X (.type "list") (λxs H Q=>∃p ys,xs=[.ref p]/\(yo X.K H p ys\/ux X.K H p ys)/\∀l,H l=none->Q (.ref l) (upd H l (.lst ys))):=by
 intro Vw s σ H xs us Q I r h;obtain⟨p,ys,rfl,hq,q⟩:=h;obtain⟨u,rfl,rx⟩:=wA r;cases rx;have VB:∀(its:List Vl),qc ys its->ys.length<=sizeLine->∀(h':Heap) (c':Nat),(∀b o',s.heap.get? b=some o'->h'.get? b=some o')->
   h'.get? s.heap.objs.size=some {cls:=.type "list",dict:=none,data:=.seq its.toArray c',slots:=#[]}->EP X Vw σ Q (.ref s.heap.objs.size) {s with heap:=h'}:=λits r' hz h' c' kp e=>
  ⟨.ref s.heap.objs.size,_,I.laid (t':=s.toks) kp (c9 _) (show sf X.prog X.w _ h' _ (.lst ys)from⟨hz,its,c',r',e⟩),rfl,q _ (I.mE.fresh (c9 _))⟩
 rcases hq with hq|hq
 .obtain⟨its,r',pl,hz⟩:=I.list hq;have VC:=r'.length;obtain⟨o,ho,hc,n,hd⟩:=pl.isList;exact call_list_seq p (.inl rfl) ho hc hd (λh' c' kp e=>VB its r' hz h' c' kp e) (by simp only[dh]<;>omega)
 .obtain⟨its,r',pl,hz⟩:=I.tuple hq;have VC:=r'.length;obtain⟨o,ho,hc,n,hd⟩:=pl;exact call_list_seq p (.inr rfl) ho hc hd (λh' c' kp e=>VB its r' hz h' c' kp e) (by simp only[dh]<;>omega)
def vk:xR X (.type "tuple") (λxs H Q=>∃p ys,xs=[.ref p]/\((yo X.K H p ys/\∀l,H l=none->Q (.ref l) (upd H l (.tup ys)))\/(ux X.K H p ys/\Q (.ref p) H))):=by
 intro Vw s σ H xs us Q I r h;obtain⟨p,ys,rfl,h⟩:=h;obtain⟨u,rfl,rx⟩:=wA r;cases rx;rcases h with⟨hq,q⟩|⟨hq,q⟩
 .obtain⟨its,r',pl,hz⟩:=I.list hq;have VC:=r'.length;refine call_tuple_list pl.isList (λh' kp=>?_) (by simp only[dh]<;>omega);have I1:Inv X Vw σ H {s with heap:=h'}:=I.kept (t':=s.toks) kp;have I2:Inv X Vw σ (upd H h'.objs.size (.tup ys)) {s with heap:=h'.push {cls:=.type "tuple",data:=.seq its.toArray}}:=
   I1.laid (t':=s.toks) (λb o e=>cW _ e) (c9 _) (show sf X.prog X.w _ _ _ (.tup ys)from⟨hz,its,r',DP.new _ _⟩)
  exact⟨.ref h'.objs.size,_,I2,rfl,q _ (I1.mE.fresh (c9 _))⟩
 .obtain⟨its,r',pl,hz⟩:=I.tuple hq;exact call_tuple_same pl ⟨.ref p,H,I,rfl,q⟩
def UT(K:pX)(T:String)(x:V)(H:Hp):Prop:=match x with
 | .str _=>T="str"
 | .int _=>T="int"
 | .ref p=>(T="list"/\∃xs,yo K H p xs)\/(T="tuple"/\∃o,K.lookup p=some o/\o.cls=.type "tuple"/\o.dict=none)\/
   (T="dict"/\((∃kvs,H p=some (.dK kvs))\/∃kvs,H p=some (.dT kvs)))\/(T="set"/\∃S n,H p=some (.set S n))
 | _=>False
def Qy{Vw:List (Addr×Obj)}{σ:St}{H:Hp}{s:Sd}{T:String}{x:V}{v:Vl}(I:Inv X Vw σ H s)(r:qm x v)(ty:UT X.K T x H):
  s.TypeIs v T/\∀a,v=.ref a->∃ob,s.heap.get? a=some ob/\ob.dict=none:=by
 cases x with
 | str z=>obtain⟨t,rfl⟩:=r;cases(show T="str" from ty);exact⟨typeIs_str s z t,λ_ e=>nomatch e⟩
 | int i=>obtain⟨t,rfl⟩:=r;cases(show T="int" from ty);exact⟨lM s i t,λ_ e=>nomatch e⟩
 | ref p=>
  cases r;rcases ty with⟨rfl,xs,hq⟩|⟨rfl,o,hk,hc,hd⟩|⟨rfl,hk⟩|⟨rfl,S,n,hk⟩
  .obtain⟨its,_,pl,_⟩:=I.list hq;refine⟨pl.isList.typeIs,λa e=>?_⟩;cases e;obtain⟨o,n,e,c,hd,_⟩:=pl;exact⟨o,e,hd⟩
  .refine⟨⟨o,I.mV p o hk,hc⟩,λa e=>?_⟩;cases e;exact⟨o,I.mV _ o hk,hd⟩
  .have z:∃o,s.heap.get? p=some o/\o.ExactDict:=by
    rcases hk with⟨kvs,hk⟩|⟨kvs,hk⟩
    .obtain⟨_,_,_,_,o,_,_,e,ex,_⟩:=I.mE p _ hk;exact⟨o,e,ex⟩
    .obtain⟨_,_,_,_,o,_,_,e,ex,_⟩:=I.mE p _ hk;exact⟨o,e,ex⟩
   obtain⟨o,e,ex⟩:=z;refine⟨⟨o,e,ex.1⟩,λa e2=>?_⟩;cases e2;exact⟨o,e,ex.2.1⟩
  .obtain⟨o,_,_,_,e,ex,_⟩:=I.mE p _ hk;refine⟨⟨o,e,ex.1⟩,λa e2=>?_⟩;cases e2;exact⟨o,e,ex.2.1⟩
 | _=>exact False.elim ty
def Vf(K:pX)(T:String)(r:V->List V->Hp->VK->Prop)(to:TE)(t:TA):TE:=λσ H Q=>to σ H λx H1=>UT K T x H1/\t σ H1 λxs H2=>r x xs H2 Q
def Se(pa:PlainAttrs T)(slot:Slot T name id)(hty:typeOf (.builtin id)=pure (.type "method_descriptor"))(hm:Vd X id r)(ho:PE X o to)(ha:PA X (e::es) t) (VU:attributeBase o name X.env (eval o X.env)=eval o X.env:=by rfl)
  (WP:((backTo VE (starEach (e::es) X.env)).all (λx=>!x.1)&&(backToKw VE (keywordEach [] X.env)).all (λx=>x.1.isSome)
   &&decide ((e::es).length+([]:List Keyword).length+(if ([]:List Keyword).isEmpty then 0 else 1)<30))=true:=by rfl)
  (Wa:(VA.endLine==VE.line)=true:=by rfl) (hs:AB X e es:=by rfl) (VP:B0 X VE es:=by rfl):
  PE X (.Call (.Attribute o name VA) (e::es) [] VE) (Vf X.K T r to t):=by
 intro Vw s σ H Q I h;refine wpAny_Call_method_late VU WP Wa rfl (rQ (ho Vw s σ H _ I h) λv s1 zz=>?_);obtain⟨x,H1,I1,r1,ty,q1⟩:=zz;obtain⟨h1,h2⟩:=Qy I1 r1 ty;refine⟨T,id,pa,slot,hty,h1,h2,?_⟩;have hA:=ha VE Vw s1 σ H1 _ I1 q1;rw[hs]at hA ⊢;refine Calls.callWith_builtin (by show(false||(backTo VE (starEach es X.env)).any (·.1))=false;rw[VP]<;>rfl) (Calls.evalArgs_plain ?_);exact rQ hA λus s2 zz=>x5 zz λvs H2 I2 r2 q2=>hm Vw s2 σ H2 x vs v us Q I2 r1 r2 q2
end
def Vt(X:Cx)(id:String)(r:V->List V->Hp->VK->Prop):Prop:=
 ∀(Vw:List (Addr×Obj)) (s:Sd) (σ:St) (H:Hp) (x:V) (xs:List V) (v:Vl) (us:List Vl) (Q:VK),Inv X Vw σ H s->qm x v->qc xs us->r x xs H Q->
  wpAny (model X.prog X.w) X.A (call (.builtin id) (v::us)) (EP X Vw σ Q) X.xe s
def qc.one:∀{x:V} {us:List Vl},qc [x] us->∃u,us=[u]/\qm x u
 | _,_,.cons r .nil=>⟨_,rfl,r⟩
theorem qc.rep{xs:List V}{us:List Vl}(h:qc xs us):∀k:Nat,qc (List.replicate k xs).flatten (List.replicate k us).flatten
 | 0=>.nil
 | k+1=>by rw[eB,eB,fJ,fJ];exact qc.append h (qc.rep h k)
theorem CM(its:List Vl):∀(k:Nat) (acc:List Vl),List.foldl (λx1 x2=>x1++x2) acc.toArray (List.replicate k its.toArray)=(acc++(List.replicate k its).flatten).toArray
 | 0,acc=>by simp
 | k+1,acc=>by
  have e:acc.toArray++its.toArray=(acc++its).toArray:=by simp
  have e2:(acc++its)++(List.replicate k its).flatten=acc++(List.replicate (k+1) its).flatten:=by rw[eB,fJ,e9]
  rw[<-e2,<-CM its k (acc++its),<-e,eB,fS]
variable {Vw:List (Addr × Obj)}{σ:St}{H:Hp}{s:Sd}{l:Addr}{xs ys zs:List V}
section
variable {b:Addr}
def Inv.lset{its its':List Vl}{n:Nat}{f:Array Vl->Array Vl}{t':Nat}(I:Inv X Vw σ H s)(hH:H l=some (.lst xs)) (e:s.heap.get? l=some {cls:=.type "list",data:=.seq its.toArray n}) (hf:f its.toArray=its'.toArray) (hv:qc ys its') (hz:ys.length<=sizeLine):
  Inv X Vw σ (upd H l (.lst ys)) {s with heap:=s.heap.update l (Obj.mapSeq f),toks:=t'}:=by
 have q:=PySem.IsL.update e f;rw[hf]at q;refine I.write (x:=l) (e:=l) (by rw[hH];exact trivial) (.inl rfl) (λb' u hb hu=>(fV s.heap (Obj.mapSeq f) (dG hb)).trans hu) ⟨_,q⟩ ?_;exact⟨hz,its',_,hv,q⟩
def Inv.ou{its:List Vl}{t':Nat}(I:Inv X Vw σ H s)(hv:qc ys its)(hz:ys.length<=sizeLine):
  Inv X Vw σ (upd H s.heap.objs.size (.lst ys)) {s with heap:=s.heap.push {cls:=.type "list",data:=.seq its.toArray},toks:=t'}:=
 I.laid (λ_ _ q=>cW _ q) (c9 _) ⟨hz,its,0,hv,dC _ rfl⟩
def Inv.fresh(I:Inv X Vw σ H s):H s.heap.objs.size=none:=I.mE.fresh (c9 _)
def Inv.oA(I:Inv X Vw σ H s)(hH:H l=some (.lst xs)):xs.length<=sizeLine/\∃(its:List Vl) (n:Nat),qc xs its/\xs.length=its.length/\s.heap.get? l=some {cls:=.type "list",data:=.seq its.toArray n}:=by obtain⟨z,its,n,r,e⟩:=I.mE l _ hH;exact⟨z,its,n,r,r.length,e⟩
def Kr{n:Nat}(h:n<=sizeLine):Builtin.List.listTooLong n=false:=by unfold Builtin.List.listTooLong;exact eJ (by omega)
end
def MO:V->List V->Hp->VK->Prop:=λx vs H Q=>∃l xs y,x=.ref l/\vs=[y]/\H l=some (.lst xs)/\xs.length<sizeLine/\Q .mz (upd H l (.lst (xs++[y])))
def Jh:Vt X "list.append" MO:=by intro Vw s σ H x vs v us Q I rx rv h;obtain⟨l,xs,y,rfl,rfl,hH,hz,q⟩:=h;cases rx;obtain⟨u,rfl,ru⟩:=rv.one;obtain⟨z,its,n,r,hl,e⟩:=I.oA hH;refine jn F.slot_list_append ⟨_,e,rfl⟩ F.entry_list_append (F.args_list_append_2 _ _) (PySem.list_append l its.toArray n u (by rw[dh];omega)) ⟨e,?_⟩;refine⟨.mz,_,I.lset (its':=its++[u]) hH e (by simp) (r.append (.cons ru .nil)) ?_,rfl,q⟩;rw[cU,dN];omega
def Uj:R2:=λx y H Q=>∃l k xs,x=.ref l/\y=.int k/\H l=some (.lst xs)/\-(2 ^ 63)<=k/\k<2 ^ 63/\xs.length*k.toNat<=sizeLine/\
 ∀p,H p=none->Q (.ref p) (upd H p (.lst (List.replicate k.toNat xs).flatten))
def OF{α:Type}(xs:List α)(k:Nat):(List.replicate k xs).flatten.length=k*xs.length:=by
 induction k with
 | zero=>simp
 | succ k ih=>rw[eB,fJ,cU,ih,lX,Nat.add_comm]
def QP:wO X (binaryOp .Mult) Uj:=by
 intro Vw s σ H x y v u Q I rx ry h;obtain⟨l,k,xs,rfl,rfl,hH,h1,h2,hz,q⟩:=h;cases rx;obtain⟨t,rfl⟩:=ry;obtain⟨z,its,n,r,hl,e⟩:=I.oA hH;have VC:its.toArray.size*k.toNat<=sizeLine:=by rw[dh,<-hl];exact hz
 have hcap:¬its.toArray.size*k.toNat>(2 ^ 63 - 1) / 8:=by
  have:(sizeLine:Nat)<=(2 ^ 63 - 1) / 8:=by decide
  omega
 have Wb:¬(!Builtin.List.listFitsIndex k)=true:=by rw[fitsIndex_both h1 h2];exact df
 have hlong:¬Builtin.List.listTooLong (its.toArray.size*k.toNat)=true:=by rw[Kr VC];exact df
 have Xg:List.foldl (λx1 x2=>x1++x2) #[] (List.replicate (if its.toArray.isEmpty=true then 0 else k.toNat) its.toArray)=(List.replicate k.toNat its).flatten.toArray:=by
  have f0:∀m:Nat,List.foldl (λx1 x2=>x1++x2) #[] (List.replicate m its.toArray)=(List.replicate m its).flatten.toArray:=λm=>by have:=CM its m [];rw[dS]at this;exact this
  rw[f0];cases its with
  | nil=>simp
  | cons a r'=>rw[cV (by simp)]
 refine wpAny_binaryOp_repeat_ref (T:="list") (U:="int") (by decide) ⟨_,e,rfl⟩ (λs'=>lM s' k t) noFill_list_mul F.fills_int_mul lN repeat_list F.slot_int_index.lookup
  (jn lN (lM s k t) F.entry_int_rmul (F.args_int_rmul_2 _ _) (int___rmul___int_list k t l its.toArray n)
   ⟨e,rfl,⟨_,e,rfl⟩,jn F.slot_list_mul ⟨_,e,rfl⟩ F.entry_list_mul (F.args_list_mul_2 _ _) (AutoListH.list___mul___list_int_3 l its.toArray n k t Wb hcap hlong) ⟨e,?_⟩⟩)
 rw[Xg];exact⟨.ref _,_,I.ou (t':=s.toks) (r.rep k.toNat) (by rw[OF,Nat.mul_comm];exact hz),rfl,q _ I.fresh⟩
variable {prog:Pg}{w:Wo}{A:Ar}{E:Vl→Sd→Prop}
end L2
namespace Att
open PySem PySem.W PySem.Calls PyProof.Rows
def z9{P:Params}{h:Heap}:∀(ns:List Int) (vs:List Vl),WellAll P h vs (ns.map WData.int)->IntsAre vs ns:=by
 intro ns;induction ns with
 | nil=>intro vs w;rw[iE]at w;cases w;exact .nil
 | cons n ns ih=>
  intro vs w;rw[dQ]at w;cases w with
  | cons a b=>cases a;exact .cons _ _ (ih _ b)
def JQ{l:OpenLaw}{n:Nat}(hn:l.most=some n){P:Params}{h:Heap}{args:List WData}{Yr:List Vl} (XJ:l.row.toRowW.claim.pre args=true) (hwl:WellAll P h Yr args):
  ∃a vs ns,Yr=[Value.ref a]/\args=[WData.list (ns.map WData.int)]/\h.get? a=some {cls:=.type "list",data:=.seq vs.toArray}/\IntsAre vs ns/\ns.length<=n:=by
 have hsh:WShape.hasAll [] args [.list .int]=true:=(pre_splitW XJ).1;have hc:l.pre.holds [] {args:=args}=true:=(pre_splitW XJ).2;obtain⟨d,r,rfl,h1,h2⟩:=hasAllW_cons hsh;obtain rfl:=hasAllW_nil h2;obtain⟨xs,rfl,h3⟩:=hasW_list h1;obtain⟨ns,rfl⟩:=items_int h3;have VC:ns.length<=n:=by
  unfold OpenLaw.pre at hc;have h4:(WTm.not (.lt (.lit (.int (n:Int))) (.len (.arg 0)))).holds [] {args:=[.list (ns.map .int)]}=true:=by have h4:=(holds_andW hc).1;rw[hn]at h4;exact h4
  have h5:=condW_of h4 (w_not (w_lt w_lit (w_len_list (w_arg rfl))));rw[cQ]at h5;refine Nat.le_of_not_lt λq=>?_;have q':(n:Int)<((ns.length:Nat):Int):=by omega
  first
   | (rw[dO q']at h5;exact absurd h5 (by decide))
   | (simp at h5;omega)
 cases hwl with
 | cons w1 w2=>
  cases w2;cases w1 with
  | list ho Wh=>exact⟨_,_,ns,rfl,rfl,ho,z9 ns _ Wh,VC⟩
def Jp(l:OpenLaw)(args:List WData):l.row.toRowW.claim.post args (.bool true) args=true:=
 postW_of (r:=l.row.toRowW) (X:=(true==true))
  (show WShape.has [] (.bool true) .bool=true by first|rfl|decide|simp[WShape.has,WShape.arms,WShape.armsAll])
  (show(WTm.eq .res (.lit (.bool true))).value [] {args:=args,res:=some (.bool true),after:=args}=some (.bool (true==true))from w_eq_bool (w_res rfl) w_lit) rfl
def attach_call{l:OpenLaw}{n:Nat}{q:Pg}{Wr:List Str}{XP:(Str->Option Vl)->Heap->Prop}{YP:Wo->Heap->Prop}{d:DefRec} (hn:l.most=some n) (X8:d.params.defaults=[]) (call:∀(w:Wo) (s₀ s₁:Sd) (mg mb:Str->Option Vl) (fa:Addr) (o:Obj) (pm cd We:Vl) (a:Addr) (vs:List Vl) (ns:List Int),Ground q Wr [] XP w s₀ mg mb s₁.heap->YP w s₁.heap->
   s₁.heap.get? fa=some o->o.data=.func (docDef d.name d.params d.body d.scope pm cd We)->s₁.heap.CodeRec cd d.name->mg d.name=some (.ref fa)->
   s₁.heap.get? a=some {cls:=.type "list",data:=.seq vs.toArray}->IntsAre vs ns->ns.length<=n->s₁.gens=#[]->
   codeAny (model l.prog w) callerA (.call (.ref fa) ⟨[.ref a],[]⟩) (λr s'=>r=.ok (.ret (.bool true))/\OldK s₁.heap s'.heap/\s'.os=s₁.os/\AllBare s'.gens) s₁):
  WalkO q Wr XP YP l.row.toRowW d [] (λf vs=>PySem.call f vs):=by
 intro w s₀ s₁ mg mb G Y fa o pm cd We dV kV ho hd WA hD hmg hg args Yr as XJ hlay hrd hwl hlo;obtain rfl:dV=.none:=Dflts.none hD X8;obtain rfl:kV=.none:=Dflts.noKw hD;obtain⟨a,vs,ns,rfl,rfl,Ys,Xh,VC⟩:=JQ hn XJ hwl;refine enter_call (gc (call w s₀ s₁ mg mb fa o pm cd We a vs ns G Y ho (fd_plain hd) WA hmg Ys Xh VC hg) λr s' hq=>?_);obtain⟨rfl,h2,h3,h4⟩:=hq;exact⟨.inl ⟨.bool true,.bool true,[],rfl,λ_=>rfl,.bool true,Jp l _,λ_=>⟨List.Pairwise.nil,λ_ hm=>(nomatch hm)⟩⟩,h2,h3,h4⟩
variable {prog:Pg}{w:Wo}{A:Ar}{E:Vl→Sd→Prop}{s:Sd}{K:Frag}
end Att
namespace L2
open PySem PySem.Spec PyProof.Rows
theorem CJ:∀{vs:List Vl} {ns:List Int},IntsAre vs ns->qc (ns.map V.int) vs
 | _,_,.nil=>.nil
 | _,_,.cons n t h=>.cons ⟨t,rfl⟩ (CJ h)
def KZ(H:Hp):Prop:=∀b,H b=none\/∃o xs,H b=some (.frz o (.lst xs))
def Ls{P:Pg}{w:Wo}{K:pX}{mg mb:Str->Option Vl}{CX:JZ}{k:Nat}{fa a:Addr}{fd:FuncData}{x:Str}{sp:Sp}{s₁:Sd}{vs:List Vl}{ns:List Int} (KX:K.In s₁.heap) (hns:s₁.heap.Ns mainGlobals mg) (hb:s₁.heap.Ns builtinsNs mb) (hbb:∀x:Str,x≠"__name__"->mb x=bootBuiltins x) (hlim:s₁.heap.NoLimit) (hg:s₁.gens=#[]) (ha:s₁.heap.get? a=some {cls:=.type "list",data:=.seq vs.toArray}) (hi:IntsAre vs ns) (hl:ns.length<=sizeLine) (hr:rC k callerA)
  (F:∀base:Heap,K.In base->base.Ns mainGlobals mg->wC P w K mg base CX k fa fd [x] sp) (hbind:∀(s:Sd) (u:Vl),BindsTo s fd ⟨[u],[]⟩ [(x,u)])
  (W2:∀H:Hp,KZ H->yo K H a (ns.map V.int)->sp [.ref a] H (λv _=>v=.bl true) λ_ _ _=>False)
  (hCX:∀H e s',CX [] H s₁ (λ_ _ _=>False) e s'->False):
  codeAny (model P w) callerA (.call (.ref fa) ⟨[.ref a],[]⟩) (λr s'=>r=.ok (.ret (.bool true))/\OldK s₁.heap s'.heap/\s'.os=s₁.os/\AllBare s'.gens) s₁:=by
 have rv:=CJ hi;have lenV:=hi.length;have core:∀H:Hp,KZ H->yo K H a (ns.map V.int)->xK P w H s₁.heap->(∀b,H b≠none->b=a)->(H a≠none->K.lookup a=none)->
   codeAny (model P w) callerA (.call (.ref fa) ⟨[.ref a],[]⟩) (λr s'=>r=.ok (.ret (.bool true))/\OldK s₁.heap s'.heap/\s'.os=s₁.os/\AllBare s'.gens) s₁:=by
  intro H hO hS mE hA hK;have WX:∀{b:Addr} {o:Obj},s₁.heap.get? b=some o->H b=none->(EK s₁.heap H).get? b=some o:=λe n=>Kc e n;have noA:∀{b:Addr} {o:Obj} {es:Array DictEntry} {ep:Nat},s₁.heap.get? b=some o->o.data=.dict es ep->H b=none:=λ{b o es ep} e d=>by
   cases q:H b with
   | none=>rfl
   | some u=>have e':b=a:=hA b (by rw[q];simp);subst e';rw[ha]at e;cases e;have d':Data.seq vs.toArray _=Data.dict es ep:=d;cases d'
  have nsK:∀{b:Addr} {m:Str->Option Vl},s₁.heap.Ns b m->(EK s₁.heap H).Ns b m:=λ{b m} ⟨o,es,ep,e,d,r⟩=>⟨o,es,ep,WX e (noA e d),d,r⟩;have hKb:K.In (EK s₁.heap H):=λb o e=>WX (KX b o e) (by
   cases q:H b with
   | none=>rfl
   | some u=>
    have e':b=a:=hA b (by rw[q];simp);subst e';rw[hK (by rw[q];simp)]at e;cases e)
  have hM:Mod K mg (EK s₁.heap H):=⟨hKb,nsK hns,⟨mb,nsK hb,hbb⟩,let⟨mc,h1,h2⟩:=hlim;⟨mc,nsK h1,h2⟩⟩;have e0:GA P w K mg (EK s₁.heap H) callerA [] s₁ H:=⟨rfl,hM,λb o e=>O6 e,lW (Jo _ _),trivial,λb hb=>absurd (show b∈([]:List Addr)from hb) (by simp),mE,.of_eq hg⟩;refine gc ((F _ hKb (nsK hns)).run callerA [] s₁ H ⟨[.ref a],[]⟩ [.ref a] [.ref a] _ _ hr e0 (hbind s₁ (.ref a)) (.cons rfl .nil) (W2 H hO hS)) λr s' h=>?_;cases r with
  | error e=>exact(hCX H e s' h).elim
  | ok fl=>
   cases fl with
   | next=>exact False.elim h
   | brk=>exact False.elim h
   | cont=>exact False.elim h
   | ret u=>
    obtain⟨v,H',os,bare,un,Yt,r',q⟩:=h;have q':v=.bl true:=q;subst q';obtain rfl:u=Value.bool true:=r';refine⟨rfl,OldK.of_keep λb o e=>?_,os,bare⟩;cases q:H b with
    | none=>exact un.keep b o e q (by intro z;exact absurd (show b∈([]:List Addr)from z) (by simp)) (by simp)
    | some u=>
     rcases hO b with z|⟨ob,xs,z⟩
     .rw[q]at z;cases z
     .have z2:=un.mU b ob _ z;obtain⟨e1,_⟩:=mE b _ z;obtain⟨e2,_⟩:=Yt b _ z2;rw[e]at e1;cases e1;exact e2
 cases hk:K.lookup a with
 | some o=>have e:=KX a o hk;rw[ha]at e;cases e;refine core (λ_=>none) (λ_=>.inl rfl) (.inr ⟨_,vs.toArray,_,hk,rfl,rfl,rfl,by rw[dh,lenV];exact hl,by simpa using rv⟩) (λb u z=>by have z':(none:Option HO)=some u:=z;cases z') (λb z=>absurd rfl z) λz=>absurd rfl z
 | none=>
  refine core (λb=>if b=a then some (.frz {cls:=.type "list",data:=.seq vs.toArray} (.lst (ns.map V.int)))else none) (λb=>?_) (.inl (.inr ⟨{cls:=.type "list",data:=.seq vs.toArray},cX rfl⟩)) (λb u z=>?_) (λb z=>?_) λ_=>hk
  .by_cases hb:b=a
   .exact .inr ⟨_,_,cX hb⟩
   .exact .inl (cV hb)
  .by_cases hb:b=a
   .have z':=(cX hb).symm.trans z;cases z';subst hb;exact⟨ha,by rw[cQ];exact hl,vs,_,rv,ha⟩
   .have z':=(cV hb).symm.trans z;cases z'
  .by_cases hb:b=a
   .exact hb
   .exact absurd (cV hb) z
def OY{l:W.OpenLaw}{n k:Nat}{q:Pg}{Wr:List Str}{XP:(Str->Option Vl)->Heap->Prop}{YP:Wo->Heap->Prop}{d:DefRec}{K:Params->pX}{CX:Wo->JZ}{sp:Wo->Sp}{x:Str} (hn:l.most=some n) (Ym:n<=sizeLine) (X8:d.params.defaults=[]) (hr:rC k callerA) (hY:∀(w:Wo) (h:Heap),YP w h->(K w.params).In h) (F:∀(w:Wo) (mg:Str->Option Vl) (fa:Addr) (h:Heap),(K w.params).In h->h.Ns mainGlobals mg->mg d.name=some (.ref fa)->
   ∃fd:FuncData,(∀(s:Sd) (u:Vl),BindsTo s fd ⟨[u],[]⟩ [(x,u)])/\
    ∀base:Heap,(K w.params).In base->base.Ns mainGlobals mg->wC l.prog w (K w.params) mg base (CX w) k fa fd [x] (sp w))
  (W2:∀(w:Wo) (H:Hp) (a:Addr) (ns:List Int),ns.length<=n->KZ H->yo (K w.params) H a (ns.map V.int)->sp w [.ref a] H (λv _=>v=.bl true) λ_ _ _=>False)
  (hCX:∀(w:Wo) (H:Hp) (s:Sd) (e:Vl) (s':Sd),CX w [] H s (λ_ _ _=>False) e s'->False):
  W.WalkO q Wr XP YP l.row.toRowW d [] (λf vs=>PySem.call f vs):=by
 refine Att.attach_call hn X8 λw s₀ s₁ mg mb fa o pm cd We a vs ns G Y ho hd WA hmg Ys Xh VC hg=>?_;have KX:=hY w _ Y;obtain⟨fd,hb,hF⟩:=F w mg fa _ KX G.T.g hmg;exact Ls KX G.T.g G.T.b G.T.builtins G.T.nolimit hg Ys Xh (dU VC Ym) hr hF hb (λH hO hS=>W2 w H a ns VC hO hS) λH e s'=>hCX w H s₁ e s'
def NH(s:Stmt)(j:Nat):Stmt:=match s with
 | .ClassDef _ _ _ body _ _ _ _ _ _ _=>body.getD j (.Pass ⟨0,0,0,0⟩)
 | _=>.Pass ⟨0,0,0,0⟩
def tL(s:Stmt):Arguments:=match s with
 | .FunctionDef _ a _ _ _ _ _ _ _ _=>a
 | _=>{posonlyargs:=[],args:=[],vararg:=none,kwonlyargs:=[],kw_defaults:=[],kwarg:=none,defaults:=[]}
def rj(s:Stmt):List Stmt:=match s with
 | .FunctionDef _ _ b _ _ _ _ _ _ _=>b
 | _=>[]
def pL(s:Stmt):Scope:=match s with
 | .FunctionDef _ _ _ _ _ _ sc _ _ _=>sc
 | _=>{kind:=.function,names:=[],isGenerator:=false,isCoroutine:=false}
abbrev MI:JZ:=λ_ _ _ _ _ _=>False
abbrev E0:XK:=λ_ _ _=>False
def F7{X:Cx}:Bu MI X E0:=λ_ _ _ _ _ _ _ h=>h.elim
structure OS(K:pX)(x qual:Str)(st:Stmt)(f:Addr)(fd:FuncData):Prop where
 ex:∃(oc:Vl) (od:Option Addr) (kV We pm:Vl) (an:Option Addr) (VG ct:Vl) (Wv:Array (Option Vl)),
  fd=W.fnOf x qual (tL st) (rj st) (pL st) .none kV We pm an VG ct/\K.lookup f=some ⟨oc,od,.func fd,Wv⟩/\W.codeIn K VG qual=true
 kp:W.keepIn K (.ref f)=true
variable {P:Pg}{K:pX}{mg:Str→Option Vl}{base:Heap}
section
variable {w:Wo}
def OS.ok{x qual:Str}{st:Stmt}{f:Addr}{fd:FuncData}{N ps:List Str}{k:Nat}{sp:Sp}(F:OS K x qual st f fd)(S:se N ps (pL st))(len:∀vs H Q E,sp vs H Q E->vs.length=ps.length) (VT:∀(VG:Vl) (A:Ar) (outer:List Env) (s:Sd) (H:Hp) (vs:List V) (Q:VK) (E:XK),rC k (A.deeper (envOfC qual (pL st) s.heap.objs.size f VG))->sp vs H Q E->
   ∃t,BE (uE MI P w K mg base N qual (pL st) f VG A outer s H E).nZ (rj st) t/\t {nx:=λ_ H'=>Q .mz H',rt:=Q} (start N vs) H):wC P w K mg base MI (k+1) f fd ps sp:=by
 obtain⟨oc,od,kV,We,pm,an,VG,ct,Wv,rfl,lk,WA⟩:=F.ex;refine KY lk WA S len λA outer s H vs Q E hr W2=>?_;obtain⟨t,h,q⟩:=VT VG A outer s H vs Q E hr W2;exact⟨t,h.nZ,q⟩
def OS.binds{x qual:Str}{st:Stmt}{f:Addr}{fd:FuncData}{ps:List Str}(F:OS K x qual st f fd) (h:∀(kV We pm:Vl) (an:Option Addr) (VG ct:Vl) (us:List Vl),us.length=ps.length->bindArgs (W.fnOf x qual (tL st) (rj st) (pL st) .none kV We pm an VG ct) ⟨us,[]⟩=pure (ps.zip us)):ui K fd ps []:=by
 obtain⟨oc,od,kV,We,pm,an,VG,ct,Wv,rfl,lk,WA⟩:=F.ex;exact .all (h kV We pm an VG ct)
def La{x qual:Str}{st:Stmt}{f:Addr}{oc:Vl}{od an:Option Addr}{Wv:Array (Option Vl)}{kV We pm VG ct:Vl}(l:K.lookup f=some ⟨oc,od,.func (W.fnOf x qual (tL st) (rj st) (pL st) .none kV We pm an VG ct),Wv⟩) (c:W.codeIn K VG qual=true) (k:W.keepIn K (.ref f)=true):OS K x qual st f (W.fnOf x qual (tL st) (rj st) (pL st) .none kV We pm an VG ct):=⟨⟨oc,od,kV,We,pm,an,VG,ct,Wv,rfl,l,c⟩,k⟩
end
variable {X:Cx}
def pv(i:Nat){x:Str}{pos:Pos}(hN:X.N[i]?=some x:=by rfl)(hv:Qb X.env.scope x:=by first|exact Or.inl rfl|exact Or.inr (Or.inl rfl)|exact Or.inr (Or.inr rfl))(hd:yX x:=by decide)
  (WA:(x==("__classdict__":Str))=false:=by decide):PE X (.Name x pos) (Ex i):=KS hN hv hd WA
def xJ{A B:Prop}(h:B):if false=true then A else B:=by rw[cV df];exact h
def Dv{A B:Prop}(h:A):if true=true then A else B:=by rw[cX rfl];exact h
def qg{c A B:Prop}[Decidable c](h1:c->A)(h2:¬c->B):if c then A else B:=by
 by_cases h:c
 .rw[cX h];exact h1 h
 .rw[cV h];exact h2 h
def NW(H H':Hp):Prop:=∀b o,H b=some o->H' b=some o
def NW.trans{H H1 H2:Hp}(a:NW H H1)(b:NW H1 H2):NW H H2:=λc o h=>b c o (a c o h)
section
variable {κ:Type}[DecidableEq κ]
def we(kvs:List (κ×V))(k:κ):Option V:=(kvs.find? λkv=>decide (kv.1=k)).map (·.2)
def wX(kvs:List (κ×V))(k:κ)(v:V):List (κ×V):=
 if (kvs.any λkv=>decide (kv.1=k))=true then kvs.map (λkv=>if kv.1=k then(kv.1,v)else kv)else kvs++[(k,v)]
def BH{p:κ×V}{r:List (κ×V)}{k:κ}(e:p.1=k):we (p::r) k=some p.2:=by simp[we,fA,e]
def By{p:κ×V}{r:List (κ×V)}{k:κ}(e:¬p.1=k):we (p::r) k=we r k:=by simp[we,fA,e]
theorem FI(k:κ):∀kvs:List (κ×V),(kvs.any λkv=>decide (kv.1=k))=(we kvs k).isSome
 | []=>rfl
 | p::r=>by
  rw[fW];by_cases e:p.1=k
  .simp only[BH e,dO e,gY,Option.isSome_some]
  .rw[By e,eJ e,fG];exact FI k r
def zP(kvs:List (κ×V))(k:κ)(v:V):(wX kvs k v).length<=kvs.length+1:=by
 unfold wX;split
 .rw[cQ];omega
 .rw[cU,dW,dD];omega
def xN.m8{o:Option V}{u:Option Vl}(r:xN o u):o.isSome=u.isSome:=by
 cases o with
 | none=>cases u with
  | none=>rfl
  | some _=>exact(show False from r).elim
 | some _=>cases u with
  | none=>exact(show False from r).elim
  | some _=>rfl
def KV.val{kvs:List (κ×V)}{vs:List (κ×Vl)}(r:KV kvs vs)(k:κ):xN (we kvs k) (valueAt vs k):=by
 unfold KV at r;induction r with
 | nil=>exact True.intro
 | @cons p q ps qs h t ih=>
  obtain⟨h1,h2⟩:=h;by_cases e:p.1=k
  .have e':q.1=k:=h1.symm.trans e;have b:valueAt (q::qs) k=some q.2:=by simp[valueAt,fA,e']
   rw[BH e,b];exact h2
  .have e':¬q.1=k:=λz=>e (h1.trans z);have b:valueAt (q::qs) k=valueAt qs k:=by simp[valueAt,fA,e']
   rw[By e,b];exact ih
def KV.any{kvs:List (κ×V)}{vs:List (κ×Vl)}(r:KV kvs vs)(k:κ):(kvs.any λkv=>decide (kv.1=k))=vs.any λkv=>decide (kv.1=k):=by
 unfold KV at r;induction r with
 | nil=>rfl
 | cons h t ih=>rw[fW,fW,ih,h.1]
def KV.nR{kvs:List (κ×V)}{vs:List (κ×Vl)}(r:KV kvs vs)(k:κ){y:V}{u:Vl}(ry:qm y u):
  KV (kvs.map λkv=>if kv.1=k then(kv.1,y)else kv) (vs.map λkv=>if kv.1=k then(kv.1,u)else kv):=by
 unfold KV at r ⊢;induction r with
 | nil=>exact .nil
 | @cons p q ps qs h t ih=>
  rw[dQ,dQ];refine .cons ?_ ih;obtain⟨h1,h2⟩:=h;by_cases e:p.1=k
  .rw[cX e,cX (h1.symm.trans e)];exact⟨h1,ry⟩
  .rw[cV e,cV (λz=>e (h1.trans z))];exact⟨h1,h2⟩
def KV.put{kvs:List (κ×V)}{vs:List (κ×Vl)}(r:KV kvs vs)(k:κ){y:V}{u:Vl}(ry:qm y u):KV (wX kvs k y) (stored vs k u):=by
 unfold wX stored;rw[r.any k];by_cases e:(vs.any λkv=>decide (kv.1=k))=true
 .rw[cX e,cX e];exact r.nR k ry
 .rw[cV e,cV e];exact mf r ⟨rfl,ry⟩
def KV.length{kvs:List (κ×V)}{vs:List (κ×Vl)}(r:KV kvs vs):kvs.length=vs.length:=jd r
end
def FN{P:Pg}{w:Wo}{k:qE}{u:Vl}(r:qm (kV k) u):(qZ P w).is k u=true:=by
 cases k with
 | inl i=>obtain⟨t,e⟩:=(show ∃t,u=Value.int i t from r);subst e;exact Gc P w i t
 | inr x=>obtain⟨t,e⟩:=(show ∃t,u=Value.str x t from r);subst e;exact zQ P w x t
theorem CY{P:Pg}{w:Wo}:∀{ks:List qE} {us:List Vl},qc (ks.map kV) us->ItemsAre (qZ P w) ks us
 | [],_,r=>by rw[iE]at r;cases r;exact .nil
 | k::ks,_,r=>by
  rw[dQ]at r;cases r with
  | cons h t=>exact .cons (FN h) (CY t)
abbrev KT(H:Hp):List (List qE×V)->List (List qE×Addr×Vl)->Prop:=Paired λp q=>p.1=q.1/\H q.2.1=some (.tup (p.1.map kV))/\qm p.2 q.2.2
def KT.val{H:Hp}{kvs:List (List qE×V)}{xs:List (List qE×Addr×Vl)}(r:KT H kvs xs)(k:List qE):xN (we kvs k) ((atKey xs k).map (·.2)):=by
 induction r with
 | nil=>exact True.intro
 | @cons p q ps qs h t ih=>
  obtain⟨h1,_,h2⟩:=h;by_cases e:p.1=k
  .have e':q.1=k:=h1.symm.trans e;have b:atKey (q::qs) k=some q.2:=by simp[atKey,fA,e']
   rw[BH e,b];exact h2
  .have e':¬q.1=k:=λz=>e (h1.trans z);have b:atKey (q::qs) k=atKey qs k:=by simp[atKey,fA,e']
   rw[By e,b];exact ih
def KT.nR{H:Hp}{kvs:List (List qE×V)}{xs:List (List qE×Addr×Vl)}(r:KT H kvs xs)(k:List qE){y:V}{u:Vl}(ry:qm y u):
  KT H (kvs.map λkv=>if kv.1=k then(kv.1,y)else kv) (xs.map (putAt k u)):=by
 induction r with
 | nil=>exact .nil
 | @cons p q ps qs h t ih=>
  rw[dQ,dQ];refine .cons ?_ ih;obtain⟨h1,h2,h3⟩:=h;unfold putAt;by_cases e:p.1=k
  .rw[cX e,cX (h1.symm.trans e)];exact⟨h1,h2,ry⟩
  .rw[cV e,cV (λz=>e (h1.trans z))];exact⟨h1,h2,h3⟩
def KT.put{H:Hp}{kvs:List (List qE×V)}{xs:List (List qE×Addr×Vl)}(r:KT H kvs xs)(k:List qE){b:Addr}{y:V}{u:Vl}(hb:H b=some (.tup (k.map kV)))(ry:qm y u):
  KT H (wX kvs k y) (storedH xs k b u):=by
 have e:(kvs.any λkv=>decide (kv.1=k))=(atKey xs k).isSome:=by rw[FI,(r.val k).m8,jj]
 unfold wX storedH;rw[e];by_cases q:(atKey xs k).isSome=true
 .rw[cX q,cX q];exact r.nR k ry
 .rw[cV q,cV q];exact mf r ⟨rfl,hb,ry⟩
def KT.keeps{H H':Hp}{kvs:List (List qE×V)}{xs:List (List qE×Addr×Vl)}(r:KT H kvs xs)(ht:∀b ys,H b=some (.tup ys)->H' b=some (.tup ys)):KT H' kvs xs:=
 Paired.og r λ_ _ z=>⟨z.1,ht _ _ z.2.1,z.2.2⟩
variable {H:Hp}{h:Heap}{a:Addr}
section
variable {w:Wo}
def PH{u:HO}(ok:xK P w H h)(e:Rd H a u):sf P w H h a u:=e.ok ok
def IG{kvs:List (qE×V)}(ok:xK P w H h)(e:Rd H a (.dK kvs)):kvs.length<=sizeLine/\(a==sysModules)=false/\∃vs,KV kvs vs/\h.DictOf (qZ P w) a vs:=
 show sf P w H h a (.dK kvs)from PH ok e
def SY{kvs:List (qE×V)}(ok:xK P w H h)(e:H a=some (.dK kvs)):kvs.length<=sizeLine/\(a==sysModules)=false/\∃vs,KV kvs vs/\h.DictOf (qZ P w) a vs:=IG ok (.inl e)
def Eh{ks:List qE}(ok:xK P w H h)(e:H a=some (.tup (ks.map kV))):(tupleKind (qZ P w)).is h ks a:=by obtain⟨_,its,r,o,h1,h2,⟨n,h3⟩,_⟩:=(show sf P w H h a (.tup (ks.map kV))from ok a _ e);exact⟨o,its.toArray,n,h1,h2,h3,by simpa using CY r⟩
def Iy{kvs:List (List qE×V)}(ok:xK P w H h)(e:Rd H a (.dT kvs)):kvs.length<=sizeLine/\(a==sysModules)=false/\
  ∃xs,KT H kvs xs/\h.DictOfH (tupleKind (qZ P w)) a xs:=by
 obtain⟨z,y,xs,r,o,es,ep,h1,h2,h3,h4,h5⟩:=(show sf P w H h a (.dT kvs)from PH ok e);refine⟨z,y,xs,r,o,es,ep,h1,h2,h3,h4,λx hx=>?_,h5⟩;have all:∀{l:List (List qE×V)} {m:List (List qE×Addr×Vl)},KT H l m->∀x∈m,(tupleKind (qZ P w)).is h x.1 x.2.1:=by
  intro l m q;induction q with
  | nil=>intro x hx;exact nomatch hx
  | @cons p q ps qs hq t ih=>
   intro x hx;rcases cZ.mp hx with e|hx
   .subst e;exact Eh ok (by rw[<-hq.1];exact hq.2.1)
   .exact ih x hx
 exact all r x hx
def Sq{kvs:List (List qE×V)}(ok:xK P w H h)(e:H a=some (.dT kvs)):kvs.length<=sizeLine/\(a==sysModules)=false/\
  ∃xs,KT H kvs xs/\h.DictOfH (tupleKind (qZ P w)) a xs:=Iy ok (.inl e)
end
def DZ(H:Hp)(a:Addr)(y:V)(r:Option V):Prop:=
 (∃kvs k,Rd H a (.dK kvs)/\y=kV k/\r=we kvs k)\/∃kvs k b,Rd H a (.dT kvs)/\y=.ref b/\H b=some (.tup (k.map kV))/\r=we kvs k
def Ld(H:Hp)(a:Addr)(y v:V)(H':Hp):Prop:=
 (∃kvs k,H a=some (.dK kvs)/\y=kV k/\kvs.length<sizeLine/\H'=upd H a (.dK (wX kvs k v)))\/
 ∃kvs k b,H a=some (.dT kvs)/\y=.ref b/\H b=some (.tup (k.map kV))/\kvs.length<sizeLine/\H'=upd H a (.dT (wX kvs k v))
def DZ.k{H:Hp}{a:Addr}{kvs:List (qE×V)}{k:qE}(e:H a=some (.dK kvs)):DZ H a (kV k) (we kvs k):=.inl ⟨kvs,k,.inl e,rfl,rfl⟩
def Ld.k{H:Hp}{a:Addr}{kvs:List (qE×V)}{k:qE}{v:V}(e:H a=some (.dK kvs))(hl:kvs.length<sizeLine):Ld H a (kV k) v (upd H a (.dK (wX kvs k v))):=.inl ⟨kvs,k,e,rfl,hl,rfl⟩
variable {Vw:List (Addr × Obj)}{σ:St}{y v:V}{u r:Vl}
section
variable {s:Sd}{o:Option V}{A:Ar}{E:Vl→Sd→Prop}
def Inv.big(I:Inv X Vw σ H s):sysModules<s.heap.objs.size:=by have h:mainGlobals<s.heap.objs.size:=(I.mod.glob.keeps I.bk).lt;exact jy (by decide) h
def IP{Q:Vl->Sd->Prop}(hu:A.units+1<cLine)(I:Inv X Vw σ H s)(g:DZ H a y (some v))(ry:qm y u)(h:∀w' s',Inv X Vw σ H s'->qm v w'->Q w' s'):
  wpAny (model X.prog X.w) A (getItem (.ref a) u) Q E s:=by
 rcases g with⟨kvs,k,e,ey,l⟩|⟨kvs,k,b,e,ey,eb,l⟩
 .subst ey;obtain⟨z,hd,vs,rel,dd⟩:=IG I.mE e;obtain⟨w',hw,XI⟩:=xN.some_of (v:=v) (o:=valueAt vs k) (by rw[l];exact rel.val k);exact wpAny_getItem_of (FN ry) dd.mapOf hw (h w' _ (I.tok _) XI)
 .subst ey;cases(show u=Value.ref b from ry);obtain⟨z,hd,xs,rel,dd⟩:=Iy I.mE e;obtain⟨w',hw,XI⟩:=xN.some_of (v:=v) (o:=(atKey xs k).map (·.2)) (by rw[l];exact rel.val k);obtain⟨p,hp,VH⟩:=iq.mp hw;refine wpAny_getItem_heap (iY hu) (Eh I.mE eb) dd hp ?_;rw[VH];exact h w' _ (I.tok _) XI
def UI{Q:Vl->Sd->Prop}(hu:A.units+1<cLine)(I:Inv X Vw σ H s)(g:DZ H a y o)(ry:qm y u)(h:∀s',Inv X Vw σ H s'->Q (.bool o.isSome) s'):
  wpAny (model X.prog X.w) A (compareOp .In u (.ref a)) Q E s:=by
 rcases g with⟨kvs,k,e,ey,l⟩|⟨kvs,k,b,e,ey,eb,l⟩
 .subst ey;obtain⟨z,hd,vs,rel,dd⟩:=IG I.mE e;refine wpAny_in_of (FN ry) hd dd.mapOf ?_;rw[<-(rel.val k).m8,<-l];exact h _ (I.tok _)
 .subst ey;cases(show u=Value.ref b from ry);obtain⟨z,hd,xs,rel,dd⟩:=Iy I.mE e;refine wpAny_in_heap (iY hu) (Eh I.mE eb) hd dd ?_;have q:=(rel.val k).m8;rw[jj]at q;rw[<-q,<-l];exact h _ (I.tok _)
def HP{h':Heap}{t':Nat}{ob:HO}(I:Inv X Vw σ H s)(mu:SV (H a))(hs:Heap.SameBut a s.heap h')(he:∃q,h'.get? a=some q)(new:sf X.prog X.w (upd H a ob) h' a ob):
  Inv X Vw σ (upd H a ob) {s with heap:=h',toks:=t'}:=
 I.write (x:=a) (e:=a) mu (.inl rfl) (λb q hb z=>(hs.2 b hb).trans z) he new
def Ma{P:Pg}{w:Wo}{H':Hp}{h':Heap}{kvs:List (qE×V)}{vs:List (qE×Vl)}(z:kvs.length<=sizeLine)(hd:(a==sysModules)=false)(rel:KV kvs vs)(dd:h'.DictOf (qZ P w) a vs):
  sf P w H' h' a (.dK kvs):=⟨z,hd,vs,rel,dd⟩
def IL{H':Hp}{Q:Unit->Sd->Prop}(hu:A.units+1<cLine)(I:Inv X Vw σ H s)(g:Ld H a y v H')(ry:qm y u)(rv:qm v r)(h:∀s',Inv X Vw σ H' s'->Q () s'):
  wpAny (model X.prog X.w) A (setItem (.ref a) u r) Q E s:=by
 rcases g with⟨kvs,k,e,ey,l,eH⟩|⟨kvs,k,b,e,ey,eb,l,eH⟩
 .subst ey eH;obtain⟨z,hd,vs,rel,dd⟩:=SY I.mE e;have hz:vs.length<=sizeLine:=by rw[<-rel.length];exact z
  have hl:(wX kvs k v).length<=sizeLine:=by have:=zP kvs k v;omega
  refine wpAny_setItem_pairs (hsz:=hz) (FN ry) dd λh' dd' hs=>h _ ?_;have he:∃q,h'.get? a=some q:=let⟨q,_,_,hq,_⟩:=dd';⟨q,hq⟩;exact HP I (by rw[e];exact True.intro) hs he (Ma hl hd (rel.put k rv) dd')
 .subst ey eH;cases(show u=Value.ref b from ry);obtain⟨z,hd,xs,rel,dd⟩:=Sq I.mE e;have hz:xs.length<=sizeLine:=by rw[<-jd rel];exact z
  have hl:(wX kvs k v).length<=sizeLine:=by have:=zP kvs k v;omega
  refine wpAny_setItem_heap (hsz:=hz) (iY hu) (Eh I.mE eb) dd λh' dd' hs=>h _ ?_;obtain⟨q,es,ep,hq,h2,h3,h4,_,h5⟩:=dd';refine HP I (by rw[e];exact True.intro) hs ⟨q,hq⟩ ⟨hl,hd,_,(rel.put k eb rv).keeps λc ys ec=>?_,q,es,ep,hq,h2,h3,h4,h5⟩;rw[pH (Te ec e (λz=>nomatch z))];exact ec
end
variable {kvs:List (qE × V)}{k:qE}
section
variable {s:Sd}{A:Ar}{E:Vl→Sd→Prop}
end
def F1{X:Cx}{Vw:List (Addr×Obj)}{σ:St}{H:Hp}{s:Sd}{a:Addr}{y:V}{o:Option V}(I:Inv X Vw σ H s)(g:DZ H a y o):s.TypeIs (.ref a) "dict":=by
 rcases g with⟨kvs,k,e,_,_⟩|⟨kvs,k,b,e,_,_,_⟩
 .obtain⟨_,_,vs,_,dd⟩:=IG I.mE e;exact dd.typeIs
 .obtain⟨_,_,xs,_,dd⟩:=Iy I.mE e;exact dd.typeIs
def SR(td ty tv:TE):TS:=λD σ H=>tv σ H λv H1=>td σ H1 λx H2=>ty σ H2 λy H3=>∃a H4,x=.ref a/\Ld H3 a y v H4/\D.nx σ H4
variable {i e value:Expr}{pos VF XH:Pos}{td ty tv:TE}
section
variable {o:Expr}
def Nh(hu:X.A.units+1<cLine)(ho:PE X o td)(hi:PE X i ty)(hv:PE X value tv)(hs:swapsWith value (some (.Subscript o i VF)) pos.line X.env=pure false):
  PS X (.Assign [.Subscript o i VF] value pos) (SR td ty tv):=by
 intro Vw s σ H D I h;refine wpAny_Assign_Subscript (rQ (hv Vw s σ H _ I h) λr s1 zz=>x5 zz λv H1 I1 rv q1=>rQ (ho Vw s1 σ H1 _ I1 q1) λu s2 zz=>x5 zz λx H2 I2 rx q2=>rQ (hi Vw s2 σ H2 _ I2 q2) λiv s3 zz=>?_) hs;obtain⟨y,H3,I3,ry,a,H4,ex,g,q3⟩:=zz;subst ex;obtain rfl:u=Value.ref a:=rx;exact IL hu I3 g ry rv λs4 I4=>⟨σ,H4,I4,q3⟩
end
def Rb(kvs more:List (qE×V)):List (qE×V):=more.foldl (λacc kv=>wX acc kv.1 kv.2) kvs
def KV.merge:∀{more:List (qE×V)} {rs:List (qE×Vl)} {kvs:List (qE×V)} {vs:List (qE×Vl)},KV more rs->KV kvs vs->KV (Rb kvs more) (merged vs rs):=by
 intro more rs kvs vs r;unfold KV at r;induction r generalizing kvs vs with
 | nil=>intro q;exact q
 | @cons p q ps qs h t ih=>
  intro r0;have e:KV (wX kvs p.1 p.2) (stored vs q.1 q.2):=by have:=r0.put p.1 h.2;rw[<-h.1];exact this
  exact ih e
structure M1(X:Cx)(o:Expr)(m:Str)(VA:Pos)(e:Expr)(VE:Pos):Prop where
 base:attributeBase o m X.env (eval o X.env)=eval o X.env
 oG:((backTo VE (starEach [e] X.env)).all (λx=>!x.1)&&(backToKw VE (keywordEach [] X.env)).all (λx=>x.1.isSome)
  &&decide (([e]:List Expr).length+([]:List Keyword).length+(if ([]:List Keyword).isEmpty then 0 else 1)<30))=true
 line:(VA.endLine==VE.line)=true
 trees:backTo VE (starEach [e] X.env)=[(false,eval e X.env)]
structure M2(X:Cx)(o:Expr)(m:Str)(VA:Pos)(e f:Expr)(VE:Pos):Prop where
 base:attributeBase o m X.env (eval o X.env)=eval o X.env
 oG:((backTo VE (starEach [e,f] X.env)).all (λx=>!x.1)&&(backToKw VE (keywordEach [] X.env)).all (λx=>x.1.isSome)
  &&decide (([e,f]:List Expr).length+([]:List Keyword).length+(if ([]:List Keyword).isEmpty then 0 else 1)<30))=true
 line:(VA.endLine==VE.line)=true
 trees:backTo VE (starEach [e,f] X.env)=[(false,eval e X.env),(false,eval f X.env)]
variable {d:V}
section
variable {s:Sd}{o:Option V}{A:Ar}{E:Vl→Sd→Prop}
end
variable {f:Expr}{VA VE:Pos}{tx:TE}
section
variable {o:Expr}
end
section
variable {s:Sd}{A:Ar}{E:Vl→Sd→Prop}
end
section
variable {s:Sd}{A:Ar}{E:Vl→Sd→Prop}
end
section
variable {κ:Type}[DecidableEq κ]
end
def Af(env:Env):List (Str×NameKind)->List (Str×Addr)->List (Str×Addr)
 | [],acc=>acc
 | (n,k)::r,acc=>Af env r (if k==.free then(n,(env.cells.lookup n).getD 0)::acc else acc)
theorem Fz{env:Env}{f:(Str×NameKind)->List (Str×Addr)->Sem (ForInStep (List (Str×Addr)))} (hf:∀x cs,(x.2=.free->∃c,env.cells.lookup x.1=some c)->f x cs=pure (.yield (if x.2==.free then(x.1,(env.cells.lookup x.1).getD 0)::cs else cs))):
  ∀(l:List (Str×NameKind)) (acc:List (Str×Addr)),(∀x∈l,x.2=.free->∃c,env.cells.lookup x.1=some c)->forIn l acc f=pure (Af env l acc)
 | [],acc,_=>by rw[jW];rfl
 | (n,k)::r,acc,h=>by rw[jL,hf (n,k) acc (h _ dH),pure_bind];exact Fz hf r _ λx hx=>h x (dA _ hx)
def xP{scope:Scope}{env:Env}(h:∀x∈scope.names,x.2=.free->∃c,env.cells.lookup x.1=some c):closureFor scope env=pure (Af env scope.names []):=by
 unfold closureFor;have e:=Fz (env:=env) (f:=λ(x:Str×NameKind) (cs:List (Str×Addr))=>(do
   if x.2==.free then
    let a<-cellOf env x.1
    pure (ForInStep.yield ((x.1,a)::cs))
   else pure (ForInStep.yield cs))) (λx cs hx=>by
  cases hk:x.2==NameKind.free with
  | false=>simp
  | true=>
   obtain⟨c,hc⟩:=hx (by simpa using hk);simp[cellOf,hc]) scope.names [] h
 first
  | exact(eL (·>>=pure) e).trans (by simp)
  | (simp only[bind_pure];exact e)
  | (rw[<-e];rfl)
theorem Kh{env:Env}{x:Str}{c:Addr}:∀{l:List (Str×NameKind)} {acc:List (Str×Addr)},(∀x∈l,x.2=.free->∃c,env.cells.lookup x.1=some c)->(∀x c,acc.lookup x=some c->env.cells.lookup x=some c)->(Af env l acc).lookup x=some c->env.cells.lookup x=some c
 | [],acc,_,ha,h=>ha x c h
 | (n,k)::r,acc,hl,ha,h=>by
  refine Kh (l:=r) (acc:=if k==.free then(n,(env.cells.lookup n).getD 0)::acc else acc) (λy hy=>hl y (dA _ hy)) (λy d hd=>?_) h;cases hk:k==NameKind.free with
  | false=>rw[hk]at hd;exact ha y d (by simpa using hd)
  | true=>
   rw[hk,cX rfl]at hd;obtain⟨e,he⟩:=hl (n,k) dH (by simpa using hk);rw[eG]at hd;cases hy:y==n with
   | true=>
    rw[hy]at hd;have yn:y=n:=by simpa using hy
    subst yn;have he:env.cells.lookup y=some e:=he;rw[he]at hd ⊢;exact hd
   | false=>rw[hy]at hd;exact ha y d hd
theorem LO{env:Env}{x:Str}:∀{l:List (Str×NameKind)} {acc:List (Str×Addr)},(∃c,acc.lookup x=some c)->∃c,(Af env l acc).lookup x=some c
 | [],_,h=>h
 | (n,k)::r,acc,h=>by
  refine LO (l:=r) ?_;cases hk:k==NameKind.free with
  | false=>simpa using h
  | true=>
   rw[cX rfl,eG];cases hy:x==n with
   | true=>exact⟨_,rfl⟩
   | false=>exact h
theorem Gh{env:Env}{x:Str}:∀{l:List (Str×NameKind)} {acc:List (Str×Addr)},l.lookup x=some .free->∃c,(Af env l acc).lookup x=some c
 | [],_,h=>by simp at h
 | (n,k)::r,acc,h=>by
  rw[eG]at h;cases hy:x==n with
  | true=>rw[hy]at h;have hk:k=.free:=de h;subst hk;refine LO (l:=r) ⟨(env.cells.lookup n).getD 0,?_⟩;show List.lookup x (if NameKind.free==NameKind.free then(n,(env.cells.lookup n).getD 0)::acc else acc)=some ((env.cells.lookup n).getD 0);rw[cX (by rfl),eG,hy]
  | false=>rw[hy]at h;exact Gh (l:=r) h
theorem tV{env:Env}{x:Str}:∀{l:List (Str×NameKind)},(l.map λ(n,k)=>if (k==NameKind.free&&env.scope.kind==.function&&env.kindOf n==some .cell)then(n,NameKind.cell)else(n,k)).lookup x
   = (l.lookup x).map λk=>if (k==NameKind.free&&env.scope.kind==.function&&env.kindOf x==some .cell)then NameKind.cell else k
 | []=>rfl
 | (n,k)::r=>by
  rw[dQ];show List.lookup x ((if (k==NameKind.free&&env.scope.kind==.function&&env.kindOf n==some .cell)=true then(n,NameKind.cell)else(n,k))::_)=_;cases hy:x==n with
  | true=>
   have yn:x=n:=by simpa using hy
   subst yn;by_cases hc:(k==NameKind.free&&env.scope.kind==.function&&env.kindOf x==some .cell)=true
   .rw[cX hc,eG,eG,hy];simp only[jM];rw[cX hc]
   .rw[cV hc,eG,eG,hy];simp only[jM];rw[cV hc]
  | false=>
   by_cases hc:(k==NameKind.free&&env.scope.kind==.function&&env.kindOf n==some .cell)=true
   .rw[cX hc,eG,eG,hy];exact tV
   .rw[cV hc,eG,eG,hy];exact tV
def M8(ix:List (Option Nat))(σ:St):St:=ix.map λo=>o.bind λi=>(σ[i]?).join
abbrev Cx.comp(X:Cx)(scope:Scope)(N':List Str)(C:Addr)(s0:Sd)(H0:Hp)(ex:List Addr):Cx:=
 {X with N:=N',s₀:=s0,H₀:=H0,env:=compEnvC scope (Af X.env scope.names []) C X.env,outer:=X.stack,ex:=ex,fn:=λ_=>false,pn:=[],xe:=λ_ _=>False}
structure rH(X:Cx)(scope:Scope)(ix:List (Option Nat))(N':List Str):Prop where
 kind:scope.kind=.function
 nY:∀y∈scope.names,y.2≠.cell
 nam:∀y∈scope.names,y.2=.local->scope.names.lookup y.1=some .local
 fre:∀y∈scope.names,y.2=.free->X.env.scope.names.lookup y.1=some .cell\/X.env.scope.names.lookup y.1=some .free
 len:ix.length=N'.length
 at_:∀(j i:Nat) (x:Str),ix[j]?=some (some i)->N'[j]?=some x->X.N[i]?=some x/\scope.names.lookup x=some .free
variable {scope:Scope}{ix:List (Option Nat)}{N':List Str}{fp:List Addr}
section
variable {s:Sd}
def rH.cells(S:rH X scope ix N')(ok:X.Ok):∀x∈scope.names,x.2=.free->∃c,X.env.cells.lookup x.1=some c:=λx hx hk=>ok.has x.1 (S.fre x hx hk)
def rH.sub(S:rH X scope ix N')(ok:X.Ok){x:Str}{c:Addr}(h:(Af X.env scope.names []).lookup x=some c):X.env.cells.lookup x=some c:=Kh (S.cells ok) (λ_ _ z=>by simp at z) h
theorem uI{x:Str}{k:NameKind}:∀{l:List (Str×NameKind)},l.lookup x=some k->(x,k)∈l
 | [],h=>by simp at h
 | (n,j)::r,h=>by
  rw[eG]at h;cases hy:x==n with
  | true=>
   rw[hy]at h;have yn:x=n:=by simpa using hy
   subst yn;rw[de h];exact dH
  | false=>rw[hy]at h;exact dA _ (uI h)
def Inv.comp{C:Addr}{h1:Heap}{tk:Nat}(I:Inv X Vw σ H s)(S:rH X scope ix N')(hf:∀b∈fp,Aj X Vw H b)(VL:∀b∈fp,b<s.heap.objs.size)(hC:s.heap.objs.size<=C) (k:∀b o,s.heap.get? b=some o->h1.get? b=some o) (hn:h1.Ns C (λ_=>none)):Inv (X.comp scope N' C s H fp) (X.pn++Vw) (M8 ix σ) H {s with heap:=h1,toks:=tk}:=by
 have sub:∀{x:Str} {c:Addr},(Af X.env scope.names []).lookup x=some c->X.env.cells.lookup x=some c:=λh=>S.sub I.ok h;refine⟨⟨I.ok.mod,S.kind,I.ok.glob,I.ok.blt,hC,λx y c e1 e2=>I.ok.inj x y c (sub e1) (sub e2),λx hx=>?_,λ_ _ z=>(df z).elim,I.ok.hd,I.ok.frames,.inl rfl,λb hb=>⟨dE (dF (VL b hb) hC),λx c e=>(hf b hb).2.2.2.2.1 x c (sub e)⟩,I.bs,dU I.ok.nJ I.sz,λb o e hb=>?_,λb hb hfs=>?_,I.stack,I.ni⟩,rfl,I.bare,Un.kept k,⟨_,hn,λi x v e1 e2 e3=>?_⟩,λx c e=>?_,I.mE.fresh hC,λx c e=>I.mK x c (sub e),λp hp=>?_,I.mE.kept k,?_⟩
 .have hx:(relabel scope X.env).names.lookup x=some .cell\/(relabel scope X.env).names.lookup x=some .free:=hx;have e:(relabel scope X.env).names.lookup x=(scope.names.lookup x).map λk=>if (k==NameKind.free&&X.env.scope.kind==.function&&X.env.kindOf x==some .cell)then NameKind.cell else k:=tV
  rw[e]at hx;cases q:scope.names.lookup x with
  | none=>rw[q]at hx;rcases hx with hx|hx<;>simp at hx
  | some kd=>
   cases kd with
   | free=>exact Gh q
   | cell=>exact absurd rfl (S.nY _ (uI q))
   | _=>rw[q]at hx;rcases hx with hx|hx<;>simp at hx
 .rcases(hf b hb).2.2.2.1 with z|z
  .exact I.ok.nA b o e z
  .exact absurd (dF (dq e) (dU I.ok.nJ z)) (eV _)
 .rcases cZ.mp (I.mY b hfs)with z|z
  .exact(hf b hb).2.1 z
  .exact(hf b hb).2.2.1 z
 .have XM:(ix[i]?).map (λo=>o.bind λi=>(σ[i]?).join)=some (some v):=by have z:(M8 ix σ)[i]?=some (some v):=e2;unfold M8 at z;rw[dw]at z;exact z
  cases q:ix[i]? with
  | none=>rw[q]at XM;cases XM
  | some o=>
   rw[q]at XM;cases o with
   | none=>cases XM
   | some j=>
    have XN:(σ[j]?).join=some v:=de XM;have e4:σ[j]?=some (some v):=by
     cases r:σ[j]? with
     | none=>rw[r]at XN;cases XN
     | some w=>rw[r]at XN;exact eL some XN
    obtain⟨n1,n2⟩:=S.at_ i j x q e1;obtain⟨m,hm,hl⟩:=I.loc;have hk:=S.fre _ (uI n2) rfl;have hv:Qb X.env.scope x:=by
     rcases hk with z|z
     .exact .inr (.inl z)
     .exact .inr (.inr z)
    obtain⟨u,ru,lk⟩:=hl j x v n1 e4 hv;refine⟨u,ru,?_⟩;have Yu:X.env.kindOf x=some .cell\/X.env.kindOf x=some .free:=hk;rcases lk with⟨z,_⟩|⟨_,c,hc,hcell⟩
    .rcases Yu with y|y<;>(rw[y]at z;cases z)
    .obtain⟨c',hc'⟩:=Gh (env:=X.env) (acc:=[]) n2;have:=sub hc';rw[hc]at this;cases this;refine .inr ⟨?_,c,hc',hcell.keeps k⟩;show(relabel scope X.env).names.lookup x=some .cell\/(relabel scope X.env).names.lookup x=some .free;have e:(relabel scope X.env).names.lookup x=(scope.names.lookup x).map λk=>if (k==NameKind.free&&X.env.scope.kind==.function&&X.env.kindOf x==some .cell)then NameKind.cell else k:=tV
     rw[e,n2];simp only[jM];split
     .exact .inl rfl
     .exact .inr rfl
 .obtain⟨v,q⟩:=I.cell x c (sub e);exact⟨v,q.keeps k⟩
 .obtain⟨e,n,ne,nf,d⟩:=I.pin p (by simpa using hp);refine⟨k _ _ e,n,dE (dF (dq e) hC),λz=>?_,d⟩;rcases cZ.mp (I.mY p.1 z)with y|y
  .exact ne y
  .exact nf y
 .show(M8 ix σ).length=N'.length;unfold M8;rw[cQ];exact S.len
end
section
variable {prog:Pg}{w:Wo}{A:Ar}{R:Result→Sd→Prop}{s:Sd}
def xp{Wt V4 iter:Expr}{Wc:List Expr}{scope:Scope}{pos:Pos}{it acc:Vl}{env:Env}(I:Nat->Sd->Prop){EX:Vl->Sd->Prop}(hEX:∀e s',EX e s'->notedBy (model prog w) A env (λx s'=>R (.error x) s') e s') (turn:∀n s,I n s->wpAny (model prog w) A (pyNext it) (λr s₁=>match r with
   | none=>R (.ok .next) s₁
   | some v=>wpAny (model prog w) A (letOwnedTupleGo V4 it v) (λ_ s₁=>wpAny (model prog w) A (assign V4 env v) (λ_ s₂=>
     wpAny (model prog w) A (forIn Wc true λc r=>if r=true then do let ok<-isTrue c env (eval c env);pure (ForInStep.yield ok)else pure (ForInStep.yield r)) (λok s₃=>
      if ok=true then wpAny (model prog w) A (eval Wt env) (λx s₄=>
       wpAny (model prog w) A (call (.builtin "list.append") [acc,x]) (λ_ s₅=>∃m,m<n/\I m s₅) (λ_ _=>False) s₄) EX s₃
      else ∃m,m<n/\I m s₃) (λ_ _=>False) s₂) (λ_ _=>False) s₁) (λ_ _=>False) s₁) (λ_ _=>False) s)
  (n:Nat) (h:I n s):
  codeAny (model prog w) A (.compLoop (.ListComp Wt [⟨V4,iter,Wc,0⟩] scope pos) 0 it acc env) R s:=by
 refine codeAny_loop rfl I (λn s hI=>?_) n h;show wpAny _ A ((compTurn (.ListComp Wt [⟨V4,iter,Wc,0⟩] scope pos) 0 it acc env).onRaise (λx=>do noteFrame x env;theTreesLotGoes x)) _ _ s;refine wpAny_noted ?_;rw[compTurn_list];refine cR (gK (cR (dZ (turn n s hI) (λr s₁ h₁=>?_) λ_ _ h'=>h'.elim)));cases r with
 | none=>exact cY h₁
 | some v=>
  refine cR (dZ h₁ (λ_ s₁' h₁'=>?_) λ_ _ h'=>h'.elim);refine cR (dZ h₁' (λ_ s₂ h₂=>cR (dZ h₂ (λok s₃ h₃=>?_) λ_ _ h'=>h'.elim)) λ_ _ h'=>h'.elim);cases ok with
  | false=>exact cY ⟨rfl,h₃⟩
  | true=>exact cR (cR (dZ h₃ (λx s₄ h₄=>cR (dZ h₄ (λ_ s₅ h₅=>cY (cY ⟨rfl,h₅⟩)) λ_ _ h'=>h'.elim)) hEX))
end
def PF(X:Cx)(Wc:List Expr)(t:TT):Prop:=
 ∀(Vw:List (Addr×Obj)) (s:Sd) (σ:St) (H:Hp) (Q:Bool->Hp->Prop),Inv X Vw σ H s->t σ H Q->
  wpAny (model X.prog X.w) X.A (forIn Wc true λc r=>if r=true then do let ok<-isTrue c X.env (eval c X.env);pure (ForInStep.yield ok)else pure (ForInStep.yield r)) (TP X Vw σ Q) X.xe s
def SJ:TT:=λ_ H Q=>Q true H
def Qw{X:Cx}:PF X [] SJ:=λ_ _ _ H _ I h=>wpAny_tests_nil ⟨H,I,h⟩
def Ru{X:Cx}{c:Expr}{t:TT}(h:PT X c t):PF X [c] t:=λVw s σ H Q I q=>wpAny_tests_one (h Vw s σ H Q I q)
def Px(ix:List (Option Nat))(g:TG)(tt:TT)(te:TE)(σ:St)(J:It)(Q:VK)(H:Hp):Prop:=
 ∃W:Nat->Nat->List V->St->Hp->Prop,(∃m,W 0 m [] (M8 ix σ) H)/\∀i m ys σ' H,W i m ys σ' H->
  (J.stop i H/\ys.length<=sizeLine/\∀D,H D=none->Q (.ref D) (upd H D (.lst ys)))\/
  (J.go i H/\ys.length<sizeLine/\∀x H',J.om i H x H'->g x σ' H' λσ2 H2=>tt σ2 H2 λb H3=>if b=true then te σ2 H3 λy H4=>∃m',m'<m/\W (i+1) m' (ys++[y]) σ2 H4 else ∃m',m'<m/\W (i+1) m' ys σ2 H3)
def K5(ix:List (Option Nat))(wi:TI)(g:TG)(tt:TT)(te:TE):TE:=λσ H Q=>wi σ H λJ H1=>Px ix g tt te σ J Q H1
variable {tg iter Wt:Expr}{Wc:List Expr}{g:TG}{tt:TT}{te:TE}{J:It}{it:Addr}{tn:Nat→Heap→Prop}{Q:VK}
section
variable {s:Sd}
def BU{XP:Addr->Sd->Hp->List Addr->List (Addr×Obj)->St->Vl->Sd->Prop}{RR:Vl->Addr->Result->Sd->Prop}{E:Vl->Sd->Prop}(hc:X.calm=true)(S:rH X scope ix N')(I:Inv X Vw σ H s)(T:Fx X.prog X.w X.K tg J fp it tn)(st:tn 0 s.heap)(hf:∀b∈fp,Aj X Vw H b) (hg:∀C s0 H0 ex,PG (X.comp scope N' C s0 H0 ex) tg g) (ht:∀C s0 H0 ex,PF (X.comp scope N' C s0 H0 ex) Wc tt) (he:∀C s0 H0 ex Vw s σ H Q,Inv (X.comp scope N' C s0 H0 ex) Vw σ H s->te σ H Q->wpAny (model X.prog X.w) X.A (eval Wt (X.comp scope N' C s0 H0 ex).env) (EP (X.comp scope N' C s0 H0 ex) Vw σ Q) (XP C s0 H0 ex Vw σ) s) (hx:∀C D e s',s.heap.objs.size<=C->(∃Wz σ',(∀b∈fp,∃o,(b,o)∈Wz)/\XP C s H fp Wz σ' e s')->notedBy (model X.prog X.w) X.A (compEnvC scope (Af X.env scope.names []) C X.env) (λx s'=>RR D C (.error x) s') e s') (hw:Px ix g tt te σ J Q H) (VB:∀D C s' H' m,s.heap.objs.size<=C->H' C=none->s'.heap.Ns C m->Inv X Vw σ H' s'->Q (.ref D) H'->RR (.ref D) C (.ok .next) s'):
  wpAny (model X.prog X.w) X.A (newList []) (λacc s₃=>wpAny (model X.prog X.w) X.A (newFunctionEnv scope X.env.globals (Af X.env scope.names []) [] X.env.qual none .none (some X.env)) (λWj s₄=>
   codeAny (model X.prog X.w) X.A (.compStart (.ListComp Wt [⟨tg,iter,Wc,0⟩] scope pos) 0 (.ref it) acc {Wj with scope:=relabel scope X.env}) (RR acc Wj.locals) s₄) E s₃) E s:=by
 obtain⟨W,⟨m0,w0⟩,turn⟩:=hw;have VL:∀b∈fp,b<s.heap.objs.size:=λb hb=>by obtain⟨o,e,_⟩:=T.obj _ _ st b hb;exact dq e
 refine fP (wpAny_newFunctionEnv S.nY (by intro y hy;simp at hy) (λh₁ Xi XO=>?_) S.kind);dsimp only at Xi XO ⊢;generalize hH2:s.heap.push {cls:=.type "list",dict:=none,data:=.seq ([]:List Vl).toArray}=H2 at Xi XO ⊢;have hC:H2.objs.size=s.heap.objs.size+1:=by rw[<-hH2,fi]
 have hDC:s.heap.objs.size≠H2.objs.size:=by rw[hC];exact dE (fu _)
 have XQ:s.heap.objs.size<=H2.objs.size:=by rw[hC];exact gR _
 have X9:∀b,b<s.heap.objs.size->b≠H2.objs.size/\b≠s.heap.objs.size:=λb hb=>⟨by rw[hC];exact dE (gT hb),dE hb⟩;have Wk:∀b o,s.heap.get? b=some o->h₁.get? b=some o:=λb o e=>XO.extBut b o (X9 b (dq e)).1 (cW _ (hH2 ▸ cW _ e));have hacc:h₁.get? s.heap.objs.size=some {cls:=.type "list",data:=.seq ([]:List Vl).toArray 0}:=XO.extBut _ _ hDC (cW _ (hH2 ▸ dC _ rfl));have Xi:h₁.Ns H2.objs.size (λ_=>none):=Xi;have WN:∀{H':Hp} {pl:List (Addr×Obj)},(∀b∈fp,H' b=none)->(∀p∈pl,p.1∉fp)->∀b∈fp,Aj (X.comp scope N' H2.objs.size s H fp) (X.pn++Vw++pl) H' b:=λ{H' pl} hn VN b hb=>by
  refine⟨hn b hb,dE (dF (VL b hb) XQ),λz=>?_,.inl hb,λx c e=>(hf b hb).2.2.2.2.1 x c (S.sub I.ok e),λp hp=>?_⟩
  .rcases cZ.mp (I.mY b z)with y|y
   .exact(hf b hb).2.1 y
   .exact(hf b hb).2.2.1 y
  .rcases dR.mp (show p∈X.pn++Vw++pl by simpa using hp)with z|z
   .exact(hf b hb).2.2.2.2.2 p z
   .intro q;exact VN p z (q ▸ hb)
 have loop:∀s₃:Sd,s₃={s with heap:=h₁,toks:=s.toks+([]:List (Str×Vl)).length}->
   codeAny (model X.prog X.w) X.A (.compLoop (.ListComp Wt [⟨tg,iter,Wc,0⟩] scope pos) 0 (.ref it) (.ref s.heap.objs.size) (compEnvC scope (Af X.env scope.names []) H2.objs.size X.env))
    (RR (.ref s.heap.objs.size) H2.objs.size) s₃:=by
  rintro s₃ rfl
  refine xp (hEX:=λe s' z=>hx _ _ e s' XQ z) (λn s'=>∃(i:Nat) (ys:List V) (us:List Vl) (k:Nat) (σ':St) (H':Hp),Inv (X.comp scope N' H2.objs.size s H fp) (X.pn++Vw) σ' H' s'/\tn i s'.heap/\(∀b∈fp,H' b=none)/\H' s.heap.objs.size=none/\
   s'.heap.get? s.heap.objs.size=some {cls:=.type "list",data:=.seq us.toArray k}/\qc ys us/\ys.length<=sizeLine/\W i n ys σ' H') ?_ m0
   ⟨0,[],[],0,M8 ix σ,H,I.comp S hf VL XQ Wk Xi,T.keep _ _ _ st λb _ o e=>Wk b o e,λb hb=>(hf b hb).1,I.mE.fresh (c9 _),hacc,.nil,eQ _,w0⟩
  rintro n s' ⟨i,ys,us,k,σ',H',I',WV,fr',hD',Wg,rv',hz',w'⟩
  have cellD:∀x c,(X.comp scope N' H2.objs.size s H fp).env.cells.lookup x=some c->c≠s.heap.objs.size:=λx c e=>by obtain⟨v,q⟩:=I.cell x c (S.sub I.ok e);exact dE q.lt
  have pinD:∀p∈X.pn++Vw,p.1≠s.heap.objs.size:=λp hp=>dE (dq (I.pin p hp).1);have dfs:s.heap.objs.size∉(X.comp scope N' H2.objs.size s H fp).fs:=λz=>by
   rcases cZ.mp (I.mY _ z)with y|y
   .exact absurd I.lt (by rw[<-y];exact eV _)
   .exact I.oj (c9 _) y
  have dfp:s.heap.objs.size∉fp:=λz=>absurd (VL _ z) (eV _);have IpD:Inv (X.comp scope N' H2.objs.size s H fp) (X.pn++Vw++[(s.heap.objs.size,{cls:=.type "list",data:=.seq us.toArray k})]) σ' H' s':=I'.nv λp hp=>by
   rcases dR.mp hp with z|z
   .exact I'.pin p (eh _ z)
   .have e:p=(s.heap.objs.size,{cls:=.type "list",data:=.seq us.toArray k}):=by simpa using z
    subst e;exact⟨Wg,hD',hDC,dfs,λv z=>by cases z⟩
  have pfp:∀p∈[((s.heap.objs.size,{cls:=.type "list",data:=.seq us.toArray k}):Addr×Obj)],p.1∉fp:=λp hp=>by
   have e:p=(s.heap.objs.size,{cls:=.type "list",data:=.seq us.toArray k}):=by simpa using hp
   subst e;exact dfp
  rcases turn i n ys σ' H' w' with⟨stop,hz,q⟩|⟨go,hz,step⟩
  .refine dZ (T.done (X.comp scope N' H2.objs.size s H fp) rfl rfl rfl hc i _ s' σ' H' (λ_ _=>False) IpD (WN fr' pfp) WV stop) (λr s1 ⟨hr,I1⟩=>?_) λ_ _ z=>z;subst hr;show RR _ _ _ _;have ho1:s1.heap.get? s.heap.objs.size=some {cls:=.type "list",data:=.seq us.toArray k}:=(I1.pin (s.heap.objs.size,{cls:=.type "list",data:=.seq us.toArray k}) (by simp)).1;obtain⟨m,hnC,_⟩:=id I1.loc;refine VB _ _ s1 (upd H' s.heap.objs.size (.lst ys)) m XQ (by rw[pH (dG hDC)];exact I1.free) hnC ?_ (q _ hD');have nD:∀b o,s.heap.get? b=some o->b≠s.heap.objs.size:=λb o e=>(X9 b (dq e)).2;have hD0:H s.heap.objs.size=none:=I.mE.fresh (c9 _);refine I.ow (s':=s1) (ch:=fp) I1.os ⟨λb o e n1 n2 n3=>?_,λb o e n1 n2 n3=>?_,λb o e n1 n2=>?_,λb o e n1=>?_,λb xs e=>?_,λb o u e=>?_,λb ps e=>?_⟩ (λb u e=>?_) I1.bare λb hb=>⟨(hf b hb).2.2.2.1,(hf b hb).2.1,(hf b hb).2.2.2.2.1,(hf b hb).2.2.2.2.2⟩
   .exact I1.base.keep b o e n1 n2 n3
   .exact I1.base.slot b o e n1 n2 n3
   .rw[pH (nD b o e)];exact I1.base.free b o e n1 n2
   .exact I1.base.there b o e n1
   .rw[pH (qw e hD0)];exact I1.base.mZ b xs e
   .rw[pH (qw e hD0)];exact I1.base.mU b o u e
   .obtain⟨more,z⟩:=I1.base.ng b ps e;exact⟨more,by rw[pH (qw e hD0)];exact z⟩
   .by_cases hb:b=s.heap.objs.size
    .subst hb;rw[pM]at e;cases e;exact⟨hz,us,k,rv',ho1⟩
    .rw[pH hb]at e;exact(I1.mE b u e).mS (λc v _ z=>z) (λc z=>by rw[pH (qw z hD')];exact z) (λc xs z=>by rw[pH (qw z hD')];exact z)
  .refine dZ (T.item (X.comp scope N' H2.objs.size s H fp) rfl rfl rfl hc i _ s' σ' H' (λ_ _=>False) IpD (WN fr' pfp) WV go) (λr s1 ⟨v,hr,h4⟩=>?_) λ_ _ z=>z;subst hr;show wpAny _ _ (letOwnedTupleGo tg (.ref it) v) _ _ s1;refine dZ h4 (λ_ s2 zz=>?_) λ_ _ z=>z;obtain⟨x,H5,I5,r5,y5,X6,fr5⟩:=zz;have I5':=I5.pinned (WN fr5 pfp) (T.obj _ _ X6);refine dZ (hg H2.objs.size s H fp _ s2 σ' H5 x v _ I5' r5 (step x H5 y5)) (λ_ s3 ⟨σ6,H6,I6,q6⟩=>?_) λ_ _ z=>z;refine dZ (ht H2.objs.size s H fp _ s3 σ6 H6 _ I6 q6) (λok s4 ⟨H7,I7,q7⟩=>?_) λ_ _ z=>z;have Ya:∀{σ7:St} {H7:Hp} {s7:Sd},Inv (X.comp scope N' H2.objs.size s H fp) (X.pn++Vw++[(s.heap.objs.size,{cls:=.type "list",data:=.seq us.toArray k})]++Bz fp s2.heap) σ7 H7 s7->
     tn (i+1) s7.heap/\(∀b∈fp,H7 b=none)/\H7 s.heap.objs.size=none/\s7.heap.get? s.heap.objs.size=some {cls:=.type "list",data:=.seq us.toArray k}:=λ{σ7 H7 s7} K7=>by
    have pd:=K7.pin (s.heap.objs.size,{cls:=.type "list",data:=.seq us.toArray k}) (by simp);refine⟨T.keep _ _ _ X6 λb hb o e=>(K7.pin (b,o) (eh _ (eh _ (uC hb e)))).1,λb hb=>?_,pd.2.1,pd.1⟩;obtain⟨o,e,d⟩:=T.obj _ _ X6 b hb;exact(K7.pin (b,o) (eh _ (eh _ (uC hb e)))).2.1
   cases ok with
   | false=>rw[cV df]at q7 ⊢;obtain⟨m',hm,w7⟩:=q7;obtain⟨t7,f7,d7,o7⟩:=Ya I7;exact⟨m',hm,i+1,ys,us,k,σ6,H7,I7.mM.mM,t7,f7,d7,o7,rv',hz',w7⟩
   | true=>
    rw[cX rfl]at q7 ⊢;refine dZ (he H2.objs.size s H fp _ s4 σ6 H7 _ I7 q7) (λyv s5 ⟨y,H8,I8,r8,m',hm,w8⟩=>?_) λ_ _ z=>⟨_,_,λb hb=>(by
     obtain⟨o,e,_⟩:=T.obj _ _ X6 b hb;exact⟨o,eh _ (uC hb e)⟩),z⟩
    obtain⟨t8,f8,d8,o8⟩:=Ya I8;have hsz:us.toArray.size<=sizeLine:=by rw[dh,<-rv'.length];exact hz'
    refine append_at (hsz:=hsz) o8 λh' sb od=>?_;refine⟨m',hm,i+1,ys++[y],us++[yv],k+1,σ6,H8,?_,T.keep _ _ _ t8 λb hb o e=>(sb.2 b λq=>dfp (q ▸ hb)).trans e,f8,d8,?_,rv'.append (.cons r8 .nil),?_,w8⟩
    .exact I8.mM.mM.turned (it:=s.heap.objs.size) (t':=s5.toks) (λb o hb e=>(sb.2 b hb).trans e) d8 hDC (.inr (c9 _)) cellD (by simpa using pinD)
    .rw[od,List.push_toArray]
    .rw[cU,dN];exact hz
 exact codeAny_compStart_list (loop _ rfl) (T.self _ 0 _ _ _ (T.keep _ _ _ st λb _ o e=>Wk b o e) (loop _ rfl))
def Inv.letGo{C:Addr}{s':Sd}{H':Hp}{σ':St}{h':Heap}(I:Inv X Vw σ H s)(I':Inv X Vw σ' H' s')(hC:s.heap.objs.size<=C)(hn:H' C=none)(hs:Heap.SameBut C s'.heap h'):Inv X Vw σ' H' {s' with heap:=h'}:=
 I'.turned (t':=s'.toks) (it:=C) (λb o hb e=>(hs.2 b hb).trans e) hn (λz=>absurd (dF I.lt hC) (by rw[z];exact eV _)) (.inr (dU I.sz hC))
  (λx c e z=>by
   obtain⟨v,r⟩:=I.cell x c e;exact absurd (dF r.lt hC) (by rw[z];exact eV _))
  (λp hp z=>absurd (dF (dq (I.pin p hp).1) hC) (by rw[z];exact eV _))
def Oz{wi:TI}(hc:X.calm=true)(S:rH X scope ix N')(hi:PI X tg iter wi)(hg:∀C s0 H0 ex,PG (X.comp scope N' C s0 H0 ex) tg g)(ht:∀C s0 H0 ex,PF (X.comp scope N' C s0 H0 ex) Wc tt)(he:∀C s0 H0 ex,PE (X.comp scope N' C s0 H0 ex) Wt te) (hs:∀x,foldedSetIterable iter X.env x=pure x:=by intro _;rfl):PE X (.ListComp Wt [⟨tg,iter,Wc,0⟩] scope pos) (K5 ix wi g tt te):=by
 intro Vw s σ H Q I h;rw[eval_ListComp];refine jz (use:=none) rfl hs (xP (S.cells I.ok)) S.kind S.nam (dZ (hi Vw s σ H _ I h) (λxv s₁ h₁=>dZ h₁ (λitv s₂ h₂=>?_) λ_ _ e=>e) λ_ _ e=>e);obtain⟨it,fp,tn,J,H2,e,I2,T,VW,f2,hw⟩:=h₂;subst e;refine BU (RR:=λacc C=>compPost (model X.prog X.w) X.A X.xe none (EP X Vw σ Q) acc C) hc S I2 T VW f2 hg ht (XP:=λ_ _ _ _ _ _ _ _=>False) he (λ_ _ _ _ _ z=>by obtain⟨_,_,_,z⟩:=z;exact z.elim) hw λD C s' H' m hCs hCn hn I3 q=>?_;exact⟨m,hn,λh' Yb=>⟨.ref D,_,I2.letGo I3 hCs hCn Yb,rfl,q⟩⟩
def GJ{wi:TI}{i:Nat}{x:Str}{px Xj:Pos}(hN:X.N.Nodup)(XS:X.N[i]?=some x)(hx:JX X.env.scope x)(hc:X.calm=true)(S:rH X scope ix N')(hi:PI X tg iter wi)(hg:∀C s0 H0 ex,PG (X.comp scope N' C s0 H0 ex) tg g)(ht:∀C s0 H0 ex,PF (X.comp scope N' C s0 H0 ex) Wc tt) (he:∀C s0 H0 ex,PE (X.comp scope N' C s0 H0 ex) Wt te) (W4:swapsWith (.ListComp Wt [⟨tg,iter,Wc,0⟩] scope pos) (some (.Name x px)) Xj.line X.env=pure true) (hf:JW X x:=by first|exact .inl rfl|exact .inr rfl|assumption) (hs:∀x,foldedSetIterable iter X.env x=pure x:=by intro _;rfl):
  PS X (.Assign [.Name x px] (.ListComp Wt [⟨tg,iter,Wc,0⟩] scope pos) Xj) (NT (K5 ix wi g tt te) (Io i)):=by
 intro Vw s σ H D I h;rw[exec_Assign_Name_used _ _ _ _ W4];refine cR (gK (cR ?_));show wpAny _ X.A (do let _<-comprehension (.ListComp Wt [⟨tg,iter,Wc,0⟩] scope pos) scope X.env _ (newList []) false (eval iter X.env) (some (assign (.Name x px) X.env))) _ _ s;refine cR (dZ (jz (use:=some (assign (.Name x px) X.env)) (Q:=λ_ s'=>SP X Vw D .next s') rfl hs (xP (S.cells I.ok)) S.kind S.nam
  (dZ (hi Vw s σ H _ I h) (λxv s₁ h₁=>dZ h₁ (λitv s₂ h₂=>?_) λ_ _ e=>e) λ_ _ e=>e)) (λ_ s' hq=>cY (cY hq)) λ_ _ e=>e)
 obtain⟨it,fp,tn,J,H2,e,I2,T,VW,f2,hw⟩:=h₂;subst e;refine BU (RR:=λacc C=>compPost (model X.prog X.w) X.A X.xe (some (assign (.Name x px) X.env)) (λ_ s'=>SP X Vw D .next s') acc C) hc S I2 T VW f2 hg ht (XP:=λ_ _ _ _ _ _ _ _=>False) he (λ_ _ _ _ _ z=>by obtain⟨_,_,_,z⟩:=z;exact z.elim) hw λDa C s' H' m hCs hCn hn I3 q=>?_;show wpAny _ X.A (assign (.Name x px) X.env (.ref Da)) _ _ _;refine kS (C8 I3 hN XS hx (v:=.ref Da) rfl (λs4 I4 ⟨a,sb,ha⟩=>?_) hf);have ca:C≠a:=λz=>by
  rcases ha with y|y
  .exact absurd (dF I2.lt hCs) (by rw[z,y];exact eV _)
  .obtain⟨v,r⟩:=I2.cell x a y;exact absurd (dF r.lt hCs) (by rw[z];exact eV _)
 exact⟨m,hn.sameBut sb ca,λh' Yb=>⟨_,H',I2.letGo I4 hCs hCn Yb,q⟩⟩
end
def Ah:typeLookup (.type "list") "__getattr__"=pure none:=by rw[typeLookup_type,jX];kernel_rfl
def D0:typeLookup (.type "list") "keys"=pure none:=by rw[typeLookup_type,jX];kernel_rfl
section
variable {prog:Pg}{w:Wo}{A:Ar}{E:Vl→Sd→Prop}
def Mm(a:Addr)(u:Tok)(its:Array Vl)(n:Nat)(sl:Array (Option Vl)):
  Meets (Builtin.«object.__getattribute__» ⟨[.ref a,.str "keys" u],[]⟩) λA R s=>s.heap.get? a=some ⟨.type "list",none,.seq its n,sl⟩/\A.handled=none/\∀h' tk e,Heap.NewAttrErr s.heap h' e (.ref a) "keys"->R (.error (.ref e)) {s with heap:=h',toks:=tk}:=
 Meets.of_wp λprog w A R s hs=>by
  obtain⟨hp,g,d,tk,os⟩:=s;obtain⟨h1,h2,h3⟩:=hs;have hT:(⟨hp,g,d,tk,os⟩:Sd).TypeIs (.ref a) "list":=⟨_,h1,rfl⟩;have f1:=D0;unfold Builtin.«object.__getattribute__»
  repeat (any_goals(first|assumption|wp_step))
  exact wpAny_raiseAttrError h2 h3 (attrMsg_fits (by decide+kernel) (by decide))
def DY{s:Sd}{a:Addr}{its:Array Vl}{n:Nat}{sl:Array (Option Vl)}{Q:Option Vl->Sd->Prop}(ha:s.heap.get? a=some ⟨.type "list",none,.seq its n,sl⟩)(hA:A.handled=none) (h:∀h' tk,(∀b o,s.heap.get? b=some o->h'.get? b=some o)->Q none {s with heap:=h',toks:=tk}):wpAny (model prog w) A (getAttr? (.ref a) "keys") Q E s:=by
 obtain⟨hp,g,d,tk,os⟩:=s;have hT:(⟨hp,g,d,tk,os⟩:Sd).TypeIs (.ref a) "list":=⟨_,ha,rfl⟩;have f1:=sub_AttributeError;have f3:=ic.lookup;have f4:=ic.bind (.ref a);have f5:=Ah;unfold getAttr? getAttrBy? getAttrBy
 repeat (any_goals(first|assumption|((with_reducible show wpAny _ _ (call (Value.builtin "list.__getattribute__") _ _) _ _ _);refine jn ic hT F.entry_list_ga (F.args_list_getattribute_2 _ _) (Mm a _ its n sl) ⟨ha,hA,λh' tk' e hx=>?_⟩)|wp_step))
 obtain⟨t',u',he⟩:=hx.there;show wpAny _ _ (getattributeRaised _ _ _ _ _ _ _) _ _ _;unfold getattributeRaised
 repeat (any_goals(first|assumption|wp_step))
 all_goals first|exact h _ _ hx.keeps|skip
end
def zT:entryFor table "dict.update.loop"=some Builtin.«dict.update.loop»:=entryFor_of_tree (by kernel_rfl)
def vf:plainId "dict.update.loop"=true:=by decide+kernel
section
variable {prog:Pg}{w:Wo}{A:Ar}{E:Vl→Sd→Prop}{R:Result→Sd→Prop}{κ:Type}[DecidableEq κ]{knd:PySem.KeyKind prog w κ}
 {I:Addr} {fp wr:List Addr} {G:Array GenState->Array GenState->Prop} {P:Nat->Vl->Prop} {St:Nat->Sd->Prop}
def O5{s:Sd}{t:Addr}{x y:Vl}{Q:List Vl->Sd->Prop}(h:s.heap.IsTuple t #[x,y])(q:Q [x,y] s):wpAny (model prog w) A (Builtin.Dict.pairItems (.ref t)) Q E s:=by
 obtain⟨⟨oc,od,oda,Wv⟩,h1,h2,n,h3⟩:=h;simp only at h2 h3;subst h2 h3;have hT:s.TypeIs (.ref t) "tuple":=⟨_,h1,rfl⟩;obtain⟨hp,g,d,tk,os⟩:=s;unfold Builtin.Dict.pairItems
 repeat (any_goals(first|assumption|wp_step))
def I9{all:List (κ×Vl)}(W:WalksS prog w A.in1 I fp wr G all.length P St)(d:Addr)(X8:d∉fp)(kv:Nat->Vl)(tp:Nat->Addr)(hP:∀i v,P i v->v=.ref (tp i))(hw:∀j,j<all.length->tp j∉wr/\tp j≠d) (hk:∀j p,all[j]?=some p->knd.is p.1 (kv j)=true) (hz:all.length<=sizeLine):
  ∀(k i:Nat) (z:Int) (s:Sd),all.length - i=k->i<=all.length->St i s->(∀j p,all[j]?=some p->s.heap.IsTuple (tp j) #[kv j,p.2])->s.heap.DictOf knd d (merged [] (all.take i))->
   (∀s',Moved (d::wr) G s s'->s'.heap.DictOf knd d (merged [] all)->R (.ok (.ret .none)) s')->codeAny (model prog w) A (.builtin "dict.update.loop" ⟨[.ref d,.ref I,.int z 0,.none],[]⟩) R s:=by
 have hdw:d∉wr:=λh=>X8 (W.sub _ h);have Xk:∀b∈wr,b∈d::wr:=λb hb=>dA _ hb;intro k;induction k with
 | zero=>
  intro i z s hk0 hi VS hT hD hR;have Xu:i=all.length:=by omega
  subst Xu;refine gN zT ?_;rw[hJ vf _];show wpAny _ A.in1 (pyNext (.ref I)>>=_) _ _ s;refine cR (W.done s _ _ VS λs' hm=>?_);show wpAny _ A.in1 (Builtin.Dict.addKeywords d []>>=_) _ _ s';refine cR (cY (cY (hR s' (hm.mono Xk) ?_)));rw[fE]at hD;obtain⟨o,es,ep,ho,rest⟩:=hD;exact⟨o,es,ep,hm.heap d _ hdw ho,rest⟩
 | succ k ih=>
  intro i z s hk0 hi VS hT hD hR;have VL:i<all.length:=by omega
  have WQ:all[i]?=some all[i]:=cS VL;refine gN zT ?_;rw[hJ vf _];show wpAny _ A.in1 (pyNext (.ref I)>>=_) _ _ s;refine cR (W.item i s _ _ VL VS λv s' hPv Yv hm=>?_);obtain rfl:=hP i v hPv;have hT':∀j p,all[j]?=some p->s'.heap.IsTuple (tp j) #[kv j,p.2]:=λj p e=>by obtain⟨o,h1,h2⟩:=hT j p e;exact⟨o,hm.heap _ _ (hw j (cT.mp e).1).1 h1,h2⟩
  have hD':s'.heap.DictOf knd d (merged [] (all.take i)):=by obtain⟨o,es,ep,ho,rest⟩:=hD;exact⟨o,es,ep,hm.heap d _ hdw ho,rest⟩
  show wpAny _ A.in1 (holding [Value.ref (tp i)] _>>=_) _ _ s';refine cR (d9 (cR (wpAny_tryCatch (O5 (hT' i _ WQ) ?_))));show wpAny _ A.in1 (holding [kv i,all[i].2] (dictSet d (kv i) all[i].2)) _ _ s';refine d9 ?_;unfold dictSet;refine d9 (cR (knd.pyHash (hk i _ WQ) ?_));have hl:(merged [] (all.take i)).length<=sizeLine:=by have:=merged_length_le [] (all.take i);rw[fD]at this;simp only[dD]at this;omega
  refine wpAny_dictSetHashed_pairs (hsz:=hl) (hk i _ WQ) hD' λh' dd hs=>?_;rw[<-merged_take_succ [] all i _ WQ]at dd;refine cY ⟨kl vf _,ih (i+1) _ _ (by omega) VL (W.frame _ s' _ _ Yv (gR _) λb hb o e=>?_) (λj p e=>?_) dd λYp Yw hD''=>?_⟩
  .rw[hs.2 b (λz:b=d=>X8 (z ▸ hb))];exact e
  .obtain⟨o,h1,h2⟩:=hT' j p e;refine⟨o,?_,h2⟩;show h'.get? (tp j)=some o;rw[hs.2 _ (hw j (cT.mp e).1).2];exact h1
  .refine hR Yp (mh W.gtrans ((hm.mono Xk).then_heap (gR _) λb o hb e=>?_) Yw) hD'';rw[hs.2 b (λz:b=d=>hb (by rw[z];exact dH))];exact e
end
section
variable {prog:Pg}{w:Wo}{A:Ar}{E:Vl→Sd→Prop}{κ:Type}[DecidableEq κ]{knd:PySem.KeyKind prog w κ}{s:Sd}
def An{l:Addr}{its:Array Vl}{n:Nat}{sl:Array (Option Vl)}{all:List (κ×Vl)}{Q:Vl->Sd->Prop}(kv:Nat->Vl)(tp:Nat->Addr)(hh:A.handled=none)(hl:s.heap.get? l=some ⟨.type "list",none,.seq its n,sl⟩) (hits:∀(j:Nat) (v:Vl),its[j]?=some v->v=.ref (tp j)) (VC:its.size=all.length) (hT:∀j p,all[j]?=some p->s.heap.IsTuple (tp j) #[kv j,p.2]) (hk:∀j p,all[j]?=some p->knd.is p.1 (kv j)=true) (hz:all.length<=sizeLine) (h:∀h' tk,h'.DictOf knd s.heap.objs.size (merged [] all)->(∀b o,s.heap.get? b=some o->h'.get? b=some o)->Q (.ref s.heap.objs.size) {s with heap:=h',toks:=tk}):
  wpAny (model prog w) A (call (.type "dict") [.ref l]) Q E s:=by
 refine callType_codes (Q₁:=λobj s₁=>obj=Value.ref s.heap.objs.size/\s₁={s with heap:=s.heap.push {cls:=.type "dict",data:=.dict #[]}}) PySem.F.kt_called_dict (PySem.F.kt_typeCall_dict_1 _) F.entry_dict_init (kt_code_dict_new _ ⟨rfl,rfl⟩) ?_
 rintro obj s₁ ⟨rfl,rfl⟩
 have Xg:(s.heap.push {cls:=.type "dict",data:=.dict #[]}).DictOf knd s.heap.objs.size []:=Heap.DictOf.new s.heap;have hl':(s.heap.push {cls:=.type "dict",data:=.dict #[]}).get? l=some ⟨.type "list",none,.seq its n,sl⟩:=cW _ hl;have hTl:Shared.TypeIs {s with heap:=s.heap.push {cls:=.type "dict",data:=.dict #[]}} (.ref l) "list":=⟨_,hl',rfl⟩;have lsz:l<s.heap.objs.size:=dq hl;refine⟨Xg.typeIs,F.args_dict_init_2 _ _,?_⟩;unfold Builtin.«dict.__init__»;refine cR ?_;unfold Builtin.Dict.selfAndRest;refine cR (wpAny_notOrdered_dict Xg.typeIs ?_);show wpAny _ _ (pure (s.heap.objs.size,[Value.ref l])) _ _ _;refine cY ?_;show wpAny _ _ (Builtin.Dict.updateFrom "dict.__init__" s.heap.objs.size (.ref l) [] .none) _ _ _;unfold Builtin.Dict.updateFrom;refine cR (jx hTl ?_);rw[cX (by decide)];refine cR (DY hl' (by simpa using hh) λh' tk keep=>?_);have hl2:h'.IsList l its:=⟨_,keep _ _ hl',rfl,n,rfl⟩;show wpAny _ _ (rule _>>=_) _ _ _;refine cR (j8 (cR (gB hl2 ?_)));have nd:h'.objs.size>s.heap.objs.size:=by have z:h'.get? s.heap.objs.size=some _:=keep _ _ (dC _ rfl);exact dq z
 have hDn:h'.DictOf knd s.heap.objs.size []:=by obtain⟨o,es,ep,ho,rest⟩:=Xg;exact⟨o,es,ep,keep _ _ ho,rest⟩
 have hTs:∀j p,all[j]?=some p->h'.IsTuple (tp j) #[kv j,p.2]:=λj p e=>by obtain⟨o,h1,h2⟩:=hT j p e;exact⟨o,keep _ _ (cW _ h1),h2⟩
 have VV:l≠h'.objs.size:=dE (jy lsz nd);have W:=(j9 (prog:=prog) (w:=w) (A:=A.in1.in1) (by simpa using hh) h'.objs.size l VV its).toS;rw[VC]at W;refine cY ⟨kl vf _,I9 (A:=A.in1) W s.heap.objs.size ?_ kv tp (λi v e=>hits i v e) (λj hj=>?_) hk hz all.length 0 0 _ (by omega) (eQ _) ⟨⟨_,dC _ rfl,rfl,rfl⟩,hl2.push _⟩ (λj p e=>(hTs j p e).push _) ?_ λs' hm hD=>?_⟩
 .simp only[cZ,dz,eP,fB];exact⟨dE nd,gH lsz⟩
 .have hj':all[j]?=some all[j]:=cS hj;obtain⟨o,h1,_⟩:=hT j _ hj';have tsz:=dq h1;simp only[cZ,dz,eP];exact⟨dE (jy tsz nd),dE tsz⟩
 .obtain⟨o,es,ep,ho,rest⟩:=hDn;exact⟨o,es,ep,cW _ ho,rest⟩
 .obtain⟨h2,g2,d2,t2,o2⟩:=s';have eg:g2=s.gens:=hm.gens;have ed:d2=s.drawn:=hm.drawn;have eo:o2=s.os:=hm.os;subst eg ed eo;refine⟨rfl,h h2 t2 hD λb o e=>?_⟩;have hb:=dq e;refine hm.heap b o ?_ (cW _ (keep _ _ (cW _ e)));simp only[cZ,dz,eP,fB];exact⟨dE hb,dE (jy hb nd)⟩
end
def rZ{κ:Type}[DecidableEq κ](l:List κ):List κ:=l.foldl (λacc k=>if k∈acc then acc else acc++[k]) []
def xw{κ:Type}[DecidableEq κ](l:List κ)(k:κ):rZ (l++[k])=if k∈rZ l then rZ l else rZ l++[k]:=by unfold rZ;rw[kY];rfl
def HL{κ:Type}[DecidableEq κ]:∀l:List κ,(rZ l).length<=l.length:=by
 have go:∀(l acc:List κ),(l.foldl (λacc k=>if k∈acc then acc else acc++[k]) acc).length<=acc.length+l.length:=by
  intro l;induction l with
  | nil=>intro acc;simp
  | cons k r ih=>
   intro acc;rw[fS];refine dU (ih _) ?_;split
   .simp only[dW];omega
   .simp only[dW,cU,dD];omega
 intro l;have:=go l []
 simpa [rZ]using this
def Ko{κ:Type}[DecidableEq κ](x:κ):∀l:List κ,x∈rZ l↔x∈l:=by
 have go:∀(l acc:List κ),x∈l.foldl (λacc k=>if k∈acc then acc else acc++[k]) acc↔x∈acc\/x∈l:=by
  intro l;induction l with
  | nil=>intro acc;simp
  | cons k r ih=>
   intro acc;rw[fS,ih];by_cases h:k∈acc
   .rw[cX h,cZ];constructor
    .rintro (z|z)
     .exact .inl z
     .exact .inr (.inr z)
    .rintro (z|z|z)
     .exact .inl z
     .subst z;exact .inl h
     .exact .inr z
   .rw[cV h,dR,dg,cZ,or_assoc]
 intro l;have:=go l []
 simpa [rZ]using this
def Hd{κ:Type}[DecidableEq κ]:∀l:List κ,l.Nodup->rZ l=l:=by
 have go:∀(l acc:List κ),(acc++l).Nodup->l.foldl (λacc k=>if k∈acc then acc else acc++[k]) acc=acc++l:=by
  intro l;induction l with
  | nil=>intro acc _;simp
  | cons k r ih=>
   intro acc h;have hk:k∉acc:=λz=>by rw[fQ]at h;exact h.2.2 k z k dH rfl
   rw[fS,cV hk,ih]
   .rw[e9];rfl
   .rw[e9];exact h
 intro l h;have:=go l [] (by simpa using h)
 simpa [rZ]using this
section
variable {prog:Pg}{w:Wo}{A:Ar}{E:Vl→Sd→Prop}{R:Result→Sd→Prop}{κ:Type}[DecidableEq κ][BEq κ][LawfulBEq κ]{knd:PySem.KeyKind prog w κ}
 {I:Addr} {fp wr:List Addr} {G:Array GenState->Array GenState->Prop} {P:Nat->Vl->Prop} {St:Nat->Sd->Prop}
def Fg{all:List κ}(W:WalksS prog w A.in1 I fp wr G all.length P St)(S:Addr)(hSf:S∉fp)(hval:∀i v k,P i v->all[i]?=some k->knd.is k v=true/\v.scannable=true)(hb:all.length+1<scanBound):
  ∀(n i:Nat) (s:Sd),all.length - i=n->i<=all.length->St i s->s.heap.SetOf knd S (λx=>decide (x∈rZ (all.take i))) (rZ (all.take i)).length->
   (∀s',Moved (S::wr) G s s'->s'.heap.SetOf knd S (λx=>decide (x∈rZ all)) (rZ all).length->R (.ok (.ret .none)) s')->codeAny (model prog w) A (.builtin "set.update.loop" ⟨[.ref S,.ref I],[]⟩) R s:=by
 have hSw:S∉wr:=λh=>hSf (W.sub _ h);have up:∀b∈wr,b∈S::wr:=λb hb=>dA _ hb;have kept:∀{s s':Sd} {T:κ->Bool} {m:Nat},Moved wr G s s'->s.heap.SetOf knd S T m->s'.heap.SetOf knd S T m:=λhm ⟨o,es,ep,t,ho,rest⟩=>⟨o,es,ep,t,hm.heap S _ hSw ho,rest⟩;intro n;induction n with
 | zero=>
  intro i s h0 hi VS hS hR;obtain rfl:i=all.length:=by omega
  refine gN ie ?_;rw[hJ gu _];rw[fE]at hS;exact cR (W.done s _ _ VS λs' hm=>cY (hR s' (hm.mono up) (kept hm hS)))
 | succ n ih=>
  intro i s h0 hi VS hS hR;have VL:i<all.length:=by omega
  have WQ:all[i]?=some all[i]:=cS VL;refine gN ie ?_;rw[hJ gu _];refine cR (W.item i s _ _ VL VS λv s' hP Yv hm=>?_);obtain⟨k1,k2⟩:=hval i v _ hP WQ;have XT:=kept hm hS;show wpAny _ A.in1 (holding [v] (setAdd S v)>>=_) _ _ s';refine cR (d9 ?_);unfold setAdd;refine d9 (cR (knd.pyHash k1 ?_));have room:(rZ (all.take i)).length+1<scanBound:=by have h1:=HL (all.take i);rw[fD]at h1;omega
  refine wpAny_setAddHashed_of (knd:=knd) (s:={s' with toks:=s'.toks+1}) k1 k2 XT room λh' hsb hS2=>?_;have et:all.take (i+1)=all.take i++[all[i]]:=by rw[gU,WQ];rfl
  have hSi:h'.SetOf knd S (λx=>decide (x∈rZ (all.take (i+1)))) (rZ (all.take (i+1))).length:=by
   refine ig hS2 (λx=>?_) ?_
   .rw[et];by_cases Vy:all[i]∈rZ (all.take i)
    .rw[xw,cX Vy];by_cases hx:x=all[i]
     .subst hx;simp[Vy]
     .simp[hx]
    .rw[xw,cV Vy];by_cases hx:x=all[i]
     .subst hx;simp
     .simp[hx]
   .rw[et,xw];by_cases Vy:all[i]∈rZ (all.take i)
    .rw[cX Vy];simp[Vy]
    .rw[cV Vy];simp[Vy]
  refine cY ⟨kl gu _,ih (i+1) _ (by omega) VL (W.frame _ s' _ _ Yv (gR _) λb hb o e=>?_) hSi λYp Yw hS''=>?_⟩
  .rw[hsb.2 b (λz:b=S=>hSf (z ▸ hb))];exact e
  .refine hR Yp (mh W.gtrans ((hm.mono up).then_heap (gR _) λb o hb e=>?_) Yw) hS'';rw[hsb.2 b (λz:b=S=>hb (by rw[z];exact dH))];exact e
end
def EZ:isSubtype (.type "list") (.type "set")=pure false:=by rw[iT];kernel_rfl
def Aa:isSubtype (.type "list") (.type "frozenset")=pure false:=by rw[iT];kernel_rfl
section
variable {prog:Pg}{w:Wo}{A:Ar}{E:Vl→Sd→Prop}{κ:Type}[DecidableEq κ][BEq κ][LawfulBEq κ]{knd:PySem.KeyKind prog w κ}{s:Sd}
set_option maxHeartbeats 4000000 in
def Cb{l:Addr}{Vx:Array Vl}{all:List κ}{Q:Vl->Sd->Prop}(hh:A.handled=none)(hl:s.heap.IsList l Vx)(hn:Vx.size=all.length)(hi:∀(i:Nat) (v:Vl) (k:κ),Vx[i]?=some v->all[i]?=some k->knd.is k v=true/\v.scannable=true)(hb:all.length+1<scanBound) (h:∀(h':Heap) (tk:Nat),h'.SetOf knd s.heap.objs.size (λx=>decide (x∈rZ all)) (rZ all).length->(∀b o,s.heap.get? b=some o->h'.get? b=some o)->Q (.ref s.heap.objs.size) {s with heap:=h',toks:=tk}):
  wpAny (model prog w) A (call (.type "set") [.ref l]) Q E s:=by
 obtain⟨c,tl,Yx⟩:=fj.mro;have hmade:=fj.made;have Xk:=fj.sub;refine hG (jN ?_);show wpAny _ _ (callAny (.type "set") _) _ _ _;refine cY ⟨ii _ (by decide+kernel),gN kZ ?_⟩;rw[kM (jY "set" [.ref l] []) rfl];have h1:=fj.notType;have h2:=fj.canCreate;have hct:=lC (.ref l)
 repeat (any_goals(first|assumption|wp_step))
 have fresh:∀VY:Bool,(s.heap.push {cls:=.type "set",dict:=none,data:=.set #[] 0 (.fresh 0 0 VY)}).get? s.heap.objs.size=some {cls:=.type "set",dict:=none,data:=.set #[] 0 (.fresh 0 0 VY)}:=λVY=>dC _ rfl;refine gc (code_set_new_1 (.ref l) (E:=E) (Q₁:=λobj s₁=>∃VY:Bool,obj=Value.ref s.heap.objs.size/\s₁={s with heap:=s.heap.push {cls:=.type "set",dict:=none,data:=.set #[] 0 (.fresh 0 0 VY)}}) λVY=>⟨VY,rfl,rfl⟩) λr s₁ hr=>?_;cases r with
 | error e=>exact hr
 | ok fl=>
  cases fl with
  | ret obj=>
   obtain⟨VY,rfl,rfl⟩:=hr;have hS:=fresh VY;have hT:Shared.TypeIs {s with heap:=s.heap.push {cls:=.type "set",dict:=none,data:=.set #[] 0 (.fresh 0 0 VY)}} (.ref s.heap.objs.size) "set":=⟨_,hS,rfl⟩;have hli:=fj.init.lookup;have hbi:=fj.init.bind (.ref s.heap.objs.size)
   repeat (any_goals(first|assumption|wp_step))
   refine gc (hU (R:=wants (λr s₂=>r=.none/\∃h' tk,s₂={s with heap:=h',toks:=tk}/\h'.SetOf knd s.heap.objs.size (λx=>decide (x∈rZ all)) (rZ all).length/\(∀b o,s.heap.get? b=some o->h'.get? b=some o)) E) fj.init.plain lD (lE hT ?_)) λr₂ s₂ Yy=>?_
   .obtain⟨ol,hol,Yc,nl,hdl⟩:=hl;obtain⟨ocls,Xl,odata,WR⟩:=ol;simp only at Yc hdl;subst Yc;subst hdl;have Yz:(s.heap.push {cls:=.type "set",dict:=none,data:=.set #[] 0 (.fresh 0 0 VY)}).get? l=some {cls:=.type "list",dict:=Xl,data:=.seq Vx nl,slots:=WR}:=cW _ hol;have hsls:=EZ;have hslf:=Aa;have hnd:(Value.type "list"==Value.type "dict")=false:=by decide
    have hl1:(s.heap.push {cls:=.type "set",dict:=none,data:=.set #[] 0 (.fresh 0 0 VY)}).IsList l Vx:=⟨_,Yz,rfl,nl,rfl⟩;unfold Builtin.«set.__init__» noKeywords Builtin.Frozenset.updateFrom;generalize hPI:pyIter=PI
    wp_walk
    subst hPI;refine gB hl1 ?_;refine cR (wpAny_runValue ?_);have lS:l<s.heap.objs.size:=dq hol;have hh3:A.in1.in1.in1.handled=none:=by simp[hh]
    have lI:l≠(s.heap.push {cls:=.type "set",dict:=none,data:=.set #[] 0 (.fresh 0 0 VY)}).objs.size:=by rw[fi];exact dE (gT lS)
    have W:=(j9 (prog:=prog) (w:=w) hh3 _ l lI Vx).toS;rw[hn]at W;refine Fg W s.heap.objs.size ?hf (λi v k e1 e2=>hi i v k e1 e2) hb all.length 0 _ (by omega) (eQ _) ⟨⟨_,dC _ rfl,rfl,rfl⟩,(hl1.push _)⟩ ?h0 ?hR;case hf=>rw[fi];simp only[cZ,dz,eP,fB];exact⟨dE (fu _),gH lS⟩
    case h0=>exact ig ((iZ (knd:=knd) VY).setOf (cW _ hS) (by unfold scanBound;omega)) (λ_=>rfl) rfl
    case hR=>intro s' hm XT;obtain⟨h',g',d',tk',Yo⟩:=s';have eg:g'=s.gens:=hm.gens;have ed:d'=s.drawn:=hm.drawn;have eo:Yo=s.os:=hm.os;subst eg;subst ed;subst eo;refine cY ?_;show wpAny _ _ (ret Value.none) _ _ _;refine cY ⟨rfl,h',tk',rfl,XT,λb o e=>?_⟩;have hb:=dq e;refine hm.heap b o ?_ (cW _ (cW _ e));rw[fi];simp only[cZ,dz,eP,fB];exact⟨dE hb,dE (gT hb)⟩
   .cases r₂ with
    | error e=>exact Yy
    | ok fl₂=>
     cases fl₂ with
     | ret r=>
      obtain⟨rfl,h',tk,rfl,XT,Yu⟩:=Yy
      repeat (any_goals(first|assumption|wp_step))
      exact h _ _ XT Yu
     | _=>exact Yy.elim
  | _=>exact hr.elim
end
def B9:isSubtype (.type "tuple") (.type "set")=pure false:=by rw[iT];kernel_rfl
def zp:isSubtype (.type "tuple") (.type "frozenset")=pure false:=by rw[iT];kernel_rfl
section
variable {prog:Pg}{w:Wo}{A:Ar}{E:Vl→Sd→Prop}{κ:Type}[DecidableEq κ][BEq κ][LawfulBEq κ]{knd:PySem.KeyKind prog w κ}{s:Sd}
set_option maxHeartbeats 4000000 in
def BA{l:Addr}{Vx:Array Vl}{all:List κ}{Q:Vl->Sd->Prop}(hh:A.handled=none)(hl:s.heap.IsTuple l Vx)(hn:Vx.size=all.length)(hi:∀(i:Nat) (v:Vl) (k:κ),Vx[i]?=some v->all[i]?=some k->knd.is k v=true/\v.scannable=true)(hb:all.length+1<scanBound) (h:∀(h':Heap) (tk:Nat),h'.SetOf knd s.heap.objs.size (λx=>decide (x∈rZ all)) (rZ all).length->(∀b o,s.heap.get? b=some o->h'.get? b=some o)->Q (.ref s.heap.objs.size) {s with heap:=h',toks:=tk}):
  wpAny (model prog w) A (call (.type "set") [.ref l]) Q E s:=by
 obtain⟨c,tl,Yx⟩:=fj.mro;have hmade:=fj.made;have Xk:=fj.sub;refine hG (jN ?_);show wpAny _ _ (callAny (.type "set") _) _ _ _;refine cY ⟨ii _ (by decide+kernel),gN kZ ?_⟩;rw[kM (jY "set" [.ref l] []) rfl];have h1:=fj.notType;have h2:=fj.canCreate;have hct:=lC (.ref l)
 repeat (any_goals(first|assumption|wp_step))
 have fresh:∀VY:Bool,(s.heap.push {cls:=.type "set",dict:=none,data:=.set #[] 0 (.fresh 0 0 VY)}).get? s.heap.objs.size=some {cls:=.type "set",dict:=none,data:=.set #[] 0 (.fresh 0 0 VY)}:=λVY=>dC _ rfl;refine gc (code_set_new_1 (.ref l) (E:=E) (Q₁:=λobj s₁=>∃VY:Bool,obj=Value.ref s.heap.objs.size/\s₁={s with heap:=s.heap.push {cls:=.type "set",dict:=none,data:=.set #[] 0 (.fresh 0 0 VY)}}) λVY=>⟨VY,rfl,rfl⟩) λr s₁ hr=>?_;cases r with
 | error e=>exact hr
 | ok fl=>
  cases fl with
  | ret obj=>
   obtain⟨VY,rfl,rfl⟩:=hr;have hS:=fresh VY;have hT:Shared.TypeIs {s with heap:=s.heap.push {cls:=.type "set",dict:=none,data:=.set #[] 0 (.fresh 0 0 VY)}} (.ref s.heap.objs.size) "set":=⟨_,hS,rfl⟩;have hli:=fj.init.lookup;have hbi:=fj.init.bind (.ref s.heap.objs.size)
   repeat (any_goals(first|assumption|wp_step))
   refine gc (hU (R:=wants (λr s₂=>r=.none/\∃h' tk,s₂={s with heap:=h',toks:=tk}/\h'.SetOf knd s.heap.objs.size (λx=>decide (x∈rZ all)) (rZ all).length/\(∀b o,s.heap.get? b=some o->h'.get? b=some o)) E) fj.init.plain lD (lE hT ?_)) λr₂ s₂ Yy=>?_
   .obtain⟨ol,hol,Yc,nl,hdl⟩:=hl;obtain⟨ocls,Xl,odata,WR⟩:=ol;simp only at Yc hdl;subst Yc;subst hdl;have Yz:(s.heap.push {cls:=.type "set",dict:=none,data:=.set #[] 0 (.fresh 0 0 VY)}).get? l=some {cls:=.type "tuple",dict:=Xl,data:=.seq Vx nl,slots:=WR}:=cW _ hol;have hsls:=B9;have hslf:=zp;have hnd:(Value.type "tuple"==Value.type "dict")=false:=by decide
    have hl1:(s.heap.push {cls:=.type "set",dict:=none,data:=.set #[] 0 (.fresh 0 0 VY)}).IsTuple l Vx:=⟨_,Yz,rfl,nl,rfl⟩;unfold Builtin.«set.__init__» noKeywords Builtin.Frozenset.updateFrom;generalize hPI:pyIter=PI
    wp_walk
    subst hPI;refine ij hl1 ?_;refine cR (wpAny_runValue ?_);have lS:l<s.heap.objs.size:=dq hol;have hh3:A.in1.in1.in1.handled=none:=by simp[hh]
    have lI:l≠(s.heap.push {cls:=.type "set",dict:=none,data:=.set #[] 0 (.fresh 0 0 VY)}).objs.size:=by rw[fi];exact dE (gT lS)
    have W:=(Walks.tuple (prog:=prog) (w:=w) hh3 _ l lI Vx).toS;rw[hn]at W;refine Fg W s.heap.objs.size ?hf (λi v k e1 e2=>hi i v k e1 e2) hb all.length 0 _ (by omega) (eQ _) ⟨⟨_,dC _ rfl,rfl,rfl⟩,(hl1.push _)⟩ ?h0 ?hR;case hf=>rw[fi];simp only[cZ,dz,eP,fB];exact⟨dE (fu _),gH lS⟩
    case h0=>exact ig ((iZ (knd:=knd) VY).setOf (cW _ hS) (by unfold scanBound;omega)) (λ_=>rfl) rfl
    case hR=>intro s' hm XT;obtain⟨h',g',d',tk',Yo⟩:=s';have eg:g'=s.gens:=hm.gens;have ed:d'=s.drawn:=hm.drawn;have eo:Yo=s.os:=hm.os;subst eg;subst ed;subst eo;refine cY ?_;show wpAny _ _ (ret Value.none) _ _ _;refine cY ⟨rfl,h',tk',rfl,XT,λb o e=>?_⟩;have hb:=dq e;refine hm.heap b o ?_ (cW _ (cW _ e));rw[fi];simp only[cZ,dz,eP,fB];exact⟨dE hb,dE (gT hb)⟩
   .cases r₂ with
    | error e=>exact Yy
    | ok fl₂=>
     cases fl₂ with
     | ret r=>
      obtain⟨rfl,h',tk,rfl,XT,Yu⟩:=Yy
      repeat (any_goals(first|assumption|wp_step))
      exact h _ _ XT Yu
     | _=>exact Yy.elim
  | _=>exact hr.elim
end
end L2
namespace HT
open PySem PyProof.Rows
variable {prog:Pg}{w:Wo}{A:Ar}{E:Vl→Sd→Prop}{s:Sd}
def yB{t sl:Addr}{Vx:Array Vl}{vl vu:Vl}{lo hi:Option Int}{Q:Vl->Sd->Prop}(ht:IsTup s.heap t Vx)(hs:s.heap.IsSliceOf sl vl vu .none)(pl:IsPart vl lo)(pu:IsPart vu hi) (hw:sj Vx.size 0 lo=0/\sj Vx.size Vx.size hi=Vx.size) (h:Q (.ref t) s):wpAny (model prog w) A (getItem (.ref t) (.ref sl)) Q E s:=by
 obtain⟨os,Yq,X7,WO⟩:=id hs;have hTs:s.TypeIs (.ref sl) "slice":=⟨os,Yq,X7⟩;unfold getItem
 try with_reducible refine d9 ?_
 first|refine cR (cY ?_)|skip
 refine cR (ji ht.typeIs (by decide) ?_);refine cR (fC (name:=Str.ofString "__getitem__") ht.typeIs fk (fY fk ht.typeIs kr ?_ (kI _ _)));show wpAny _ _ (Builtin.Tuple.tupleItemsOf (.ref t)>>=_) _ _ s;refine cR (tupleItemsOf_ ht ?_);refine cR (jx hTs ?_);rw[cX (by decide)];refine cR (vJ hs pl pu ?_);have yes:(((sj Vx.size 0 lo:Nat):Int)==0&&(1:Int)==1&&(sj Vx.size Vx.size hi - sj Vx.size 0 lo)==Vx.size)=true:=by rw[hw.1,hw.2];simp
 show wpAny _ _ (if (((sj Vx.size 0 lo:Nat):Int)==0&&(1:Int)==1&&(sj Vx.size Vx.size hi - sj Vx.size 0 lo)==Vx.size)=true then _ else _) _ _ s;rw[cX yes];have hT:=ht.typeIs;obtain⟨hp,g,d,tk,o⟩:=s
 repeat (any_goals(first|assumption|wp_step))
 exact⟨_,rfl,cY h⟩
end HT
namespace L2
open PySem PySem.Spec PyProof.Rows
variable {X:Cx}{p p2 pos Xm:Pos}{e:Expr}{te:TE}
section
def Uk(K:pX):V->Option Int->Option Int->Hp->VK->Prop:=λx lo hi H Q=>∃a xs,x=.ref a/\ux K H a xs/\(HT.sj xs.length 0 lo=0/\HT.sj xs.length xs.length hi=xs.length)/\Q (.ref a) H
def Q5:RY X (Uk X.K):=by
 intro Vw s σ H x v vl vu lo hi sl Q I rx hs pl pu h;obtain⟨a,xs,rfl,hx,hw,q⟩:=h;cases rx;obtain⟨its,r,ht,hz⟩:=I.tuple hx;have VC:its.toArray.size=xs.length:=by rw[dh];exact r.length.symm
 exact⟨"tuple",_,fk.lookup,ht.typeIs,HT.yB ht hs pl pu (by rw[VC];exact hw) ⟨.ref a,H,I,rfl,q⟩⟩
local instance (priority:=5000) keyBEq:BEq qE:=instBEqOfDecidableEq
local instance (priority:=5000) keyLaw:LawfulBEq qE:=inferInstanceAs (LawfulBEq (Sum Int Str))
def Oo(K:pX)(te:TE):TE:=λσ H Q=>te σ H λx H1=>∃a,∃ss:List Str,x=.ref a/\(yo K H1 a (ss.map V.str)\/ux K H1 a (ss.map V.str))/\ss.length+1<scanBound/\Q (.int (rZ ss).length) H1
def Fj{P:Pg}{w:Wo}{ss:List Str}{us:List Vl}(r:qc (ss.map V.str) us):us.length=ss.length/\∀(i:Nat) (v:Vl) (k:qE),us[i]?=some v->(ss.map λx=>(Sum.inr x:qE))[i]?=some k->(qZ P w).is k v=true/\v.scannable=true:=by
 refine⟨by rw[<-r.length,cQ],λi v k e1 e2=>?_⟩;rw[dw]at e2;cases q:ss[i]? with
 | none=>rw[q]at e2;cases e2
 | some x=>rw[q]at e2;cases e2;obtain⟨u,e3,t,rfl⟩:=r.get (i:=i) (x:=V.str x) (by rw[dw,q];rfl);rw[e3]at e1;cases e1;exact⟨zQ P w x t,rfl⟩
def Lx{ss:List Str}:(rZ (ss.map λx=>(Sum.inr x:qE))).length=(rZ ss).length:=by
 have go:∀(l acc:List Str),(l.map λx=>(Sum.inr x:qE)).foldl (λacc k=>if k∈acc then acc else acc++[k]) (acc.map Sum.inr)=(l.foldl (λacc k=>if k∈acc then acc else acc++[k]) acc).map Sum.inr:=by
  intro l;induction l with
  | nil=>intro acc;rfl
  | cons k r ih=>
   intro acc;rw[dQ,fS,fS];have hm:(Sum.inr k:qE)∈acc.map Sum.inr↔k∈acc:=by
    rw[dv];constructor
    .rintro ⟨y,h1,h2⟩;cases h2;exact h1
    .exact λh=>⟨k,h,rfl⟩
   by_cases h:k∈acc
   .rw[cX h,cX (hm.mpr h)];exact ih acc
   .rw[cV h,cV λz=>h (hm.mp z)];have:=ih (acc++[k]);rw[dM]at this;exact this
 have:=go ss [];unfold rZ;rw[iE]at this;rw[this,cQ]
def Jz(hc:X.calm=true)(he:PE X e te)(hg1:Gl X "len")(Vy:X.mg "len"=none)(hg2:Gl X "set")(VO:X.mg "set"=none)(b1:bootBuiltins "len"=some (.builtin "len"))(b2:bootBuiltins "set"=some (.type "set")) (hs:starEach [e] X.env=[(false,eval e X.env)]:=by rfl):PE X (.Call (.Name "len" p) [.Call (.Name "set" p2) [e] [] Xm] [] pos) (Oo X.K te):=by
 intro Vw s σ H Q I h;refine fZ (xT I hg1 Vy b1 ?_);refine iD ?_ rfl rfl;show wpAny _ _ (spliced ((false,eval (.Call (.Name "set" p2) [e] [] Xm) X.env)::backTo pos (starEach [] X.env))) _ _ s;refine iX ?_;refine fZ (xT I hg2 VO b2 ?_);refine fR ?_ hs rfl;rw[hs];show wpAny _ _ (spliced ((false,eval e X.env)::backTo Xm (starEach [] X.env))) _ _ s;refine iX (rQ (he Vw s σ H _ I h) λu s1 ⟨x,H1,I1,r1,a,ss,ex,hq,hb,q⟩=>jg ?_);subst ex;obtain rfl:u=Value.ref a:=r1;have Wu:(ss.map λx=>(Sum.inr x:qE)).length+1<scanBound:=by rw[cQ];exact hb
 have VB:∀(h':Heap) (tk:Nat),h'.SetOf (qZ X.prog X.w) s1.heap.objs.size (λx=>decide (x∈rZ (ss.map λx=>(Sum.inr x:qE)))) (rZ (ss.map λx=>(Sum.inr x:qE))).length->(∀b o,s1.heap.get? b=some o->h'.get? b=some o)->
   wpAny (model X.prog X.w) X.A (spliced (backTo pos (starEach [] X.env))) (λvs s₁=>wpAny (model X.prog X.w) X.A (call (.builtin "len") (.ref s1.heap.objs.size::vs)) (EP X Vw σ Q) X.xe s₁) X.xe {s1 with heap:=h',toks:=tk}:=λh' tk hS keep=>by
  refine jg ?_;obtain⟨o,es,ep,t,ho,hex,hd,_,_,hz,hf,hn⟩:=hS;have VL:(es.size:Int)<2 ^ 63:=by have:scanBound=4096:=rfl;omega
  refine call_len_set ho hex hd hf VL ?_;refine⟨.int es.size,H1,I1.kept keep,⟨_,rfl⟩,?_⟩;rw[hn,Lx];exact q
 rcases hq with hq|hq
 .obtain⟨its,r,pl,hz⟩:=I1.list hq;obtain⟨k1,k2⟩:=Fj (P:=X.prog) (w:=X.w) r;exact L2.Cb (knd:=qZ X.prog X.w) (all:=ss.map λx=>(Sum.inr x:qE)) (I1.ok.hd hc) pl.isList (by rw[dh,k1,cQ]) (λi v k e1 e2=>k2 i v k (by simpa using e1) e2) Wu VB
 .obtain⟨its,r,pl,hz⟩:=I1.tuple hq;obtain⟨k1,k2⟩:=Fj (P:=X.prog) (w:=X.w) r;exact L2.BA (knd:=qZ X.prog X.w) (all:=ss.map λx=>(Sum.inr x:qE)) (I1.ok.hd hc) pl (by rw[dh,k1,cQ]) (λi v k e1 e2=>k2 i v k (by simpa using e1) e2) Wu VB
end
variable {Vw:List (Addr × Obj)}{σ:St}{H:Hp}{s:Sd}
theorem CF(I:Inv X Vw σ H s):∀(ts:List Addr) (kvs:List (qE×V)),ts.length=kvs.length->(∀(j:Nat) (t:Addr) (p:qE×V),ts[j]?=some t->kvs[j]?=some p->ux X.K H t [kV p.1,p.2])->
  ∃(us:List Vl) (all:List (qE×Vl)),us.length=kvs.length/\KV kvs all/\∀(j:Nat) (t:Addr) (p:qE×Vl),ts[j]?=some t->all[j]?=some p->∃u,us[j]?=some u/\s.heap.IsTuple t #[u,p.2]/\(qZ X.prog X.w).is p.1 u=true
 | [],[],_,_=>⟨[],[],rfl,.nil,λj t p e=>by simp at e⟩
 | [],_::_,h,_=>by simp at h
 | _::_,[],h,_=>by simp at h
 | t::ts,(k,v)::kvs,h,hq=>by
  obtain⟨us,all,h1,h2,h3⟩:=CF I ts kvs (by simpa using h) (λj t p e1 e2=>hq (j+1) t p (by simpa using e1) (by simpa using e2));obtain⟨its,r,pl,_⟩:=I.tuple (hq 0 t (k,v) (by simp) (by simp));cases r with
  | cons r1 r2=>
   cases r2 with
   | cons r3 r4=>
    cases r4;rename_i u w;refine⟨u::us,(k,w)::all,by simpa using h1,.cons ⟨rfl,r3⟩ h2,λj t' p e1 e2=>?_⟩;cases j with
    | zero=>
     have e1':t=t':=by simpa using e1
     have XM:(k,w)=p:=by simpa using e2
     subst e1' XM;exact⟨u,by simp,pl,FN r1⟩
    | succ j=>simpa using h3 j t' p (by simpa using e1) (by simpa using e2)
theorem Mg:∀{kvs:List (qE×V)} {all:List (qE×Vl)},KV kvs all->all.map (·.1)=kvs.map (·.1)
 | _,_,.nil=>rfl
 | _,_,.cons r rs=>by rw[dQ,dQ,Mg rs,r.1]
def G2(hc:X.calm=true):xR X (.type "dict") (λxs H Q=>∃l,∃ts:List Addr,∃kvs:List (qE×V),xs=[V.ref l]/\yo X.K H l (ts.map V.ref)/\ts.length=kvs.length/\
  (∀(j:Nat) (t:Addr) (p:qE×V),ts[j]?=some t->kvs[j]?=some p->ux X.K H t [kV p.1,p.2])/\(kvs.map (·.1)).Nodup/\∀d,H d=none->Q (.ref d) (upd H d (.dK kvs))):=by
 intro Vw s σ H xs us Q I r h;obtain⟨l,ts,kvs,rfl,hl,VC,hq,hnd,q⟩:=h;obtain⟨u,rfl,ru⟩:=wA r;cases ru;obtain⟨its,rv,⟨⟨c1,d1,t1,sl1⟩,n,g1,e1,e2,e3⟩,hz⟩:=I.list hl;simp only at e1 e2 e3;subst e1 e2 e3;obtain⟨ks,all,h1,h2,h3⟩:=CF I ts kvs VC hq;have la:all.length=kvs.length:=(jd h2).symm;have li:its.length=kvs.length:=by rw[<-rv.length,cQ,VC]
 have zl:all.length<=sizeLine:=by rw[la,<-VC];simpa using hz
 have at_:∀(j:Nat) (p:qE×Vl),all[j]?=some p->∃t,ts[j]?=some t:=λj p e=>by have:=(cT.mp e).1;exact⟨ts[j],cS (by omega)⟩
 refine An (knd:=qZ X.prog X.w) (all:=all) (λj=>(ks[j]?).getD .none) (λj=>(ts[j]?).getD 0) (I.ok.hd hc) g1 (λj v e=>?_) (by rw[dh,li,la]) (λj p e=>?_) (λj p e=>?_) zl λh' tk hD keep=>?_
 .have e':its[j]?=some v:=by simpa using e
  have hj:=(cT.mp e').1;have hj2:j<ts.length:=by omega
  obtain⟨w,e4,e5⟩:=rv.get (i:=j) (x:=V.ref ts[j]) (by rw[dw,cS hj2];rfl);rw[e']at e4;cases e4;show v=Value.ref ((ts[j]?).getD 0);rw[cS hj2];exact e5
 .obtain⟨t,et⟩:=at_ j p e;obtain⟨u,e4,e5,_⟩:=h3 j t p et e;show s.heap.IsTuple ((ts[j]?).getD 0) #[(ks[j]?).getD .none,p.2];rw[et,e4];exact e5
 .obtain⟨t,et⟩:=at_ j p e;obtain⟨u,e4,_,e6⟩:=h3 j t p et e;show(qZ X.prog X.w).is p.1 ((ks[j]?).getD .none)=true;rw[e4];exact e6
 .rw[merged_nil_of_nodup all (by rw[Mg h2];exact hnd)]at hD;have fr:=I.mE.fresh (c9 s.heap.objs.size);exact⟨.ref s.heap.objs.size,_,I.laid (t':=tk) (o:=.dK kvs) keep (c9 _) (Ma (by rw[<-la];exact zl) (fL.mpr (dG (dE I.big))) h2 hD),rfl,q _ fr⟩
def TY:R2:=λx y H Q=>∃a v,x=.ref a/\DZ H a y (some v)/\Q v H
def N0(hu:X.A.units+1<cLine):RN X TY:=by
 intro value VJ Vw s σ H x y o i Q I rx ry h hs;obtain⟨a,v,rfl,g,q⟩:=h;obtain rfl:o=Value.ref a:=rx;have hT:=F1 I g;have h2:wpAny (model X.prog X.w) X.A (getItem (.ref a) i) (EP X Vw σ Q) X.xe s:=IP hu I g ry λw' s3 I3 XI=>⟨v,H,I3,XI,q⟩;unfold subscriptTail;refine cR ?_;rw[jZ hT.not_modules];refine cR (iF hT jo.lookup ?_);have VB:wpAny (model X.prog X.w) X.A (subscripted VJ false (.ref a) i) (λr s₃=>wpAny (model X.prog X.w) X.A (letTemporaryGo value (.ref a) r>>=λ_=>pure r) (EP X Vw σ Q) X.xe s₃) X.xe s:=by rw[hs];exact wpAny_operating (dZ h2 (λr s₃ h₃=>cR (kc (cY h₃))) λ_ _ x=>x)
 first
  | exact cY (cR VB)
  | exact cR (cY (cR VB))
  | exact cR VB
def QN(hu:X.A.units+1<cLine):wO X (compareOp .In) (λx y H Q=>∃a o,y=.ref a/\DZ H a x o/\Q (.bl o.isSome) H):=by intro Vw s σ H x y v u Q I rx ry h;obtain⟨a,o,rfl,g,q⟩:=h;obtain rfl:u=Value.ref a:=ry;exact UI hu I g rx λs3 I3=>⟨.bl o.isSome,H,I3,rfl,q⟩
variable {prog:Pg}{w:Wo}{A:Ar}{E:Vl→Sd→Prop}{a:Addr}{δ:Type}{k:Str}{tk:Tok}
section
variable {R:δ→Vl→Prop}{D:List (Str × δ)}
def ym(T:KTD.TabOf R s.heap a D):s.TypeIs (.ref a) "dict":=let⟨_,o,_,_,ho,hc,_⟩:=T;⟨o,ho,hc.1⟩
def Ic{Q:Option Vl->Sd->Prop}(T:KTD.TabOf R s.heap a D)(h1:∀d v,KTD.datumAt k D=some d->R d v->Q (some v) {s with toks:=s.toks+1})(h2:KTD.datumAt k D=none->Q none {s with toks:=s.toks+1}):
  wpAny (model prog w) A (dictGet a (.str k tk)) Q E s:=by
 obtain⟨_,o,es,ep,ho,hc,hd,hr⟩:=T;have hq:Q (findBy (λk v=>v.isStr k) es k) {s with toks:=s.toks+1}:=by
  have hf:findBy (λk v=>v.isStr k) es k=(es.toList.find? λe=>e.key.isStr k).map (·.val):=by obtain⟨l⟩:=es;simp[findBy]
  rw[hf];cases hat:KTD.datumAt k D with
  | none=>rw[hr.find_none hat];exact h2 hat
  | some d=>obtain⟨v,hv,hfl⟩:=hr.find_some hat;rw[hv];exact h1 d v hat hfl
 have Wh:(es.all λe=>isExactStrKey e.key)=true:=by
  obtain⟨l⟩:=es
  simpa using hr.exact
 unfold dictGet
 try with_reducible refine d9 ?_
 refine cR (ls (cR (KTD.kt_dictFind_strs (s:={s with toks:=s.toks+1}) ho hd Wh ?_)));rw[findBy_of_findIdx?]at hq;cases hi:es.findIdx? λe=>e.key.isStr k with
 | none=>rw[hi]at hq;exact cY hq
 | some i=>rw[hi]at hq;exact cR (wpAny_dictEntries (s:={s with toks:=s.toks+1}) ho hd (cY hq))
def RE{Q:Vl->Sd->Prop}(T:KTD.TabOf R s.heap a D)(h:Q (.bool (KTD.datumAt k D).isSome) {s with toks:=s.toks+1}):wpAny (model prog w) A (compareOp .In (.str k tk) (.ref a)) Q E s:=by
 have hT:=ym T;show wpAny _ _ (do return .bool (<-contains (.ref a) (.str k tk))) Q E s;refine cR ?_;unfold contains
 try with_reducible refine d9 ?_
 refine cR (iF hT ja.lookup ?_);show wpAny _ _ (if (some (Value.builtin "dict.__contains__")==some Value.none)=true then _ else _) _ E s;rw[cV (by rw[beq_builtin_none];exact df)];refine cR (wpAny_callSpecialUnlessNone?_slot (name:=Str.ofString "__contains__") hT ja (fY ja hT entry_dict_contains ?_ (args_dict_contains _ _)));show wpAny _ _ (dictGet a (.str k tk)>>=_) _ _ s;refine cR (Ic T (λd v ha _=>?_) λhn=>?_)
 .rw[ha]at h;show wpAny _ _ (ret (.bool true)) _ _ _;exact cY ⟨_,rfl,eZ (cY h)⟩
 .rw[hn]at h;show wpAny _ _ (Builtin.Dict.pendingKey? a (.str k tk)>>=_) _ _ _;exact cR (wpAny_pendingKey_other T.1 (cY ⟨_,rfl,eZ (cY h)⟩))
def Mb{Q:Vl->Sd->Prop}{d:δ}(T:KTD.TabOf R s.heap a D)(hd:KTD.datumAt k D=some d)(h:∀v,R d v->Q v {s with toks:=s.toks+1}):wpAny (model prog w) A (getItem (.ref a) (.str k tk)) Q E s:=by
 have hT:=ym T;unfold getItem
 try with_reducible refine d9 ?_
 refine cR (ji hT (by decide) ?_);refine cR (fC (name:=Str.ofString "__getitem__") hT k9 (fY k9 hT entry_dict_getitem ?_ (args_dict_getitem _ _)));show wpAny _ _ (dictGet a (.str k tk)>>=_) _ _ s;refine cR (Ic T (λd' v ha hv=>cY ⟨v,rfl,cY (h v ?_)⟩) λhn=>?_)
 .rw[hd]at ha;cases ha;exact hv
 .rw[hd]at hn;cases hn
end
def KA(K:pX)(mg:Str->Option Vl)(x:Str)(F:List (Str×List Str)):Prop:=∃a o es ep,mg x=some (.ref a)/\(a==sysModules)=false/\K.lookup a=some o/\o.ExactDict/\o.data=.dict es ep/\
 KTD.Rows (λ(ss:List Str) v=>∃t,v=Value.ref t/\ux K (λ_=>none) t (ss.map V.str)) es.toList F
variable {x:Str}{F:List (Str × List Str)}
def HF{K:pX}{t:Addr}{xs:List V}{H:Hp}(h:ux K (λ_=>none) t xs):ux K H t xs:=by
 rcases h with(h|⟨o,h⟩)|h
 .cases h
 .cases h
 .exact .inr h
def FC{K:pX}{mg:Str->Option Vl}(T:KA K mg x F):∃a,mg x=some (.ref a)/\∀h:Heap,K.In h->KTD.TabOf (λ(ss:List Str) v=>∃t,v=Value.ref t/\ux K (λ_=>none) t (ss.map V.str)) h a F:=by obtain⟨a,o,es,ep,h1,h2,h3,h4,h5,h6⟩:=T;exact⟨a,h1,λh hk=>⟨h2,o,es,ep,hk a o h3,h4,h5,h6⟩⟩
def UE(x:Str):It:=⟨λi _=>i<x.cps.size,λi H v H'=>H'=H/\∃c,x.cps[i]?=some c/\v=.str ⟨#[c]⟩,λi _=>i=x.cps.size⟩
def E5{P:Pg}{w:Wo}{K:pX}{tg:Expr}{ty:String}{x:Str}{t:Tok}(it:Addr)(W:∀A':Ar,A'.handled=none->Walks P w A' it [it] [it] x.cps.size (SignAt x) (λi h=>h.IsStrIter it ty x t i)) (hself:∀(A:Ar) (i:Nat) (s:Sd) (Q:Vl->Sd->Prop) (E:Vl->Sd->Prop),s.heap.IsStrIter it ty x t i->Q (.ref it) s->wpAny (model P w) A (pyIter (.ref it)) Q E s) (hn:["enumerate","zip","dict_itemiterator","dict_reverseitemiterator","odict_iterator","itertools.zip_longest","itertools.pairwise"].contains ty=false):Fx P w K tg (UE x) [it] it (λi h=>h.IsStrIter it ty x t i) where
 mem:=by simp
 obj:=λi h st b hb=>by
  obtain rfl:b=it:=by simpa using hb
  obtain⟨o,e,c,d⟩:=st;exact⟨o,e,λv z=>by rw[d]at z;cases z⟩
 keep:=λi h h' st k=>by obtain⟨o,e,r⟩:=st;exact⟨o,k it (by simp) o e,r⟩
 item:=by intro X hP hw hK hc i Vw s σ H E I hf st hg;subst hP hw hK;obtain⟨f0,f1,f2,f3,f4,f5⟩:=hf it (by simp);refine(W X.A (I.ok.hd hc)).item i s _ _ hg st λv h' tk hv WV kp=>?_;obtain⟨c,u,e1,e2⟩:=hv;have I1:Inv X Vw σ H {s with heap:=h',toks:=tk}:=I.turned (t':=tk) (λb o hb e=>kp b o (by simpa using hb) e) f0 f1 f3 f4 f5;obtain⟨o,e,cl,d⟩:=id WV;exact⟨v,rfl,Hv (s:={s with heap:=h',toks:=tk}) e cl d hn ⟨.str ⟨#[c]⟩,H,I1,⟨u,e2⟩,⟨rfl,c,e1,rfl⟩,WV,λb hb=>(hf b hb).1⟩⟩
 done:=by intro X hP hw hK hc i Vw s σ H E I hf st hg;subst hP hw hK;obtain⟨f0,f1,f2,f3,f4,f5⟩:=hf it (by simp);obtain rfl:i=x.cps.size:=hg;exact(W X.A (I.ok.hd hc)).done s _ _ st λh' tk kp=>⟨rfl,I.turned (t':=tk) (λb o hb e=>kp b o (by simpa using hb) e) f0 f1 f3 f4 f5⟩
 self:=hself
variable {tg:Expr}
def N8{l:Expr}{tl:TE}(hc:X.calm=true)(hl:PE X l tl):PI X tg l (λσ H R=>tl σ H λx H1=>(∃a,x=.ref a/\(((∃xs,yo X.K H1 a xs)/\R (TM X.K a) H1)\/((∃xs,ux X.K H1 a xs)/\R (UO X.K a) H1)))\/∃z,x=.str z/\R (UE z) H1):=by
 intro Vw s σ H R I h;refine rQ (hl Vw s σ H _ I h) λv s1 zz=>x5 zz λx H1 I1 r1 q1=>?_;rcases q1 with⟨a,e,q1⟩|⟨z,e,q⟩
 .subst e;cases r1;rcases q1 with⟨⟨xs,hq⟩,q⟩|⟨⟨xs,hq⟩,q⟩
  .obtain⟨its,rv,p,hz⟩:=I1.list hq;refine gB p.isList ?_;refine⟨s1.heap.objs.size,[s1.heap.objs.size],_,_,H1,rfl,I1.kept (t':=s1.toks) λb o e=>cW _ e,Jn a _,⟨_,dC _ rfl,rfl,rfl⟩,λb hb=>?_,q⟩;obtain rfl:b=s1.heap.objs.size:=by simpa using hb
   exact I1.nH (c9 _) (I1.mE.fresh (c9 _))
  .obtain⟨its,rv,p,hz⟩:=I1.tuple hq;refine ij (show s1.heap.IsTuple a its.toArray from p) ?_;refine⟨s1.heap.objs.size,[s1.heap.objs.size],_,_,H1,rfl,I1.kept (t':=s1.toks) λb o e=>cW _ e,Gu a _,⟨_,dC _ rfl,rfl,rfl⟩,λb hb=>?_,q⟩;obtain rfl:b=s1.heap.objs.size:=by simpa using hb
   exact I1.nH (c9 _) (I1.mE.fresh (c9 _))
 .subst e;obtain⟨t,rfl⟩:=r1;have fp:∀b∈[s1.heap.objs.size],Aj X Vw H1 b:=λb hb=>by
   obtain rfl:b=s1.heap.objs.size:=by simpa using hb
   exact I1.nH (c9 _) (I1.mE.fresh (c9 _))
  cases ha:z.cps.all (·<128)
  .refine wpAny_pyIter_wide ha ?_;exact⟨s1.heap.objs.size,[s1.heap.objs.size],_,_,H1,rfl,I1.kept (t':=s1.toks) λb o e=>cW _ e,E5 _ (λA' hA=>Walks.strWide hA _ z t) (λA i s Q E st h=>wpAny_pyIter_striter_wide st h) (by decide),⟨_,dC _ rfl,rfl,rfl⟩,fp,q⟩
  .refine wpAny_pyIter_ascii ha ?_;exact⟨s1.heap.objs.size,[s1.heap.objs.size],_,_,H1,rfl,I1.kept (t':=s1.toks) λb o e=>cW _ e,E5 _ (λA' hA=>Walks.strAscii hA _ z t) (λA i s Q E st h=>wpAny_pyIter_striter_ascii st h) (by decide),⟨_,dC _ rfl,rfl,rfl⟩,fp,q⟩
end L2
namespace L2
inductive Ay{α0:Sort u}{α1:Sort v}(p:α0->α1->Prop):Prop
 | mk (a0:α0) (a1:α1) (h:p a0 a1):Ay p
inductive Ck{α0:Sort u}{α1:Sort v}{α2:Sort w}(p:α0->α1->α2->Prop):Prop
 | mk (a0:α0) (a1:α1) (a2:α2) (h:p a0 a1 a2):Ck p
def x7{α:Sort u}{β:Sort v}{γ:Sort w}{p q r s:α->β->γ->Prop}{C:Prop}(h:Ck λa b c=>p a b c/\q a b c/\r a b c/\s a b c)(f:∀a b c,p a b c->q a b c->r a b c->s a b c->C):C:=by obtain⟨a,b,c,h1,h2,h3,h4⟩:=h;exact f a b c h1 h2 h3 h4
def JY{α:Sort u}{β:Sort v}{γ:Sort w}{p q r s s1 s2 s3:α->β->γ->Prop}{C:Prop}(h:Ck λa b c=>p a b c/\q a b c/\r a b c/\s a b c/\s1 a b c/\s2 a b c/\s3 a b c)(f:∀a b c,p a b c->q a b c->r a b c->s a b c->s1 a b c->s2 a b c->s3 a b c->C):C:=by obtain⟨a,b,c,h1,h2,h3,h4,h5,h6,h7⟩:=h;exact f a b c h1 h2 h3 h4 h5 h6 h7
inductive AD{α0:Sort u}{α1:Sort v}{α2:Sort w}{α3:Sort u1}(p:α0->α1->α2->α3->Prop):Prop
 | mk (a0:α0) (a1:α1) (a2:α2) (a3:α3) (h:p a0 a1 a2 a3):AD p
inductive Fs{α0:Sort u}{α1:Sort v}{α2:Sort w}{α3:Sort u1}{α4:Sort u2}(p:α0->α1->α2->α3->α4->Prop):Prop
 | mk (a0:α0) (a1:α1) (a2:α2) (a3:α3) (a4:α4) (h:p a0 a1 a2 a3 a4):Fs p
inductive JM{α0:Sort u}{α1:Sort v}{α2:Sort w}{α3:Sort u1}{α4:Sort u2}{α5:Sort u3}(p:α0->α1->α2->α3->α4->α5->Prop):Prop
 | mk (a0:α0) (a1:α1) (a2:α2) (a3:α3) (a4:α4) (a5:α5) (h:p a0 a1 a2 a3 a4 a5):JM p
inductive RO{α0:Sort u}{α1:Sort v}{α2:Sort w}{α3:Sort u1}{α4:Sort u2}{α5:Sort u3}{α6:Sort u4}(p:α0->α1->α2->α3->α4->α5->α6->Prop):Prop
 | mk (a0:α0) (a1:α1) (a2:α2) (a3:α3) (a4:α4) (a5:α5) (a6:α6) (h:p a0 a1 a2 a3 a4 a5 a6):RO p
inductive RJ{α0:Sort u}{α1:Sort v}{α2:Sort w}{α3:Sort u1}{α4:Sort u2}{α5:Sort u3}{α6:Sort u4}{α7:Sort u5}(p:α0->α1->α2->α3->α4->α5->α6->α7->Prop):Prop
 | mk (a0:α0) (a1:α1) (a2:α2) (a3:α3) (a4:α4) (a5:α5) (a6:α6) (a7:α7) (h:p a0 a1 a2 a3 a4 a5 a6 a7):RJ p
inductive Ts{α0:Sort u}{α1:Sort v}{α2:Sort w}{α3:Sort u1}{α4:Sort u2}{α5:Sort u3}{α6:Sort u4}{α7:Sort u5}{α8:Sort u6}(p:α0->α1->α2->α3->α4->α5->α6->α7->α8->Prop):Prop
 | mk (a0:α0) (a1:α1) (a2:α2) (a3:α3) (a4:α4) (a5:α5) (a6:α6) (a7:α7) (a8:α8) (h:p a0 a1 a2 a3 a4 a5 a6 a7 a8):Ts p
inductive LV{α0:Sort u}{α1:Sort v}{α2:Sort w}{α3:Sort u1}{α4:Sort u2}{α5:Sort u3}{α6:Sort u4}{α7:Sort u5}{α8:Sort u6}{α9:Sort u7}(p:α0->α1->α2->α3->α4->α5->α6->α7->α8->α9->Prop):Prop
 | mk (a0:α0) (a1:α1) (a2:α2) (a3:α3) (a4:α4) (a5:α5) (a6:α6) (a7:α7) (a8:α8) (a9:α9) (h:p a0 a1 a2 a3 a4 a5 a6 a7 a8 a9):LV p
inductive Us{α0:Sort u}{α1:Sort v}{α2:Sort w}{α3:Sort u1}{α4:Sort u2}{α5:Sort u3}{α6:Sort u4}{α7:Sort u5}{α8:Sort u6}{α9:Sort u7}{α10:Sort u8}(p:α0->α1->α2->α3->α4->α5->α6->α7->α8->α9->α10->Prop):Prop
 | mk (a0:α0) (a1:α1) (a2:α2) (a3:α3) (a4:α4) (a5:α5) (a6:α6) (a7:α7) (a8:α8) (a9:α9) (oH:α10) (h:p a0 a1 a2 a3 a4 a5 a6 a7 a8 a9 oH):Us p
inductive Ui{α0:Sort u}{α1:Sort v}{α2:Sort w}{α3:Sort u1}{α4:Sort u2}{α5:Sort u3}{α6:Sort u4}{α7:Sort u5}{α8:Sort u6}{α9:Sort u7}{α10:Sort u8}{α11:Sort u9}(p:α0->α1->α2->α3->α4->α5->α6->α7->α8->α9->α10->α11->Prop):Prop
 | mk (a0:α0) (a1:α1) (a2:α2) (a3:α3) (a4:α4) (a5:α5) (a6:α6) (a7:α7) (a8:α8) (a9:α9) (oH:α10) (a11:α11) (h:p a0 a1 a2 a3 a4 a5 a6 a7 a8 a9 oH a11):Ui p
end L2
namespace L2
open PySem
def S9(a C:Addr)(h:Heap):Prop:=Ay λoe vs=>h.get? a=some oe/\oe.cls=.ref C/\oe.data=.fields vs/\oe.dict=none
end L2
namespace L3
open PySem PySem.Spec PyProof.Rows L2
inductive D where
 | mz|bl (b:Bool)|int (i:Int)|str (x:Str)|tup (ds:List D)|ref (a:Addr)|ty (n:String)
 | rl (ds:List D)
def Os(K:pX)(H:Hp)(a:Addr)(xs:List V):Prop:=(∃o,H a=some (.frz o (.lst xs)))\/
 ∃(o:Obj) (its:Array Vl) (n:Nat),K.lookup a=some o/\o.cls=.type "list"/\o.dict=none/\o.data=.seq its n/\its.size<=sizeLine/\qc xs its.toList
def Os.sq{K:pX}{H:Hp}{a:Addr}{xs:List V}(h:Os K H a xs):yo K H a xs:=by
 rcases h with⟨o,h⟩|h
 .exact .inl (.inr ⟨o,h⟩)
 .exact .inr h
mutual
def rm(K:pX)(H:Hp):D->V->Prop
 | .mz,v=>v=.mz
 | .bl b,v=>v=.bl b
 | .int i,v=>v=.int i
 | .str x,v=>v=.str x
 | .ref a,v=>v=.ref a
 | .ty n,v=>v=.ty n
 | .tup ds,v=>∃a xs,v=.ref a/\ux K H a xs/\pP K H ds xs
 | .rl ds,v=>∃a xs,v=.ref a/\Os K H a xs/\pP K H ds xs
def pP(K:pX)(H:Hp):List D->List V->Prop
 | [],xs=>xs=[]
 | d::ds,xs=>∃x r,xs=x::r/\rm K H d x/\pP K H ds r
end
structure qx(K:pX)(H H':Hp):Prop where
 t:∀a xs,ux K H a xs->ux K H' a xs
 f:∀a o xs,H a=some (.frz o (.lst xs))->H' a=some (.frz o (.lst xs))
def qx.refl{K:pX}{H:Hp}:qx K H H:=⟨λ_ _ h=>h,λ_ _ _ h=>h⟩
def qx.trans{K:pX}{H H1 H2:Hp}(a:qx K H H1)(b:qx K H1 H2):qx K H H2:=⟨λc xs h=>b.t c xs (a.t c xs h),λc o xs h=>b.f c o xs (a.f c o xs h)⟩
def qx.upd{K:pX}{H:Hp}{p:Addr}{o:HO}(h:∀xs,¬Rd H p (.tup xs))(h':∀u xs,H p≠some (.frz u (.lst xs))):qx K H (upd H p o):=⟨λa xs q=>by
 rcases q with q|q
 .have ne:a≠p:=λz=>h xs (z ▸ q);rcases q with q|⟨u,q⟩
  .exact .inl (.inl (by rw[pH ne];exact q))
  .exact .inl (.inr ⟨u,by rw[pH ne];exact q⟩)
 .exact .inr q,λa u xs q=>by
 have ne:a≠p:=λz=>h' u xs (z ▸ q);rw[pH ne];exact q⟩
def qx.new{K:pX}{H:Hp}{p:Addr}{o:HO}(h:H p=none):qx K H (L2.upd H p o):=.upd (λxs q=>by
 rcases q with q|⟨u,q⟩<;>(rw[h]at q;cases q)) λu xs q=>by rw[h]at q;cases q
def Os.mono{K:pX}{H H':Hp}{a:Addr}{xs:List V}(e:qx K H H')(h:Os K H a xs):Os K H' a xs:=by
 rcases h with⟨o,h⟩|h
 .exact .inl ⟨o,e.f a o xs h⟩
 .exact .inr h
mutual
theorem rm.mono{K:pX}{H H':Hp}(e:qx K H H'):∀{d:D} {v:V},rm K H d v->rm K H' d v
 | .mz,_,h=>h
 | .bl _,_,h=>h
 | .int _,_,h=>h
 | .str _,_,h=>h
 | .ref _,_,h=>h
 | .ty _,_,h=>h
 | .tup ds,v,h=>by unfold rm at h ⊢;obtain⟨a,xs,e1,e2,e3⟩:=h;exact⟨a,xs,e1,e.t _ _ e2,pP.mono e e3⟩
 | .rl ds,v,h=>by unfold rm at h ⊢;obtain⟨a,xs,e1,e2,e3⟩:=h;exact⟨a,xs,e1,e2.mono e,pP.mono e e3⟩
theorem pP.mono{K:pX}{H H':Hp}(e:qx K H H'):∀{ds:List D} {xs:List V},pP K H ds xs->pP K H' ds xs
 | [],_,h=>h
 | d::ds,xs,h=>by unfold pP at h ⊢;obtain⟨x,r,e1,e2,e3⟩:=h;exact⟨x,r,e1,rm.mono e e2,pP.mono e e3⟩
end
variable {K:pX}{H H':Hp}
def pP.nil:pP K H [] []:=by unfold pP;rfl
def pP.cons{d:D}{ds:List D}{x:V}{xs:List V}(a:rm K H d x)(b:pP K H ds xs):pP K H (d::ds) (x::xs):=by unfold pP;exact⟨x,xs,rfl,a,b⟩
def pP.inv{d:D}{ds:List D}{xs:List V}(h:pP K H (d::ds) xs):∃x r,xs=x::r/\rm K H d x/\pP K H ds r:=by unfold pP at h;exact h
def pP.nil_inv{xs:List V}(h:pP K H [] xs):xs=[]:=by unfold pP at h;exact h
theorem pP.length:∀{ds:List D} {xs:List V},pP K H ds xs->ds.length=xs.length
 | [],_,h=>by rw[h.nil_inv];rfl
 | d::ds,_,h=>by obtain⟨x,r,rfl,_,e⟩:=h.inv;simp[pP.length e]
theorem pP.get:∀{ds:List D} {xs:List V} {i:Nat} {d:D},pP K H ds xs->ds[i]?=some d->∃x,xs[i]?=some x/\rm K H d x
 | [],_,_,_,_,e=>by simp at e
 | d::ds,_,0,_,h,e=>by obtain⟨x,r,rfl,a,_⟩:=h.inv;simp at e;subst e;exact⟨x,by simp,a⟩
 | d::ds,_,i+1,_,h,e=>by obtain⟨x,r,rfl,_,b⟩:=h.inv;obtain⟨y,e1,e2⟩:=pP.get b (by simpa using e);exact⟨y,by simpa using e1,e2⟩
theorem pP.append:∀{ds es:List D} {xs ys:List V},pP K H ds xs->pP K H es ys->pP K H (ds++es) (xs++ys)
 | [],_,_,_,h,g=>by rw[h.nil_inv];exact g
 | d::ds,_,_,_,h,g=>by obtain⟨x,r,rfl,a,b⟩:=h.inv;exact .cons a (pP.append b g)
theorem pP.take:∀{ds:List D} {xs:List V} (n:Nat),pP K H ds xs->pP K H (ds.take n) (xs.take n)
 | _,_,0,_=>by simp only[List.take_zero];exact .nil
 | [],_,n+1,h=>by rw[h.nil_inv];exact .nil
 | d::ds,_,n+1,h=>by obtain⟨x,r,rfl,a,b⟩:=h.inv;exact .cons a (pP.take n b)
theorem pP.drop:∀{ds:List D} {xs:List V} (n:Nat),pP K H ds xs->pP K H (ds.drop n) (xs.drop n)
 | _,_,0,h=>h
 | [],_,n+1,h=>by rw[h.nil_inv];exact .nil
 | d::ds,_,n+1,h=>by obtain⟨x,r,rfl,a,b⟩:=h.inv;exact pP.drop n b
def pP.snoc{ds:List D}{xs:List V}{d:D}{x:V}(h:pP K H ds xs)(a:rm K H d x):pP K H (ds++[d]) (xs++[x]):=h.append (.cons a .nil)
theorem pP.ints:∀{ns:List Int},pP K H (ns.map D.int) (ns.map V.int)
 | []=>.nil
 | n::r=>.cons (by unfold rm;rfl) pP.ints
def rm.tup{ds:List D}{a:Addr}{xs:List V}(q:ux K H a xs)(h:pP K H ds xs):rm K H (.tup ds) (.ref a):=by unfold rm;exact⟨a,xs,rfl,q,h⟩
def rm.mC{ds:List D}{v:V}(h:rm K H (.tup ds) v):∃a xs,v=.ref a/\ux K H a xs/\pP K H ds xs:=by unfold rm at h;exact h
def rm.mO{ds:List D}{v:V}(h:rm K H (.rl ds) v):∃a xs,v=.ref a/\Os K H a xs/\pP K H ds xs:=by unfold rm at h;exact h
def rm.int{i:Int}:rm K H (.int i) (.int i):=by unfold rm;rfl
def rm.bl{i:Bool}:rm K H (.bl i) (.bl i):=by unfold rm;rfl
def rm.str{i:Str}:rm K H (.str i) (.str i):=by unfold rm;rfl
def rm.ref{i:Addr}:rm K H (.ref i) (.ref i):=by unfold rm;rfl
def rm.mz:rm K H .mz .mz:=by unfold rm;rfl
def rm.int_inv{i:Int}{v:V}(h:rm K H (.int i) v):v=.int i:=by unfold rm at h;exact h
def rm.mw{i:Bool}{v:V}(h:rm K H (.bl i) v):v=.bl i:=by unfold rm at h;exact h
def rm.str_inv{i:Str}{v:V}(h:rm K H (.str i) v):v=.str i:=by unfold rm at h;exact h
def rm.mq{i:Addr}{v:V}(h:rm K H (.ref i) v):v=.ref i:=by unfold rm at h;exact h
def rm.nL{i:String}{v:V}(h:rm K H (.ty i) v):v=.ty i:=by unfold rm at h;exact h
def rm.my{v:V}(h:rm K H .mz v):v=.mz:=by unfold rm at h;exact h
inductive uA where
 | lst (ds:List D)
 | ins (C:Addr) (fs:List (Str×D))
 | dk (kvs:List (qE×D))
 | exc (C:Addr)
abbrev Mp:=Addr->Option uA
def oU(M:Mp)(a:Addr)(c:uA):Mp:=λb=>if b=a then some c else M b
def pA{M:Mp}{a:Addr}{c:uA}:oU M a c a=some c:=by unfold oU;rw[cX rfl]
def tI{M:Mp}{a b:Addr}{c:uA}(h:b≠a):oU M a c b=M b:=by unfold oU;rw[cV h]
def rc{M:Mp}{a:Addr}{c d:uA}:oU (oU M a c) a d=oU M a d:=by funext b;unfold oU;split<;>rfl
def PJ{M:Mp}{a b:Addr}{c:uA}(h:M a=some c)(h':M b=none):a≠b:=by intro e;subst e;rw[h]at h';cases h'
def Bs(K:pX)(H:Hp)(fs:List (Str×D))(vs:List (Str×V)):Prop:=vs.map (·.1)=fs.map (·.1)/\pP K H (fs.map (·.2)) (vs.map (·.2))
def xi(K:pX)(H:Hp)(a:Addr):uA->Prop
 | .lst ds=>∃xs,H a=some (.lst xs)/\pP K H ds xs
 | .ins C fs=>∃dx vs,H a=some (.ins C dx vs)/\Cls K C/\(∀f,f∈fs.map (·.1)->tE K C f)/\Bs K H fs vs
 | .dk kvs=>∃vs,H a=some (.dK vs)/\vs.map (·.1)=kvs.map (·.1)/\pP K H (kvs.map (·.2)) (vs.map (·.2))
 | .exc C=>H a=some (.ext (S9 a C))
def HM(K:pX)(H:Hp)(M:Mp):Prop:=∀a c,M a=some c->xi K H a c
variable {M:Mp}
def Bs.mono{fs:List (Str×D)}{vs:List (Str×V)}(e:qx K H H')(h:Bs K H fs vs):Bs K H' fs vs:=⟨h.1,h.2.mono e⟩
def xi.keep{a:Addr}{c:uA}(e:qx K H H')(k:H' a=H a)(h:xi K H a c):xi K H' a c:=by
 cases c with
 | lst ds=>obtain⟨xs,e1,e2⟩:=h;exact⟨xs,by rw[k];exact e1,e2.mono e⟩
 | ins C fs=>obtain⟨dx,vs,e1,c,n,e2⟩:=h;exact⟨dx,vs,by rw[k];exact e1,c,n,e2.mono e⟩
 | dk kvs=>obtain⟨vs,e1,e2,e3⟩:=h;exact⟨vs,by rw[k];exact e1,e2,e3.mono e⟩
 | exc C=>exact k.trans h
def xi.there{a:Addr}{c:uA}(h:xi K H a c):∃o,H a=some o/\(∀xs,¬Rd H a (.tup xs))/\∀u xs,H a≠some (.frz u (.lst xs)):=by
 have go:∀o,H a=some o->(∀xs,o≠.tup xs)->(∀u v,o≠.frz u v)->∃o,H a=some o/\(∀xs,¬Rd H a (.tup xs))/\∀u xs,H a≠some (.frz u (.lst xs)):=λo e n1 n2=>⟨o,e,λxs q=>by
  rcases q with q|⟨u,q⟩
  .rw[e]at q;exact n1 xs (de q)
  .rw[e]at q;exact n2 u _ (de q),λu xs q=>by rw[e]at q;exact n2 u _ (de q)⟩
 cases c with
 | lst ds=>obtain⟨xs,e1,e2⟩:=h;exact go _ e1 (λ_ z=>by cases z) λ_ _ z=>by cases z
 | ins C fs=>obtain⟨dx,vs,e1,e2⟩:=h;exact go _ e1 (λ_ z=>by cases z) λ_ _ z=>by cases z
 | dk kvs=>obtain⟨vs,e1,e2,e3⟩:=h;exact go _ e1 (λ_ z=>by cases z) λ_ _ z=>by cases z
 | exc C=>exact go _ h (λ_ z=>by cases z) λ_ _ z=>by cases z
def HM.fresh(h:HM K H M){p:Addr}(n:H p=none):M p=none:=by
 cases e:M p with
 | none=>rfl
 | some c=>obtain⟨o,q,_⟩:=(h p c e).there;rw[n]at q;cases q
def HM.keep(h:HM K H M)(e:qx K H H')(k:∀a c,M a=some c->H' a=H a):HM K H' M:=λa c q=>(h a c q).keep e (k a c q)
def HM.add(h:HM K H M){p:Addr}{o:HO}(n:H p=none):HM K (upd H p o) M:=h.keep (.new n) λa c q=>by obtain⟨u,e,_⟩:=(h a c q).there;rw[pH (qw e n)]
def HM.new(h:HM K H M){p:Addr}{o:HO}{c:uA}(n:H p=none)(ok:xi K (upd H p o) p c):HM K (upd H p o) (oU M p c):=λa d q=>by
 by_cases e:a=p
 .subst e;rw[pA]at q;cases q;exact ok
 .rw[tI e]at q;exact h.add n a d q
def HM.put(h:HM K H M){p:Addr}{o:HO}{c c0:uA}(e0:M p=some c0)(ok:qx K H (upd H p o)->xi K (upd H p o) p c):HM K (upd H p o) (oU M p c)/\qx K H (upd H p o):=by
 obtain⟨u,eu,nt,nf⟩:=(h p c0 e0).there;have x:qx K H (upd H p o):=.upd nt nf;refine⟨λa d q=>?_,x⟩;by_cases e:a=p
 .subst e;rw[pA]at q;cases q;exact ok x
 .rw[tI e]at q;exact(h a d q).keep x (pH e)
abbrev St:=L2.St
abbrev uB:=List (Option D)
abbrev DK:=D->Mp->Prop
abbrev T3:=uB->Mp->DK->Prop
abbrev zN:=uB->Mp->(Bool->Mp->Prop)->Prop
abbrev wN:=uB->Mp->(List D->Mp->Prop)->Prop
structure FZ where
 nx:uB->Mp->Prop
 rt:DK
 bk:uB->Mp->Prop:=λ_ _=>False
 ct:uB->Mp->Prop:=λ_ _=>False
abbrev xq:=FZ->uB->Mp->Prop
def yf(K:pX)(H:Hp)(σ:St)(δ:uB):Prop:=∀(i:Nat) (d:D),δ[i]?=some (some d)->∃v,σ[i]?=some (some v)/\rm K H d v
def yf.mono{K:pX}{H H':Hp}{σ:St}{δ:uB}(e:qx K H H')(h:yf K H σ δ):yf K H' σ δ:=λi d q=>by obtain⟨v,e1,e2⟩:=h i d q;exact⟨v,e1,e2.mono e⟩
def yf.set{K:pX}{H:Hp}{σ:St}{δ:uB}{i:Nat}{d:D}{v:V}(h:yf K H σ δ)(hv:rm K H d v)(hi:i<σ.length):yf K H (σ.set i (some v)) (δ.set i (some d)):=λj e q=>by
 by_cases hj:j=i
 .subst hj;rw[eF hi];by_cases hl:j<δ.length
  .rw[eF hl]at q;cases q;exact⟨v,rfl,hv⟩
  .rw[gx (by simpa using hl)]at q;cases q
 .rw[eK (dG hj)]at q ⊢;exact h j e q
def lo(K:pX)(t:T3):TE:=λσ H Q'=>Ck λδ M Q=>yf K H σ δ/\HM K H M/\t δ M Q/\∀v H' d M',rm K H' d v->HM K H' M'->qx K H H'->Q d M'->Q' v H'
def RL(K:pX)(t:zN):TT:=λσ H Q'=>Ck λδ M Q=>yf K H σ δ/\HM K H M/\t δ M Q/\∀b H' M',HM K H' M'->qx K H H'->Q b M'->Q' b H'
def UX(K:pX)(t:wN):TA:=λσ H Q'=>Ck λδ M Q=>yf K H σ δ/\HM K H M/\t δ M Q/\∀vs H' ds M',pP K H' ds vs->HM K H' M'->qx K H H'->Q ds M'->Q' vs H'
def Uh(K:pX)(t:xq):TS:=λD' σ H=>Ck λδ M D=>yf K H σ δ/\HM K H M/\t D δ M/\(∀σ' H' δ' M',yf K H' σ' δ'->HM K H' M'->qx K H H'->σ'.length=σ.length->D.nx δ' M'->D'.nx σ' H')/\
 (∀v H' d M',rm K H' d v->HM K H' M'->qx K H H'->D.rt d M'->D'.rt v H')/\(∀σ' H' δ' M',yf K H' σ' δ'->HM K H' M'->qx K H H'->σ'.length=σ.length->D.bk δ' M'->D'.bk σ' H')/\
 (∀σ' H' δ' M',yf K H' σ' δ'->HM K H' M'->qx K H H'->σ'.length=σ.length->D.ct δ' M'->D'.ct σ' H')
def E3(X:Cx)(e:Expr)(t:T3):Prop:=PE X e (lo X.K t)
def B3(X:Cx)(e:Expr)(t:zN):Prop:=PT X e (RL X.K t)
def A3(X:Cx)(es:List Expr)(t:wN):Prop:=PA X es (UX X.K t)
def S3(X:Cx)(st:Stmt)(t:xq):Prop:=PS X st (Uh X.K t)
def GH(X:Cx)(st:List Stmt)(t:xq):Prop:=BE X st (Uh X.K t)
def PE.mono{X:Cx}{e:Expr}{t t':TE}(h:PE X e t)(m:∀σ H Q,t' σ H Q->t σ H Q):PE X e t':=λVw s σ H Q I q=>h Vw s σ H Q I (m σ H Q q)
def PT.mono{X:Cx}{e:Expr}{t t':TT}(h:PT X e t)(m:∀σ H Q,t' σ H Q->t σ H Q):PT X e t':=λVw s σ H Q I q=>h Vw s σ H Q I (m σ H Q q)
def PA.mono{X:Cx}{e:List Expr}{t t':TA}(h:PA X e t)(m:∀σ H Q,t' σ H Q->t σ H Q):PA X e t':=λpos Vw s σ H Q I q=>h pos Vw s σ H Q I (m σ H Q q)
def PS.mono{X:Cx}{e:Stmt}{t t':TS}(h:PS X e t)(m:∀D σ H,t' D σ H->t D σ H):PS X e t':=λVw s σ H D I q=>h Vw s σ H D I (m D σ H q)
def BE.mono{X:Cx}{e:List Stmt}{t t':TS}(h:BE X e t)(m:∀D σ H,t' D σ H->t D σ H):BE X e t':=λVw s σ H D I q=>h Vw s σ H D I (m D σ H q)
def PS.ny{X:Cx}{e:Stmt}{t t':TS}(h:PS X e t)(m:∀D σ H,σ.length=X.N.length->t' D σ H->t D σ H):PS X e t':=λVw s σ H D I q=>h Vw s σ H D I (m D σ H I.len q)
def vd{K:pX}{H H1:Hp}{Q':VK}{Q:DK}(x:qx K H H1)(f:∀v H' d M',rm K H' d v->HM K H' M'->qx K H H'->Q d M'->Q' v H'):∀v H' d M',rm K H' d v->HM K H' M'->qx K H1 H'->Q d M'->Q' v H':=
 λv H' d M' a b c e=>f v H' d M' a b (x.trans c) e
variable {X:Cx}{pos:Pos}
def v3(i:Nat):T3:=λδ M Q=>(δ.getD i none).elim False λd=>Q d M
def Jg{δ:uB}{i:Nat}{P:D->Prop}(h:(δ.getD i none).elim False P):∃d,δ[i]?=some (some d)/\P d:=by
 cases e:δ[i]? with
 | none=>rw[gz,e]at h;exact h.elim
 | some o=>
  rw[gz,e]at h;cases o with
  | none=>exact h.elim
  | some d=>exact⟨d,rfl,h⟩
def Qm(i:Nat){x:Str}(h:PE X (.Name x pos) (Ex i)):E3 X (.Name x pos) (v3 i):=PE.mono h λσ H Q' zz=>x7 zz λδ M Q hs hm ht k=>by obtain⟨d,e,q⟩:=Jg ht;obtain⟨v,e1,e2⟩:=hs i d e;exact⟨v,e1,k v H d M e2 hm .refl q⟩
def c3(d:D):T3:=λ_ M Q=>Q d M
def oN{i j}:E3 X (.Constant (.int i) j pos) (c3 (.int i)):=PE.mono Rg λσ H Q' zz=>x7 zz λδ M Q hs hm ht k=>k _ H _ M .int hm .refl ht
def uK{i j}:E3 X (.Constant (.bool i) j pos) (c3 (.bl i)):=PE.mono Tf λσ H Q' zz=>x7 zz λδ M Q hs hm ht k=>k _ H _ M .bl hm .refl ht
def oO{i j}:E3 X (.Constant (.str i) j pos) (c3 (.str i)):=PE.mono QL λσ H Q' zz=>x7 zz λδ M Q hs hm ht k=>k _ H _ M .str hm .refl ht
def qU{j}:E3 X (.Constant .none j pos) (c3 .mz):=PE.mono Qt λσ H Q' zz=>x7 zz λδ M Q hs hm ht k=>k _ H _ M .mz hm .refl ht
def oA(M:Mp)(a:Addr):Option (List D):=match M a with
 | some (.lst ds)=>some ds
 | _=>none
def ye(x:Str)(n:Int):Str:=⟨(List.replicate n.toNat x.cps).foldl (·++·) #[]⟩
def TL(op:Operator)(x y:D)(M:Mp)(Q:DK):Prop:=match op,x,y with
 | .Add,.int i,.int j=>Q (.int (i+j)) M
 | .Add,.str i,.str j=>i.length+j.length<=sizeLine/\Q (.str (i++j)) M
 | .Add,.tup i,.tup j=>i≠[]/\i.length+j.length<=sizeLine/\Q (.tup (i++j)) M
 | .Add,.ref a,.ref b=>(oA M a).elim False λi=>(oA M b).elim False λj=>i.length+j.length<=sizeLine/\∀p,M p=none->Q (.ref p) (oU M p (.lst (i++j)))
 | .Add,.rl i,.ref b=>(oA M b).elim False λj=>i.length+j.length<=sizeLine/\∀p,M p=none->Q (.ref p) (oU M p (.lst (i++j)))
 | .Sub,.int i,.int j=>Q (.int (i - j)) M
 | .Mult,.int i,.int j=>Cz i j/\Q (.int (i*j)) M
 | .Mult,.str i,.int j=>(j<4096/\-4096<j/\i.length<4096)/\Q (.str (ye i j)) M
 | .FloorDiv,.int i,.int j=>S6 i j/\Q (.int (i / j)) M
 | .Mod,.int i,.int j=>0<j/\Q (.int (i % j)) M
 | _,_,_=>False
def o3(op:Operator)(ta tb:T3):T3:=λδ M Q=>ta δ M λx M1=>tb δ M1 λy M2=>TL op x y M2 Q
def Up(K:pX)(H:Hp)(Q':VK)(Q:DK):Prop:=∀v H' d M',rm K H' d v->HM K H' M'->qx K H H'->Q d M'->Q' v H'
variable {ta tb:T3}
section
def pW{K:pX}{H:Hp}{M:Mp}{a:Addr}{ds:List D}(hm:HM K H M)(h:oA M a=some ds):∃xs,yo K H a xs/\pP K H ds xs/\Rd H a (.lst xs):=by
 unfold oA at h;cases e:M a with
 | none=>rw[e]at h;cases h
 | some c=>
  rw[e]at h;have ok:=hm a c e;cases c with
  | lst es=>cases h;obtain⟨xs,e1,e2⟩:=ok;exact⟨xs,.inl (.inl e1),e2,.inl e1⟩
  | ins _ _=>cases h
  | dk _=>cases h
  | exc _=>cases h
def qF{α:Type}{o:Option α}{P:α->Prop}(h:o.elim False P):∃a,o=some a/\P a:=by
 cases o with
 | none=>exact h.elim
 | some a=>exact⟨a,rfl,h⟩
def HJ:wO X (binaryOp .Add) (λx y H Q=>∃l b xs zs,x=.ref l/\y=.ref b/\yo X.K H l xs/\yo X.K H b zs/\xs.length+zs.length<=sizeLine/\∀p,H p=none->Q (.ref p) (upd H p (.lst (xs++zs)))):=by
 intro Vw s σ H x y v u Q I rx ry h;obtain⟨l,b,xs,zs,rfl,rfl,hH,hB,hz,q⟩:=h;cases rx;cases ry;obtain⟨its,r,⟨⟨c1,d1,t1,sl1⟩,n,g1,e1,_,f1⟩,_⟩:=I.list hH;obtain⟨Xv,r2,⟨⟨c2,d2,t2,sl2⟩,m,g2,e2,_,f2⟩,_⟩:=I.list hB;simp only at e1 f1 e2 f2;subst e1 f1 e2 f2;have hl:=r.length;have hl2:=r2.length;refine kH ⟨_,g1,rfl⟩ ⟨_,g2,rfl⟩ noFill_list_add seq_list_add PySem.F.slot_list_add PySem.F.entry_list_add (PySem.F.args_list_add_2 _ _) (list_addW l b its.toArray Xv.toArray n m d1 d2 sl1 sl2 (by rw[dh,dh];omega)) ⟨g1,g2,?_⟩;have ea:its.toArray++Xv.toArray=(its++Xv).toArray:=by simp
 rw[ea];exact⟨.ref _,_,I.ou (t':=s.toks) (r.append r2) (by rw[cU];omega),rfl,q _ I.fresh⟩
def Ib(x:Array Nat):∀k,((List.replicate k x).foldl (·++·) #[]:Array Nat).size=k*x.size:=by
 have go:∀(k:Nat) (acc:Array Nat),((List.replicate k x).foldl (·++·) acc).size=acc.size+k*x.size:=by
  intro k;induction k with
  | zero=>intro acc;simp
  | succ k ih=>intro acc;rw[eB,fS,ih,Array.size_append,lX];omega
 intro k;rw[go];simp
def Oh:wO X (binaryOp .Mult) (λx y H Q=>∃i j,x=.str i/\y=.int j/\(j<4096/\-4096<j/\i.length<4096)/\Q (.str (ye i j)) H):=by
 intro Vw s σ H x y v u Q I rx ry h;obtain⟨i,j,rfl,rfl,⟨h1,h2,h3⟩,q⟩:=h;obtain⟨t,rfl⟩:=rx;obtain⟨t',rfl⟩:=ry;refine PySem.P.mul_str ?_ ?_ ?_ ?_
 .rw[eJ (by omega),eJ (by omega)];rfl
 .intro h0 _;have:(4096:Int)<=(2 ^ 63 - 1) / j:=by
   have:(4096:Int)*j<=2 ^ 63 - 1:=by omega
   exact(Int.le_ediv_iff_mul_le (by omega)).mpr this
  omega
 .intro h0 _;have hm:i.length*j.toNat<=4096*4096:=j3 (by omega) (by omega);have hz:=dI;unfold Builtin.Str.tooLong;exact eJ (by omega)
 .by_cases h0:j<1
  .rw[cX h0];have e:ye i j=Str.empty:=by unfold ye;rw[show j.toNat=0 by omega];rfl
   rw[e]at q;exact⟨by decide,⟨.str Str.empty,H,I.tok _,⟨_,rfl⟩,q⟩⟩
  .rw[cV h0];by_cases hj:(j==1||i.length==0)=true
   .rw[cX hj];have e:ye i j=i:=by
     have hj':j=1\/i.length=0:=by simpa using hj
     unfold ye;rcases hj' with z|z
     .subst z;show(⟨#[]++i.cps⟩:Str)=i;simp
     .have ec:i.cps=#[]:=Array.size_eq_zero_iff.mp z;have er:∀k:Nat,((List.replicate k (#[]:Array Nat)).foldl (·++·) #[]:Array Nat)=#[]:=by
       intro k;induction k with
       | zero=>rfl
       | succ k ih=>rw[eB,fS];simpa using ih
      rw[ec,er,<-ec]
    rw[e]at q;exact⟨.str i,H,I,⟨t,rfl⟩,q⟩
   .rw[cV hj];refine⟨?_,⟨.str _,H,I.tok _,⟨_,rfl⟩,q⟩⟩;have hz:=dI;have hm:j.toNat*i.length<=4096*4096:=j3 (by omega) (by omega);show((List.replicate j.toNat i.cps).foldl (·++·) #[]:Array Nat).size<=_;rw[Ib];have W5:j.toNat*i.cps.size<=4096*4096:=hm;omega
def R3(K:pX)(f:D->D->Mp->DK->Prop):R2:=λvx vy H Q'=>AD λx y M Q=>rm K H x vx/\rm K H y vy/\HM K H M/\f x y M Q/\Up K H Q' Q
def Vj(op:Operator):wO X (binaryOp op) (R3 X.K (TL op)):=by
 intro Vw s σ H vx vy v u Q' I rx ry h;obtain⟨x,y,M,Q,hx,hy,hm,q,k⟩:=h;unfold TL at q;split at q
 .cases hx.int_inv;cases hy.int_inv;exact QX Vw s σ H _ _ v u Q' I rx ry ⟨_,_,rfl,rfl,k _ _ _ _ .int hm .refl q⟩
 .cases hx.str_inv;cases hy.str_inv;exact GY Vw s σ H _ _ v u Q' I rx ry ⟨_,_,rfl,rfl,q.1,k _ _ _ _ .str hm .refl q.2⟩
 .rename_i i j;obtain⟨q1,q2,q3⟩:=q;obtain⟨a,xs,rfl,ha,Xb⟩:=hx.mC;obtain⟨b,ys,rfl,hb,Wu⟩:=hy.mC;have l1:=Xb.length;have l2:=Wu.length;refine MY Vw s σ H _ _ v u Q' I rx ry ⟨a,b,xs,ys,rfl,rfl,ha,hb,λz=>q1 (by rw[z]at l1;exact gh.mp l1),by omega,λz=>?_,λz p hp=>?_⟩
  .refine k _ _ _ _ (.tup ha ?_) hm .refl q3;rw[z]at Wu;have e0:j=[]:=gh.mp (by simpa using Wu.length);rw[e0,eR];exact Xb
  .have e:qx X.K H (upd H p (.tup (xs++ys))):=.new hp;exact k _ _ _ _ (.tup (.of pM) ((Xb.append Wu).mono e)) (hm.add hp) e q3
 .obtain⟨i,ei,q⟩:=qF q;obtain⟨j,ej,q1,q2⟩:=qF q;cases hx.mq;cases hy.mq;obtain⟨xs,rx',YA,_⟩:=pW hm ei;obtain⟨ys,ry',hys,_⟩:=pW hm ej;have l1:=YA.length;have l2:=hys.length;refine HJ Vw s σ H _ _ v u Q' I rx ry ⟨_,_,xs,ys,rfl,rfl,rx',ry',by omega,λp hp=>?_⟩;have e:qx X.K H (upd H p (.lst (xs++ys))):=.new hp;exact k _ _ _ _ .ref (hm.new (c:=.lst (i++j)) hp ⟨_,pM,(YA.append hys).mono e⟩) e (q2 p (hm.fresh hp))
 .obtain⟨j,ej,q1,q2⟩:=qF q;obtain⟨l,xs,rfl,rx',YA⟩:=hx.mO;cases hy.mq;obtain⟨ys,ry',hys,_⟩:=pW hm ej;have l1:=YA.length;have l2:=hys.length;refine HJ Vw s σ H _ _ v u Q' I rx ry ⟨_,_,xs,ys,rfl,rfl,rx'.sq,ry',by omega,λp hp=>?_⟩;have e:qx X.K H (upd H p (.lst (xs++ys))):=.new hp;exact k _ _ _ _ .ref (hm.new (c:=.lst (_++j)) hp ⟨_,pM,(YA.append hys).mono e⟩) e (q2 p (hm.fresh hp))
 .cases hx.int_inv;cases hy.int_inv;exact Ry Vw s σ H _ _ v u Q' I rx ry ⟨_,_,rfl,rfl,k _ _ _ _ .int hm .refl q⟩
 .cases hx.int_inv;cases hy.int_inv;exact Qd Vw s σ H _ _ v u Q' I rx ry ⟨_,_,rfl,rfl,q.1,k _ _ _ _ .int hm .refl q.2⟩
 .cases hx.str_inv;cases hy.int_inv;exact Oh Vw s σ H _ _ v u Q' I rx ry ⟨_,_,rfl,rfl,q.1,k _ _ _ _ .str hm .refl q.2⟩
 .cases hx.int_inv;cases hy.int_inv;exact MN Vw s σ H _ _ v u Q' I rx ry ⟨_,_,rfl,rfl,q.1,k _ _ _ _ .int hm .refl q.2⟩
 .cases hx.int_inv;cases hy.int_inv;exact Q9 Vw s σ H _ _ v u Q' I rx ry ⟨_,_,rfl,rfl,q.1,k _ _ _ _ .int hm .refl q.2⟩
 .exact q.elim
variable {a b:Expr}
def Hb{f:D->D->Mp->DK->Prop}:∀σ H Q',lo X.K (λδ M Q=>ta δ M λx M1=>tb δ M1 λy M2=>f x y M2 Q) σ H Q'->To (R3 X.K f) (lo X.K ta) (lo X.K tb) σ H Q':=λσ H Q' zz=>x7 zz λδ M Q hs hm ht k=>⟨δ,M,_,hs,hm,ht,λv H1 x M1 hx Vy e1 q1=>⟨δ,M1,_,hs.mono e1,Vy,q1,λu H2 y M2 hy VO e2 q2=>⟨x,y,M2,Q,hx.mono e2,hy,VO,q2,vd (e1.trans e2) k⟩⟩⟩
def pE{op:Operator}(ha:E3 X a ta)(hb:E3 X b tb):E3 X (.BinOp a op b pos) (o3 op ta tb):=PE.mono (Pn (Vj op) ha hb) Hb
end
def tw(f:D->D->Option Bool):List D->List D->Option Bool
 | x::a,y::b=>(f x y).bind λp=>(tw f a b).map λq=>p&&q
 | _,_=>some true
def CO(M:Mp):Nat->D->D->Option Bool
 | 0,_,_=>none
 | n+1,x,y=>match x,y with
  | .mz,.mz=>some true
  | .bl a,.bl b=>some (a==b)
  | .int a,.int b=>some (a==b)
  | .str a,.str b=>some (a==b)
  | .mz,.bl _=>some false
  | .mz,.int _=>some false
  | .mz,.str _=>some false
  | .bl _,.mz=>some false
  | .bl _,.str _=>some false
  | .int _,.mz=>some false
  | .int _,.str _=>some false
  | .str _,.mz=>some false
  | .str _,.bl _=>some false
  | .str _,.int _=>some false
  | .tup a,.tup b=>(tw (CO M n) a b).map λp=>p&&a.length==b.length
  | .ref a,.ref b=>(oA M a).bind λi=>(oA M b).bind λj=>if i.length=j.length then tw (CO M n) i j else some false
  | _,_=>none
variable {Vw:List (Addr × Obj)}{σ:St}{s:Sd}
theorem xZ{f:D->D->Option Bool}:∀{ds es:List D} {xs:List V} {b:Bool},pP X.K H ds xs->pP X.K H es xs->(∀x y v b,rm X.K H x v->rm X.K H y v->f x y=some b->b=true)->tw f ds es=some b->b=true
 | [],[],_,_,_,_,_,e=>(de e).symm
 | [],_::_,_,_,h,g,_,_=>by have h1:=h.length;have h2:=g.length;rw[<-h1]at h2;simp at h2
 | _::_,[],_,_,h,g,_,_=>by have h1:=h.length;have h2:=g.length;rw[<-h1]at h2;simp at h2
 | d::ds,e::es,xs,b,h,g,k,q=>by
  obtain⟨x,r,rfl,h1,h2⟩:=h.inv;obtain⟨x',r',e',g1,g2⟩:=g.inv;cases e';unfold tw at q;cases p1:f d e with
  | none=>rw[p1]at q;cases q
  | some b1=>
   rw[p1]at q;cases p2:tw f ds es with
   | none=>rw[p2]at q;cases q
   | some b2=>rw[p2]at q;have q':(b1&&b2)=b:=de q;rw[<-q',k _ _ _ _ h1 g1 p1,xZ h2 g2 k p2];rfl
theorem za(I:Inv X Vw σ H s)(hm:HM X.K H M):∀(n:Nat) (x y:D) (v:V) (b:Bool),rm X.K H x v->rm X.K H y v->CO M n x y=some b->b=true
 | 0,_,_,_,_,_,_,e=>by cases e
 | n+1,x,y,v,b,hx,hy,e=>by
  unfold CO at e;split at e
  .exact(de e).symm
  .rw[hx.mw]at hy;cases hy.mw;exact(de e).symm.trans (by simp)
  .rw[hx.int_inv]at hy;cases hy.int_inv;exact(de e).symm.trans (by simp)
  .rw[hx.str_inv]at hy;cases hy.str_inv;exact(de e).symm.trans (by simp)
  .rw[hx.my]at hy;cases hy.mw
  .rw[hx.my]at hy;cases hy.int_inv
  .rw[hx.my]at hy;cases hy.str_inv
  .rw[hx.mw]at hy;cases hy.my
  .rw[hx.mw]at hy;cases hy.str_inv
  .rw[hx.int_inv]at hy;cases hy.my
  .rw[hx.int_inv]at hy;cases hy.str_inv
  .rw[hx.str_inv]at hy;cases hy.my
  .rw[hx.str_inv]at hy;cases hy.mw
  .rw[hx.str_inv]at hy;cases hy.int_inv
  .obtain⟨a,xs,rfl,h1,h2⟩:=hx.mC;obtain⟨a',ys,e',g1,g2⟩:=hy.mC;cases e';rw[I.mQ g1 h1]at g2;cases p:tw (CO M n) _ _ with
   | none=>rw[p]at e;cases e
   | some b1=>rw[p]at e;have e':=de e;rw[<-e',xZ h2 g2 (za I hm n) p,h2.length,g2.length];simp
  .rw[hx.mq]at hy;cases hy.mq;cases p:oA M _ with
   | none=>rw[p]at e;cases e
   | some i=>rw[p]at e;have e:(if i.length=i.length then tw (CO M n) i i else some false)=some b:=e;rw[cX rfl]at e;obtain⟨xs,_,h2,_⟩:=pW hm p;exact xZ h2 h2 (za I hm n) e
  .cases e
theorem A9{f:D->D->Option Bool}{A:Ar}:∀{ds es:List D} {xs ys:List V} {us ws:List Vl} {b:Bool},tw f ds es=some b->pP X.K H ds xs->pP X.K H es ys->qc xs us->qc ys ws->
  (∀x y b vx vy u w,f x y=some b->rm X.K H x vx->rm X.K H y vy->qm vx u->qm vy w->SeqAt.EqAt A s u w b)->
  ∃e:Nat->Bool,(∀j (h1:j<us.length) (h2:j<ws.length),SeqAt.EqAt A s us[j] ws[j] (e j))/\(List.range (min us.length ws.length)).all e=b
 | [],es,xs,ys,us,ws,b,q,hx,hy,rx,ry,k=>by
  have e1:=hx.nil_inv;subst e1;cases rx;refine⟨λ_=>true,λj h1=>absurd h1 (by simp),?_⟩;have q':some true=some b:=by cases es<;>exact q
  simpa using(de q')
 | d::ds,[],xs,ys,us,ws,b,q,hx,hy,rx,ry,k=>by
  have e1:=hy.nil_inv;subst e1;cases ry;refine⟨λ_=>true,λj _ h2=>absurd h2 (by simp),?_⟩;have q':some true=some b:=q
  simpa using(de q')
 | d::ds,e::es,xs,ys,us,ws,b,q,hx,hy,rx,ry,k=>by
  obtain⟨x,r,rfl,h1,h2⟩:=hx.inv;obtain⟨y,r',rfl,g1,g2⟩:=hy.inv;cases rx with
  | cons r1 r2=>
   cases ry with
   | cons t1 t2=>
    unfold tw at q;cases p1:f d e with
    | none=>rw[p1]at q;cases q
    | some b1=>
     rw[p1]at q;cases p2:tw f ds es with
     | none=>rw[p2]at q;cases q
     | some b2=>
      rw[p2]at q;have q':(b1&&b2)=b:=de q;obtain⟨e',he,ha⟩:=A9 p2 h2 g2 r2 t2 k;refine⟨λj=>match j with|0=>b1|j+1=>e' j,λj l1 l2=>?_,?_⟩
      .cases j with
       | zero=>exact k _ _ _ _ _ _ _ p1 h1 g1 r1 t1
       | succ j=>exact he j (by simpa using l1) (by simpa using l2)
      .rw[<-q',<-ha];simp only[dW];rw[Nat.succ_min_succ,List.range_succ_eq_map,gg,lY];rfl
theorem Dz(I:Inv X Vw σ H s)(hm:HM X.K H M):∀(n:Nat) (A:Ar) (x y:D) (b:Bool) (vx vy:V) (u w:Vl),A.units+n<cLine->CO M n x y=some b->rm X.K H x vx->rm X.K H y vy->qm vx u->qm vy w->
  SeqAt.RcAt A s u w b/\SeqAt.EqAt A s u w b/\SeqAt.RcNeAt A s u w (!b)
 | 0,_,_,_,_,_,_,_,_,_,e,_,_,_,_=>by cases e
 | n+1,A,x,y,b,vx,vy,u,w,hu,e,hx,hy,rx,ry=>by
  have hu1:A.units<cLine:=by omega
  have hui:A.in1.units+n<cLine:=by show A.units+1+n<cLine;omega
  unfold CO at e;split at e
  .cases hx.my;cases hy.my;cases rx;cases ry;cases e;exact⟨.none_none,.same _,.none_none⟩
  .cases hx.mw;cases hy.mw;cases rx;cases ry;cases e;exact⟨.bool_bool _ _,.bool_bool _ _,.bool_bool _ _⟩
  .cases hx.int_inv;cases hy.int_inv;obtain⟨t,rfl⟩:=rx;obtain⟨t',rfl⟩:=ry;cases e;exact⟨.int_int _ _ _ _,.int_int _ _ _ _,.int_int _ _ _ _⟩
  .cases hx.str_inv;cases hy.str_inv;obtain⟨t,rfl⟩:=rx;obtain⟨t',rfl⟩:=ry;cases e;exact⟨.str_str _ _ _ _,.str_str _ _ _ _,.str_str _ _ _ _⟩
  .cases hx.my;cases hy.mw;cases rx;cases ry;cases e;exact⟨.none_bool _,.none_bool _,.none_bool _⟩
  .cases hx.my;cases hy.int_inv;cases rx;obtain⟨t',rfl⟩:=ry;cases e;exact⟨.none_int _ _,.none_int _ _,.none_int _ _⟩
  .cases hx.my;cases hy.str_inv;cases rx;obtain⟨t',rfl⟩:=ry;cases e;exact⟨.none_str _ _,.none_str _ _,.none_str _ _⟩
  .cases hx.mw;cases hy.my;cases rx;cases ry;cases e;exact⟨.bool_none _,.bool_none _,.bool_none _⟩
  .cases hx.mw;cases hy.str_inv;cases rx;obtain⟨t',rfl⟩:=ry;cases e;exact⟨.bool_str _ _ _,.bool_str _ _ _,.bool_str _ _ _⟩
  .cases hx.int_inv;cases hy.my;obtain⟨t,rfl⟩:=rx;cases ry;cases e;exact⟨.int_none _ _,.int_none _ _,.int_none _ _⟩
  .cases hx.int_inv;cases hy.str_inv;obtain⟨t,rfl⟩:=rx;obtain⟨t',rfl⟩:=ry;cases e;exact⟨.int_str _ _ _ _,.int_str _ _ _ _,.int_str _ _ _ _⟩
  .cases hx.str_inv;cases hy.my;obtain⟨t,rfl⟩:=rx;cases ry;cases e;exact⟨.str_none _ _,.str_none _ _,.str_none _ _⟩
  .cases hx.str_inv;cases hy.mw;obtain⟨t,rfl⟩:=rx;cases ry;cases e;exact⟨.str_bool _ _ _,.str_bool _ _ _,.str_bool _ _ _⟩
  .cases hx.str_inv;cases hy.int_inv;obtain⟨t,rfl⟩:=rx;obtain⟨t',rfl⟩:=ry;cases e;exact⟨.str_int _ _ _ _,.str_int _ _ _ _,.str_int _ _ _ _⟩
  .rename_i da db;obtain⟨a1,xs,rfl,h1,h2⟩:=hx.mC;obtain⟨a2,ys,rfl,g1,g2⟩:=hy.mC;cases rx;cases ry;obtain⟨us,r1,p1,_⟩:=I.tuple h1;obtain⟨ws,r2,p2,_⟩:=I.tuple g1;cases p:tw (CO M n) da db with
   | none=>rw[p]at e;cases e
   | some b1=>
    have e0:=e;rw[p]at e;have e':(b1&&da.length==db.length)=b:=de e;obtain⟨f,hf,ha⟩:=A9 (A:=A.in1) (s:=s) p h2 g2 r1 r2 λx y b vx vy u w q1 q2 q3 q4 q5=>(Dz I hm n A.in1 x y b vx vy u w hui q1 q2 q3 q4 q5).2.1;have hb:((List.range (min us.toArray.size ws.toArray.size)).all f&&us.toArray.size==ws.toArray.size)=b:=by rw[dh,dh,ha,<-e',<-r1.length,<-r2.length,h2.length,g2.length]
    have hf':∀j (l1:j<us.toArray.size) (l2:j<ws.toArray.size),SeqAt.EqAt A.in1 s us.toArray[j] ws.toArray[j] (f j):=λj l1 l2=>by simpa using hf j (by simpa using l1) (by simpa using l2)
    have c1:SeqAt.RcAt A s (.ref a1) (.ref a2) b:=by rw[<-hb];exact .tuples p1 p2 hu1 hf'
    have c3:SeqAt.RcNeAt A s (.ref a1) (.ref a2) (!b):=by have:=SeqAt.RcNeAt.tuples p1 p2 hu1 hf';rw[hb]at this;exact this
    refine⟨c1,?_,c3⟩;by_cases ea:a1=a2
    .subst ea;have:b=true:=za I hm (n+1) (.tup da) (.tup db) (.ref a1) b hx hy (by unfold CO;exact e0);rw[this];exact .same _
    .exact .of_refs ea c1
  .cases hx.mq;cases hy.mq;cases rx;cases ry;rename_i a1 a2;have e0:=e;cases p:oA M a1 with
   | none=>rw[p]at e;cases e
   | some i=>
    cases p':oA M a2 with
    | none=>rw[p,p']at e;cases e
    | some j=>
     rw[p,p']at e;have e:(if i.length=j.length then tw (CO M n) i j else some false)=some b:=e;obtain⟨xs,q1,h2,_⟩:=pW hm p;obtain⟨ys,q2,g2,_⟩:=pW hm p';obtain⟨us,r1,p1,_⟩:=I.list q1;obtain⟨ws,r2,p2,_⟩:=I.list q2;have VB:SeqAt.RcAt A s (.ref a1) (.ref a2) b/\SeqAt.RcNeAt A s (.ref a1) (.ref a2) (!b):=by
      by_cases hl:i.length=j.length
      .rw[cX hl]at e;obtain⟨f,hf,ha⟩:=A9 (A:=A.in1) (s:=s) e h2 g2 r1 r2 λx y b vx vy u w q1 q2 q3 q4 q5=>(Dz I hm n A.in1 x y b vx vy u w hui q1 q2 q3 q4 q5).2.1;have hsz:us.toArray.size=ws.toArray.size:=by rw[dh,dh,<-r1.length,<-r2.length,<-h2.length,<-g2.length];exact hl
       have hf':∀j (l1:j<us.toArray.size) (l2:j<ws.toArray.size),SeqAt.EqAt A.in1 s us.toArray[j] ws.toArray[j] (f j):=λj l1 l2=>by simpa using hf j (by simpa using l1) (by simpa using l2)
       have hb:(List.range us.toArray.size).all f=b:=by rw[<-ha];rw[dh,dh]at hsz;rw[dh,<-hsz,Nat.min_self]
       rw[<-hb];exact⟨.lists p1.isList p2.isList hsz hu1 hf',.lists p1.isList p2.isList hsz hu1 hf'⟩
      .rw[cV hl]at e;cases e;have hsz:(us.toArray.size != ws.toArray.size)=true:=by
        rw[dh,dh,<-r1.length,<-r2.length,<-h2.length,<-g2.length]
        simpa using hl
       exact⟨.lists_lengths p1.isList p2.isList hsz hu1,.lists_lengths p1.isList p2.isList hsz hu1⟩
     refine⟨VB.1,?_,VB.2⟩;by_cases ea:a1=a2
     .subst ea;have:b=true:=za I hm (n+1) (.ref a1) (.ref a1) (.ref a1) b .ref .ref (by unfold CO;exact e0);rw[this];exact .same _
     .exact .of_refs ea VB.1
  .cases e
def uq:D->Bool
 | .mz=>true
 | .bl _=>true
 | .int _=>true
 | .str _=>true
 | _=>false
def NV:D->D->Bool
 | .mz,.mz=>true
 | .bl a,.bl b=>a==b
 | .bl a,.int b=>(if a then 1 else 0)==b
 | .int a,.bl b=>a==(if b then 1 else 0)
 | .int a,.int b=>a==b
 | .str a,.str b=>a==b
 | _,_=>false
def inD(x:D)(ds:List D):Bool:=ds.any λy=>NV y x
def J7(M:Mp):D->Option (List D)
 | .tup ds=>some ds
 | .ref a=>oA M a
 | .rl ds=>some ds
 | _=>none
def B'(i j:Str):Bool:=!(Builtin.Str.occurrences j i 0 j.length 1).isEmpty
def Ro(Xa:Bool)(x y:D)(M:Mp)(Q:DK):Prop:=match x,y with
 | .str i,.str j=>Q (.bl (if Xa then !B' i j else B' i j)) M
 | _,_=>(J7 M y).elim False λds=>uq x=true/\ds.all uq=true/\Q (.bl (if Xa then !inD x ds else inD x ds)) M
def MK(op:CmpOp)(x y:D)(M:Mp)(Q:DK):Prop:=match op with
 | .Eq=>(CO M 9 x y).elim False λb=>Q (.bl b) M
 | .NotEq=>(CO M 9 x y).elim False λb=>Q (.bl (!b)) M
 | .Lt=>match x,y with|.int i,.int j=>Q (.bl (decide (i<j))) M|_,_=>False
 | .LtE=>match x,y with|.int i,.int j=>Q (.bl (decide (i<=j))) M|_,_=>False
 | .Gt=>match x,y with|.int i,.int j=>Q (.bl (decide (j<i))) M|_,_=>False
 | .GtE=>match x,y with|.int i,.int j=>Q (.bl (decide (j<=i))) M|_,_=>False
 | .Is=>match y with|.mz=>Q (.bl (match x with|.mz=>true|_=>false)) M|_=>False
 | .IsNot=>match y with|.mz=>Q (.bl (match x with|.mz=>false|_=>true)) M|_=>False
 | .In=>Ro false x y M Q
 | .NotIn=>Ro true x y M Q
def k3(op:CmpOp)(ta tb:T3):T3:=λδ M Q=>ta δ M λx M1=>tb δ M1 λy M2=>MK op x y M2 Q
def yA{d:D}{v:V}(h:rm K H d v)(f:uq d=true):xS v=true:=by
 cases d with
 | mz=>rw[h.my];rfl
 | bl _=>rw[h.mw];rfl
 | int _=>rw[h.int_inv];rfl
 | str _=>rw[h.str_inv];rfl
 | _=>cases f
def Hx{d e:D}{v w:V}(h:rm K H d v)(g:rm K H e w)(f:uq d=true)(f':uq e=true):MH v w=NV d e:=by
 cases d with
 | mz=>
  rw[h.my];cases e with
  | mz=>rw[g.my];rfl
  | bl _=>rw[g.mw];rfl
  | int _=>rw[g.int_inv];rfl
  | str _=>rw[g.str_inv];rfl
  | _=>cases f'
 | bl _=>
  rw[h.mw];cases e with
  | mz=>rw[g.my];rfl
  | bl _=>rw[g.mw];rfl
  | int _=>rw[g.int_inv];rfl
  | str _=>rw[g.str_inv];rfl
  | _=>cases f'
 | int _=>
  rw[h.int_inv];cases e with
  | mz=>rw[g.my];rfl
  | bl _=>rw[g.mw];rfl
  | int _=>rw[g.int_inv];rfl
  | str _=>rw[g.str_inv];rfl
  | _=>cases f'
 | str _=>
  rw[h.str_inv];cases e with
  | mz=>rw[g.my];rfl
  | bl _=>rw[g.mw];rfl
  | int _=>rw[g.int_inv];rfl
  | str _=>rw[g.str_inv];rfl
  | _=>cases f'
 | _=>cases f
theorem EN:∀{ds:List D} {xs:List V},pP K H ds xs->ds.all uq=true->xs.all xS=true
 | [],_,h,_=>by rw[h.nil_inv];rfl
 | d::ds,_,h,f=>by obtain⟨x,r,rfl,h1,h2⟩:=h.inv;rw[gg,dP]at f ⊢;exact⟨yA h1 f.1,EN h2 f.2⟩
theorem Lb{e:D}{w:V}(g:rm K H e w)(f':uq e=true):∀{ds:List D} {xs:List V},pP K H ds xs->ds.all uq=true->inV w xs=inD e ds
 | [],_,h,_=>by rw[h.nil_inv];rfl
 | d::ds,_,h,f=>by obtain⟨x,r,rfl,h1,h2⟩:=h.inv;rw[gg,dP]at f;show(MH x w||inV w r)=(NV d e||inD e ds);rw[Hx h1 g f.1 f',Lb g f' h2 f.2]
def DN(hm:HM K H M){y:D}{v:V}{ds:List D}(h:rm K H y v)(q:J7 M y=some ds):∃p xs,v=.ref p/\(yo K H p xs\/ux K H p xs)/\pP K H ds xs:=by
 cases y with
 | tup es=>cases q;obtain⟨a,xs,rfl,h1,h2⟩:=h.mC;exact⟨a,xs,rfl,.inr h1,h2⟩
 | ref a=>cases h.mq;obtain⟨xs,h1,h2,_⟩:=pW hm q;exact⟨a,xs,rfl,.inl h1,h2⟩
 | rl es=>cases q;obtain⟨a,xs,rfl,h1,h2⟩:=h.mO;exact⟨a,xs,rfl,.inl h1.sq,h2⟩
 | _=>cases q
variable {c:Expr}{tc:T3}
section
def Jm(op:CmpOp)(hu:X.A.units+9<cLine):wO X (compareOp op) (R3 X.K (MK op)):=by
 intro Vw s σ H vx vy v u Q' I rx ry h;obtain⟨x,y,M,Q,hx,hy,hm,q,k⟩:=h;have bk:∀b,Q (.bl b) M->EP X Vw σ Q' (.bool b) s:=λb q=>⟨.bl b,H,I,rfl,k _ _ _ _ .bl hm .refl q⟩;have inn:∀Xa:Bool,((J7 M y).elim False λds=>uq x=true/\ds.all uq=true/\Q (.bl (if Xa then !inD x ds else inD x ds)) M)->T6 X.K Xa vx vy H Q':=λXa q=>by obtain⟨ds,e,f1,f2,q⟩:=qF q;obtain⟨p,xs,rfl,h1,h2⟩:=DN hm hy e;refine⟨p,xs,rfl,h1,yA hx f1,EN h2 f2,?_⟩;rw[Lb hx f1 h2 f2];exact k _ _ _ _ .bl hm .refl q
 cases op with
 | Eq=>obtain⟨b,e,q⟩:=qF q;exact(Dz I hm 9 X.A x y b vx vy v u hu e hx hy rx ry).1 _ _ _ _ (bk b q)
 | NotEq=>obtain⟨b,e,q⟩:=qF q;exact(Dz I hm 9 X.A x y b vx vy v u hu e hx hy rx ry).2.2 _ _ _ _ (bk _ q)
 | Lt=>
  cases x<;>first|exact q.elim|skip
  cases y<;>first|exact q.elim|skip
  cases hx.int_inv;cases hy.int_inv;exact Tx Vw s σ H _ _ v u Q' I rx ry ⟨_,_,rfl,rfl,k _ _ _ _ .bl hm .refl q⟩
 | LtE=>
  cases x<;>first|exact q.elim|skip
  cases y<;>first|exact q.elim|skip
  cases hx.int_inv;cases hy.int_inv;exact R7 Vw s σ H _ _ v u Q' I rx ry ⟨_,_,rfl,rfl,k _ _ _ _ .bl hm .refl q⟩
 | Gt=>
  cases x<;>first|exact q.elim|skip
  cases y<;>first|exact q.elim|skip
  cases hx.int_inv;cases hy.int_inv;exact R1 Vw s σ H _ _ v u Q' I rx ry ⟨_,_,rfl,rfl,k _ _ _ _ .bl hm .refl q⟩
 | GtE=>
  cases x<;>first|exact q.elim|skip
  cases y<;>first|exact q.elim|skip
  cases hx.int_inv;cases hy.int_inv;exact Tr Vw s σ H _ _ v u Q' I rx ry ⟨_,_,rfl,rfl,k _ _ _ _ .bl hm .refl q⟩
 | Is=>
  cases y<;>first|exact q.elim|skip
  cases hy.my;refine P4 Vw s σ H _ _ v u Q' I rx ry ⟨rfl,k _ _ _ _ ?_ hm .refl q⟩;cases x with
  | mz=>rw[hx.my];exact .bl
  | bl _=>rw[hx.mw];exact .bl
  | int _=>rw[hx.int_inv];exact .bl
  | str _=>rw[hx.str_inv];exact .bl
  | tup _=>obtain⟨a,xs,rfl,_⟩:=hx.mC;exact .bl
  | ref _=>rw[hx.mq];exact .bl
  | ty _=>rw[hx.nL];exact .bl
  | rl _=>obtain⟨a,xs,rfl,_⟩:=hx.mO;exact .bl
 | IsNot=>
  cases y<;>first|exact q.elim|skip
  cases hy.my;refine M7 Vw s σ H _ _ v u Q' I rx ry ⟨rfl,k _ _ _ _ ?_ hm .refl q⟩;cases x with
  | mz=>rw[hx.my];exact .bl
  | bl _=>rw[hx.mw];exact .bl
  | int _=>rw[hx.int_inv];exact .bl
  | str _=>rw[hx.str_inv];exact .bl
  | tup _=>obtain⟨a,xs,rfl,_⟩:=hx.mC;exact .bl
  | ref _=>rw[hx.mq];exact .bl
  | ty _=>rw[hx.nL];exact .bl
  | rl _=>obtain⟨a,xs,rfl,_⟩:=hx.mO;exact .bl
 | In=>
  have q:Ro false x y M Q:=q;unfold Ro at q;split at q
  .cases hx.str_inv;cases hy.str_inv;exact IT Vw s σ H _ _ v u Q' I rx ry ⟨_,_,rfl,rfl,k _ _ _ _ .bl hm .refl q⟩
  .exact JK Vw s σ H _ _ v u Q' I rx ry (inn false q)
 | NotIn=>
  have q:Ro true x y M Q:=q;unfold Ro at q;split at q
  .cases hx.str_inv;cases hy.str_inv;exact Dx Vw s σ H _ _ v u Q' I rx ry ⟨_,_,rfl,rfl,k _ _ _ _ .bl hm .refl q⟩
  .exact D7 Vw s σ H _ _ v u Q' I rx ry (inn true q)
variable {a b:Expr}
def pC{op:CmpOp}(hu:X.A.units+9<cLine)(ha:E3 X a ta)(hb:E3 X b tb)(hm:behindInMarks op b=false:=by first|exact Gi _|with_unfolding_all rfl):E3 X (.Compare a [op] [b] pos) (k3 op ta tb):=PE.mono (HQ (Jm op hu) ha hb hm) Hb
def b3(t:T3):zN:=λδ M Q=>t δ M λd M1=>match d with|.bl c=>Q c M1|_=>False
def tT{e:Expr}{t:T3}(h:E3 X e t)(he:∀V9,isTrue e X.env V9=(do let v<-V9;standAt e.pos;holding [v] (truthy v)):=by intro _;rfl):B3 X e (b3 t):=PT.mono (PP h he) λσ H Q' zz=>x7 zz λδ M Q hs hm ht k=>
 ⟨δ,M,_,hs,hm,ht,λv H1 d M1 hd Vy e1 q1=>by
  cases d with
  | bl c=>exact⟨c,hd.mw,k c H1 M1 Vy e1 q1⟩
  | _=>exact q1.elim⟩
def oV{op:CmpOp}(hu:X.A.units+9<cLine)(ha:E3 X a ta)(hb:E3 X b tb)(hm:behindInMarks op b=false:=by first|exact Gi _|with_unfolding_all rfl):B3 X (.Compare a [op] [b] pos) (b3 (k3 op ta tb)):=PT.mono (Hy (Jm op hu) ha hb hm) λσ H Q' zz=>x7 zz λδ M Q hs hm ht k=>
 Hb σ H _ ⟨δ,M,_,hs,hm,ht,λv H1 d M1 hd Vy e1 q1=>by
  cases d with
  | bl c=>exact⟨c,hd.mw,k c H1 M1 Vy e1 q1⟩
  | _=>exact q1.elim⟩
end
variable {tA tB:zN}{rest:List Expr}
section
variable {a b:Expr}
def Ow(t u:zN):zN:=λδ M Q=>t δ M λc M1=>if c=true then u δ M1 Q else Q false M1
def Vk(t u:zN):zN:=λδ M Q=>t δ M λc M1=>if c=true then Q true M1 else u δ M1 Q
def S7(t:zN):zN:=λδ M Q=>t δ M λc M1=>Q (!c) M1
def W3(X:Cx)(e:Expr)(t:zN):Prop:=PW X e (RL X.K t)
def PW.mono{X:Cx}{e:Expr}{t t':TT}(h:PW X e t)(m:∀σ H Q,t' σ H Q->t σ H Q):PW X e t':=λwh Vw s σ H Q I q=>h wh Vw s σ H Q I (m σ H Q q)
def W3.b3{e:Expr}{t:zN}(h:W3 X e t):B3 X e t:=PW.pt h
def vZ(h:B3 X a tA):W3 X (.BoolOp .And [a] pos) tA:=OH h
def vv(h:B3 X a tA):W3 X (.BoolOp .Or [a] pos) tA:=Rt h
def wK(ha:B3 X a tA)(hb:W3 X (.BoolOp .And (b::rest) pos) tB):W3 X (.BoolOp .And (a::b::rest) pos) (Ow tA tB):=PW.mono (Qc ha hb) λσ H Q' zz=>x7 zz λδ M Q hs hm ht k=>
 ⟨δ,M,_,hs,hm,ht,λc H1 M1 Vy e1 q1=>by
  cases c with
  | true=>exact(cX rfl).mpr ⟨δ,M1,Q,hs.mono e1,Vy,(cX rfl).mp q1,λb H' M' x1 x2 x3=>k b H' M' x1 (e1.trans x2) x3⟩
  | false=>exact(cV df).mpr (k false H1 M1 Vy e1 ((cV df).mp q1))⟩
def vG(ha:B3 X a tA)(hb:W3 X (.BoolOp .Or (b::rest) pos) tB):W3 X (.BoolOp .Or (a::b::rest) pos) (Vk tA tB):=PW.mono (SZ ha hb) λσ H Q' zz=>x7 zz λδ M Q hs hm ht k=>
 ⟨δ,M,_,hs,hm,ht,λc H1 M1 Vy e1 q1=>by
  cases c with
  | true=>exact(cX rfl).mpr (k true H1 M1 Vy e1 ((cX rfl).mp q1))
  | false=>exact(cV df).mpr ⟨δ,M1,Q,hs.mono e1,Vy,(cV df).mp q1,λb H' M' x1 x2 x3=>k b H' M' x1 (e1.trans x2) x3⟩⟩
def um(ha:B3 X a tA):B3 X (.UnaryOp .Not a pos) (S7 tA):=PT.mono (PQ ha) λσ H Q' zz=>x7 zz λδ M Q hs hm ht k=>⟨δ,M,_,hs,hm,ht,λc H1 M1 Vy e1 q1=>k _ H1 M1 Vy e1 q1⟩
def RW(ta tb:T3):T3:=λδ M Q=>ta δ M λd M1=>match d with|.bl c=>if c=true then tb δ M1 Q else Q (.bl false) M1|_=>False
def TU(ta tb:T3):T3:=λδ M Q=>ta δ M λd M1=>match d with|.bl c=>if c=true then Q (.bl true) M1 else tb δ M1 Q|_=>False
def SS(ta:T3):T3:=λδ M Q=>ta δ M λd M1=>match d with|.bl c=>Q (.bl (!c)) M1|_=>False
def qS{op}(h:E3 X a ta):E3 X (.BoolOp op [a] pos) ta:=RB h
def qT(ha:E3 X a ta)(hb:E3 X (.BoolOp .And (b::rest) pos) tb):E3 X (.BoolOp .And (a::b::rest) pos) (RW ta tb):=PE.mono (P8 ha hb) λσ H Q' zz=>x7 zz λδ M Q hs hm ht k=>
 ⟨δ,M,_,hs,hm,ht,λv H1 d M1 hd Vy e1 q1=>by
  cases d with
  | bl c=>
   refine⟨c,hd.mw,?_⟩;cases c with
   | true=>exact(cX rfl).mpr ⟨δ,M1,Q,hs.mono e1,Vy,(cX rfl).mp q1,vd e1 k⟩
   | false=>exact(cV df).mpr (k _ H1 _ M1 .bl Vy e1 ((cV df).mp q1))
  | _=>exact q1.elim⟩
def CK(ha:E3 X a ta)(hb:E3 X (.BoolOp .Or (b::rest) pos) tb):E3 X (.BoolOp .Or (a::b::rest) pos) (TU ta tb):=PE.mono (S8 ha hb) λσ H Q' zz=>x7 zz λδ M Q hs hm ht k=>
 ⟨δ,M,_,hs,hm,ht,λv H1 d M1 hd Vy e1 q1=>by
  cases d with
  | bl c=>
   refine⟨c,hd.mw,?_⟩;cases c with
   | true=>exact(cX rfl).mpr (k _ H1 _ M1 .bl Vy e1 ((cX rfl).mp q1))
   | false=>exact(cV df).mpr ⟨δ,M1,Q,hs.mono e1,Vy,(cV df).mp q1,vd e1 k⟩
  | _=>exact q1.elim⟩
def Q3(ha:E3 X a ta):E3 X (.UnaryOp .Not a pos) (SS ta):=PE.mono (RD ha) λσ H Q' zz=>x7 zz λδ M Q hs hm ht k=>
 ⟨δ,M,_,hs,hm,ht,λv H1 d M1 hd Vy e1 q1=>by
  cases d with
  | bl c=>exact⟨c,hd.mw,k _ H1 _ M1 .bl Vy e1 q1⟩
  | _=>exact q1.elim⟩
def Ve(t:zN)(ta tb:T3):T3:=λδ M Q=>t δ M λc M1=>if c=true then ta δ M1 Q else tb δ M1 Q
def PK(hc:B3 X c tA)(ha:E3 X a ta)(hb:E3 X b tb):E3 X (.IfExp c a b pos) (Ve tA ta tb):=PE.mono (KM hc ha hb) λσ H Q' zz=>x7 zz λδ M Q hs hm ht k=>
 ⟨δ,M,_,hs,hm,ht,λc H1 M1 Vy e1 q1=>by
  cases c with
  | true=>exact(cX rfl).mpr ⟨δ,M1,Q,hs.mono e1,Vy,(cX rfl).mp q1,vd e1 k⟩
  | false=>exact(cV df).mpr ⟨δ,M1,Q,hs.mono e1,Vy,(cV df).mp q1,vd e1 k⟩⟩
def T1(x y:D)(M:Mp)(Q:DK):Prop:=match x,y with
 | .tup ds,.int i=>(vL ds i).elim False λd=>Q d M
 | .ref a,.int i=>(oA M a).elim False λds=>(vL ds i).elim False λd=>Q d M
 | .rl ds,.int i=>(vL ds i).elim False λd=>Q d M
 | .str z,.int i=>z.length<=sizeLine/\(vL z.cps.toList i).elim False λc=>Q (.str ⟨#[c]⟩) M
 | _,_=>False
def i3(ta tb:T3):T3:=λδ M Q=>ta δ M λx M1=>tb δ M1 λy M2=>T1 x y M2 Q
def Ds{K:pX}{H:Hp}{ds:List D}{xs:List V}{i:Int}{d:D}(h:pP K H ds xs)(e:vL ds i=some d):∃v,vL xs i=some v/\rm K H d v:=by
 unfold vL at e ⊢;rw[<-h.length];cases q:F5 ds.length i with
 | none=>rw[q]at e;cases e
 | some j=>rw[q]at e;exact h.get e
def Vq:RN X (R3 X.K T1):=by
 intro value VJ Vw s σ H vx vy v u Q' I rx ry h hs;obtain⟨x,y,M,Q,hx,hy,hm,q,k⟩:=h;unfold T1 at q;split at q
 .obtain⟨d,e,q⟩:=qF q;obtain⟨p,xs,rfl,h1,h2⟩:=hx.mC;cases hy.int_inv;obtain⟨w,e1,e2⟩:=Ds h2 e;exact Qz value VJ Vw s σ H _ _ v u Q' I rx ry ⟨p,xs,_,w,rfl,rfl,h1,e1,k _ _ _ _ e2 hm .refl q⟩ hs
 .obtain⟨ds,e0,q⟩:=qF q;obtain⟨d,e,q⟩:=qF q;cases hx.mq;cases hy.int_inv;obtain⟨xs,h1,h2,_⟩:=pW hm e0;obtain⟨w,e1,e2⟩:=Ds h2 e;exact HH value VJ Vw s σ H _ _ v u Q' I rx ry ⟨_,xs,_,w,rfl,rfl,h1,e1,k _ _ _ _ e2 hm .refl q⟩ hs
 .obtain⟨d,e,q⟩:=qF q;obtain⟨p,xs,rfl,h1,h2⟩:=hx.mO;cases hy.int_inv;obtain⟨w,e1,e2⟩:=Ds h2 e;exact HH value VJ Vw s σ H _ _ v u Q' I rx ry ⟨p,xs,_,w,rfl,rfl,h1.sq,e1,k _ _ _ _ e2 hm .refl q⟩ hs
 .obtain⟨q1,q⟩:=q;obtain⟨c,e,q⟩:=qF q;cases hx.str_inv;cases hy.int_inv;exact QT value VJ Vw s σ H _ _ v u Q' I rx ry ⟨_,_,c,rfl,rfl,q1,e,k _ _ _ _ .str hm .refl q⟩ hs
 .exact q.elim
def o9(ha:E3 X a ta)(hb:E3 X b tb)(hs:AA b:=by exact λ_ _=>rfl):E3 X (.Subscript a b pos) (i3 ta tb):=PE.mono (LH Vq ha hb hs) Hb
def sT(ds:List D)(lo hi:Option Int):List D:=(ds.drop (HT.sj ds.length 0 lo)).take (HT.sj ds.length ds.length hi - HT.sj ds.length 0 lo)
def ED{K:pX}{H:Hp}{ds:List D}{xs:List V}{l h:Option Int}(q:pP K H ds xs):pP K H (sT ds l h) (BR xs l h):=by unfold sT BR;rw[q.length];exact(q.drop _).take _
abbrev RM:=uB->Mp->(Option Int->Mp->Prop)->Prop
def Vo(K:pX)(t:RM):TO:=λσ H Q'=>Ck λδ M Q=>yf K H σ δ/\HM K H M/\t δ M Q/\∀o H' M',HM K H' M'->qx K H H'->Q o M'->Q' o H'
def O3(X:Cx)(e:Option Expr)(t:RM):Prop:=PO X e (Vo X.K t)
def NM:RM:=λ_ M Q=>Q none M
def RT(t:T3):RM:=λδ M Q=>t δ M λd M1=>match d with|.int i=>Q (some i) M1|_=>False
def PO.mono{X:Cx}{e:Option Expr}{t t':TO}(h:PO X e t)(m:∀σ H Q,t' σ H Q->t σ H Q):PO X e t':=λVw s σ H Q I q=>h Vw s σ H Q I (m σ H Q q)
def sE:O3 X none NM:=PO.mono NR λσ H Q' zz=>x7 zz λδ M Q hs hm ht k=>k none H M hm .refl ht
def rW{e:Expr}{t:T3}(h:E3 X e t):O3 X (some e) (RT t):=PO.mono (Ng h) λσ H Q' zz=>x7 zz λδ M Q hs hm ht k=>
 ⟨δ,M,_,hs,hm,ht,λv H1 d M1 hd Vy e1 q1=>by
  cases d with
  | int i=>exact⟨i,hd.int_inv,k (some i) H1 M1 Vy e1 q1⟩
  | _=>exact q1.elim⟩
def Vc(x:D)(lo hi:Option Int)(M:Mp)(Q:DK):Prop:=match x with
 | .tup ds=>Q (.tup (sT ds lo hi)) M
 | .ref a=>(oA M a).elim False λds=>∀p,M p=none->Q (.ref p) (oU M p (.lst (sT ds lo hi)))
 | .rl ds=>∀p,M p=none->Q (.ref p) (oU M p (.lst (sT ds lo hi)))
 | _=>False
def s3(te:T3)(tl th:RM):T3:=λδ M Q=>te δ M λx M1=>tl δ M1 λl M2=>th δ M2 λu M3=>Vc x l u M3 Q
def US(K:pX):V->Option Int->Option Int->Hp->VK->Prop:=λvx l u H Q'=>Ck λx M Q=>rm K H x vx/\HM K H M/\Vc x l u M Q/\Up K H Q' Q
def Ol{ds:List D}{lo hi:Option Int}(h:HT.sj ds.length 0 lo=0/\HT.sj ds.length ds.length hi=ds.length):sT ds lo hi=ds:=by unfold sT;rw[h.1,h.2,iU,kN,fE]
def T7:RY X (US X.K):=by
 intro Vw s σ H vx v vl vu l u sl Q' I rx XU pl pu h;obtain⟨x,M,Q,hx,hm,q,k⟩:=h;cases x with
 | tup ds=>
  have q2:Q (.tup (sT ds l u)) M:=q;obtain⟨a,xs,rfl,h1,h2⟩:=hx.mC;by_cases q1:HT.sj ds.length 0 l=0/\HT.sj ds.length ds.length u=ds.length
  .rw[Ol q1]at q2;exact Q5 Vw s σ H _ v vl vu l u sl Q' I rx XU pl pu ⟨a,xs,rfl,h1,by rw[<-h2.length];exact q1,k _ _ _ _ hx hm .refl q2⟩
  refine QC Vw s σ H _ v vl vu l u sl Q' I rx XU pl pu ⟨a,xs,rfl,h1,by rw[<-h2.length];exact q1,λp hp=>?_⟩;have e:qx X.K H (upd H p (.tup (BR xs l u))):=.new hp;exact k _ _ _ _ (.tup (.of pM) ((ED h2).mono e)) (hm.add hp) e q2
 | ref a=>obtain⟨ds,e0,q⟩:=qF q;cases hx.mq;obtain⟨xs,h1,h2,_⟩:=pW hm e0;refine Hq Vw s σ H _ v vl vu l u sl Q' I rx XU pl pu ⟨a,xs,rfl,h1,λp hp=>?_⟩;have e:qx X.K H (upd H p (.lst (BR xs l u))):=.new hp;exact k _ _ _ _ .ref (hm.new (c:=.lst (sT ds l u)) hp ⟨_,pM,(ED h2).mono e⟩) e (q p (hm.fresh hp))
 | rl ds=>obtain⟨a,xs,rfl,h1,h2⟩:=hx.mO;refine Hq Vw s σ H _ v vl vu l u sl Q' I rx XU pl pu ⟨a,xs,rfl,h1.sq,λp hp=>?_⟩;have e:qx X.K H (upd H p (.lst (BR xs l u))):=.new hp;exact k _ _ _ _ .ref (hm.new (c:=.lst (sT ds l u)) hp ⟨_,pM,(ED h2).mono e⟩) e (q p (hm.fresh hp))
 | _=>exact q.elim
def rN{e:Expr}{te:T3}{lo hi:Option Expr}{tl th:RM}{p2:Pos}(he:E3 X e te)(hl:O3 X lo tl)(hu:O3 X hi th):E3 X (.Subscript e (.Slice lo hi none p2) pos) (s3 te tl th):=PE.mono (K6 T7 he hl hu) λσ H Q' zz=>x7 zz λδ M Q hs hm ht k=>⟨δ,M,_,hs,hm,ht,λv H1 x M1 hx Vy e1 q1=>⟨δ,M1,_,hs.mono e1,Vy,q1,λl H2 M2 VO e2 q2=>⟨δ,M2,_,hs.mono (e1.trans e2),VO,q2,λu H3 M3 Ww e3 q3=>⟨x,M3,Q,hx.mono (e2.trans e3),Ww,q3,vd (e1.trans (e2.trans e3)) k⟩⟩⟩⟩
def xf:wN:=λ_ M Q=>Q [] M
def uG(ta:T3)(tr:wN):wN:=λδ M Q=>ta δ M λx M1=>tr δ M1 λxs M2=>Q (x::xs) M2
def rO:A3 X [] xf:=PA.mono Qo λσ H Q' zz=>x7 zz λδ M Q hs hm ht k=>k [] H [] M .nil hm .refl ht
def pF{e:Expr}{es:List Expr}{te:T3}{t:wN}(ha:E3 X e te)(hr:A3 X es t)(hs:AB X e es:=by rfl):A3 X (e::es) (uG te t):=PA.mono (NB ha hr hs) λσ H Q' zz=>x7 zz λδ M Q hs hm ht k=>⟨δ,M,_,hs,hm,ht,λv H1 x M1 hx Vy e1 q1=>⟨δ,M1,_,hs.mono e1,Vy,q1,λvs H2 xs M2 YA VO e2 q2=>k _ H2 _ M2 (.cons (hx.mono e2) YA) VO (e1.trans e2) q2⟩⟩
def Ur(t:wN):T3:=λδ M Q=>t δ M λds M1=>ds.length<=sizeLine/\Q (.tup ds) M1
def S0(t:wN):T3:=λδ M Q=>t δ M λds M1=>ds.length<=sizeLine/\∀p,M1 p=none->Q (.ref p) (oU M1 p (.lst ds))
def pk{x1}{es:List Expr}{t:wN}(h:A3 X es t):E3 X (.Tuple es x1 pos) (Ur t):=PE.mono (Rq h) λσ H Q' zz=>x7 zz λδ M Q hs hm ht k=>
 ⟨δ,M,_,hs,hm,ht,λvs H1 ds M1 WO Vy e1 q1=>⟨by rw[<-WO.length];exact q1.1,λp hp=>by
  have e:qx X.K H1 (upd H1 p (.tup vs)):=.new hp;exact k _ _ _ M1 (.tup (.of pM) (WO.mono e)) (Vy.add hp) (e1.trans e) q1.2⟩⟩
def qr{es:List Expr}{t:wN}(h:A3 X es t):E3 X (.List es pos) (S0 t):=PE.mono (QW h) λσ H Q' zz=>x7 zz λδ M Q hs hm ht k=>
 ⟨δ,M,_,hs,hm,ht,λvs H1 ds M1 WO Vy e1 q1=>⟨by rw[<-WO.length];exact q1.1,λp hp=>by
  have e:qx X.K H1 (upd H1 p (.lst vs)):=.new hp;exact k _ _ _ _ .ref (Vy.new (c:=.lst ds) hp ⟨_,pM,WO.mono e⟩) (e1.trans e) (q1.2 p (Vy.fresh hp))⟩⟩
def tW(t u:xq):xq:=λD δ M=>t {D with nx:=u D} δ M
def TH:xq:=λD δ M=>D.nx δ M
def oX:GH X [] TH:=BE.mono Nv λD' σ H zz=>JY zz λδ M D hs hm ht k1 k2 k3 k4=>k1 σ H δ M hs hm .refl rfl ht
def oJ{st:Stmt}{rest:List Stmt}{t u:xq}(h1:S3 X st t)(h2:GH X rest u):GH X (st::rest) (tW t u):=BE.mono (Ki h1 h2) λD' σ H zz=>JY zz λδ M D hs hm ht k1 k2 k3 k4=>
 ⟨δ,M,{D with nx:=u D},hs,hm,ht,λσ1 H1 δ1 M1 YB Vy e1 l1 q1=>⟨δ1,M1,D,YB,Vy,q1,λσ' H' δ' M' x1 x2 x3 x4 x5=>k1 σ' H' δ' M' x1 x2 (e1.trans x3) (x4.trans l1) x5,λv H' d M' x1 x2 x3 x4=>k2 v H' d M' x1 x2 (e1.trans x3) x4,λσ' H' δ' M' x1 x2 x3 x4 x5=>k3 σ' H' δ' M' x1 x2 (e1.trans x3) (x4.trans l1) x5,λσ' H' δ' M' x1 x2 x3 x4 x5=>k4 σ' H' δ' M' x1 x2 (e1.trans x3) (x4.trans l1) x5⟩,k2,k3,k4⟩
def oM{st:Stmt}{t:xq}(h1:S3 X st t):GH X [st] t:=BE.mono (DH h1) λD' σ H h=>h
def Pi(te:T3):xq:=λD δ M=>te δ M λ_ M1=>D.nx δ M1
def pf{e:Expr}{te:T3}(he:E3 X e te)(W4:swapsWith e none pos.line X.env=pure false:=by rfl):S3 X (.Expr e pos) (Pi te):=PS.mono (On he W4) λD' σ H zz=>JY zz λδ M D hs hm ht k1 k2 k3 k4=>⟨δ,M,_,hs,hm,ht,λv H1 d M1 hd Vy e1 q1=>k1 σ H1 δ M1 (hs.mono e1) Vy e1 rfl q1⟩
def Qp(te:T3):xq:=λD δ M=>te δ M D.rt
def oR{e:Expr}{te:T3}(he:E3 X e te):S3 X (.Return (some e) pos) (Qp te):=PS.mono (Ra he) λD' σ H zz=>JY zz λδ M D hs hm ht k1 k2 k3 k4=>⟨δ,M,_,hs,hm,ht,λv H1 d M1 hd Vy e1 q1=>k2 v H1 d M1 hd Vy e1 q1⟩
def Rm(c:zN)(t u:xq):xq:=λD δ M=>c δ M λb M1=>if b=true then t D δ M1 else u D δ M1
def pq{c:Expr}{as bs:List Stmt}{tc:zN}{t u:xq}(hc:B3 X c tc)(ha:GH X as t)(hb:GH X bs u):S3 X (.If c as bs pos) (Rm tc t u):=PS.mono (RS hc ha hb) λD' σ H zz=>JY zz λδ M D hs hm ht k1 k2 k3 k4=>
 ⟨δ,M,_,hs,hm,ht,λb H1 M1 Vy e1 q1=>by
  have up:∀t:xq,t D δ M1->Uh X.K t D' σ H1:=λt q=>⟨δ,M1,D,hs.mono e1,Vy,q,λσ' H' δ' M' x1 x2 x3 x4 x5=>k1 σ' H' δ' M' x1 x2 (e1.trans x3) x4 x5,λv H' d M' x1 x2 x3 x4=>k2 v H' d M' x1 x2 (e1.trans x3) x4,λσ' H' δ' M' x1 x2 x3 x4 x5=>k3 σ' H' δ' M' x1 x2 (e1.trans x3) x4 x5,λσ' H' δ' M' x1 x2 x3 x4 x5=>k4 σ' H' δ' M' x1 x2 (e1.trans x3) x4 x5⟩
  cases b with
  | true=>exact(cX rfl).mpr (up t ((cX rfl).mp q1))
  | false=>exact(cV df).mpr (up u ((cV df).mp q1))⟩
def Qh:xq:=λ_ _ _=>False
def FG{st:Stmt}:S3 X st Qh:=PS.mono J3 λD' σ H ⟨δ,M,D,hs,hm,ht,_⟩=>ht
abbrev B1:=D->uB->Mp->(uB->Mp->Prop)->Prop
def TQ(K:pX)(g:B1):TG:=λv σ H Q'=>AD λd δ M Q=>rm K H d v/\yf K H σ δ/\HM K H M/\g d δ M Q/\∀σ' H' δ' M',yf K H' σ' δ'->HM K H' M'->qx K H H'->σ'.length=σ.length->Q δ' M'->Q' σ' H'
def G3(X:Cx)(e:Expr)(g:B1):Prop:=PG X e (TQ X.K g)
def PG.ny{X:Cx}{e:Expr}{t t':TG}(h:PG X e t)(m:∀v σ H Q,σ.length=X.N.length->t' v σ H Q->t v σ H Q):PG X e t':=λVw s σ H v u Q I r q=>h Vw s σ H v u Q I r (m v σ H Q I.len q)
def tN(i:Nat):B1:=λd δ M Q=>Q (δ.set i (some d)) M
def IE{i:Nat}{x:Str}(hN:X.N.Nodup)(hi:X.N[i]?=some x)(hx:JX X.env.scope x)(hf:JW X x:=by first|exact .inl rfl|exact .inr rfl|assumption):G3 X (.Name x pos) (tN i):=
 PG.ny (OI hN hi hx hf) λv σ H Q' hl ⟨d,δ,M,Q,hd,hs,hm,ht,k⟩=>k _ H _ M (hs.set hd (by rw[hl];exact(cT.mp hi).1)) hm .refl (by simp) ht
abbrev Cn:=List D->uB->Mp->(uB->Mp->Prop)->Prop
def UH(K:pX)(g:Cn):Oe:=λvs σ H Q'=>AD λds δ M Q=>pP K H ds vs/\yf K H σ δ/\HM K H M/\g ds δ M Q/\∀σ' H' δ' M',yf K H' σ' δ'->HM K H' M'->qx K H H'->σ'.length=σ.length->Q δ' M'->Q' σ' H'
def SW(X:Cx)(es:List Expr)(g:Cn):Prop:=ME X es (UH X.K g)
def ME.mono{X:Cx}{e:List Expr}{t t':Oe}(h:ME X e t)(m:∀v σ H Q,t' v σ H Q->t v σ H Q):ME X e t':=λVw s σ H v u Q I r q=>h Vw s σ H v u Q I r (m v σ H Q q)
def PG.mono{X:Cx}{e:Expr}{t t':TG}(h:PG X e t)(m:∀v σ H Q,t' v σ H Q->t v σ H Q):PG X e t':=λVw s σ H v u Q I r q=>h Vw s σ H v u Q I r (m v σ H Q q)
def F8:Cn:=λds δ M Q=>match ds with|[]=>Q δ M|_=>False
def zu(t:B1)(u:Cn):Cn:=λds δ M Q=>match ds with|d::r=>t d δ M λδ' M'=>u r δ' M' Q|[]=>False
def sD:SW X [] F8:=ME.mono Nb λvs σ H Q' ⟨ds,δ,M,Q,hd,hs,hm,ht,k⟩=>by
 cases ds with
 | nil=>exact⟨hd.nil_inv,k σ H δ M hs hm .refl rfl ht⟩
 | cons _ _=>exact ht.elim
def pT{e:Expr}{es:List Expr}{t:B1}{u:Cn}(h1:G3 X e t)(h2:SW X es u)(hs:(assignEach (e::es) X.env).map (·.2)=assign e X.env::(assignEach es X.env).map (·.2):=by rfl):SW X (e::es) (zu t u):=
 ME.mono (J4 h1 h2 hs) λvs σ H Q' ⟨ds,δ,M,Q,hd,hs,hm,ht,k⟩=>by
 cases ds with
 | nil=>exact ht.elim
 | cons d r=>obtain⟨x,xr,rfl,hx,hr⟩:=hd.inv;exact⟨x,xr,rfl,d,δ,M,_,hx,hs,hm,ht,λσ1 H1 δ1 M1 YB Vy e1 l1 q1=>⟨r,δ1,M1,Q,hr.mono e1,YB,Vy,q1,λσ' H' δ' M' x1 x2 x3 x4 x5=>k σ' H' δ' M' x1 x2 (e1.trans x3) (x4.trans l1) x5⟩⟩
def Pw(n:Nat)(t:Cn):B1:=λd δ M Q=>match d with|.tup ds=>ds.length=n/\t ds δ M Q|_=>False
def uk{es:List Expr}{k:Nat}{t:Cn}{n:Nat}(hc:X.calm=true)(h:SW X es t)(hn:(assignEach es X.env).length=n:=by rfl)(VS:(assignEach es X.env).findIdx? (·.1)=none:=by rfl):G3 X (.Tuple es k pos) (Pw n t):=
 PG.mono (Qn hc h hn VS) λv σ H Q' ⟨d,δ,M,Q,hd,hs,hm,ht,k⟩=>by
 cases d with
 | tup ds=>obtain⟨a,xs,rfl,h1,h2⟩:=hd.mC;exact⟨a,xs,rfl,h1,by rw[<-h2.length];exact ht.1,ds,δ,M,Q,h2,hs,hm,ht.2,k⟩
 | _=>exact ht.elim
def FR(te:T3)(g:B1):xq:=λD δ M=>te δ M λx M1=>g x δ M1 D.nx
def Hn{tg e:Expr}{te:T3}{g:B1}(he:E3 X e te)(hg:G3 X tg g)(hs:swapsWithSole [tg] e pos.line X.env=pure false:=by rfl)(hw:swappedStores [tg] e X.env=pure none:=by rfl)
  (h1:(assignEach [tg] X.env).map (·.2)=[assign tg X.env]:=by rfl):S3 X (.Assign [tg] e pos) (FR te g):=PS.mono (Qx he hg hs hw h1) λD' σ H zz=>JY zz λδ M D hs hm ht k1 k2 k3 k4=>
 ⟨δ,M,_,hs,hm,ht,λv H1 d M1 hd Vy e1 q1=>⟨d,δ,M1,_,hd,hs.mono e1,Vy,q1,λσ' H' δ' M' x1 x2 x3 x4 x5=>k1 σ' H' δ' M' x1 x2 (e1.trans x3) x4 x5⟩⟩
def RG{i:Nat}{x:Str}{e:Expr}{te:T3}{VF:Pos}(hN:X.N.Nodup)(hi:X.N[i]?=some x)(hx:JX X.env.scope x)(he:E3 X e te)(W4:swapsWith e (some (.Name x VF)) pos.line X.env=pure false:=by rfl)
  (hf:JW X x:=by first|exact .inl rfl|exact .inr rfl|assumption):S3 X (.Assign [.Name x VF] e pos) (FR te (tN i)):=PS.ny (Kj hN hi hx he W4 hf) λD' σ H hl zz=>JY zz λδ M D hs hm ht k1 k2 k3 k4=>
 ⟨δ,M,_,hs,hm,ht,λv H1 d M1 hd Vy e1 q1=>k1 _ H1 _ M1 ((hs.mono e1).set hd (by rw[hl];exact(cT.mp hi).1)) Vy e1 (by simp) q1⟩
end
abbrev qJ:=List D->Mp->DK->Prop
def MB(K:pX)(sp:qJ):Sp:=λvs H Q' _=>Ck λds M Q=>pP K H ds vs/\HM K H M/\sp ds M Q/\Up K H Q' Q
def wq(N:List Str)(ds:List D):uB:=ds.map some++List.replicate (N.length - ds.length) none
def CW{K:pX}{H:Hp}{N:List Str}{ds:List D}{vs:List V}(h:pP K H ds vs):yf K H (L2.start N vs) (wq N ds):=λi d q=>by
 unfold wq at q;unfold L2.start;by_cases hi:i<ds.length
 .rw[eS (by simpa using hi),dw]at q;cases e:ds[i]? with
  | none=>rw[e]at q;cases q
  | some d'=>rw[e]at q;cases q;obtain⟨v,e1,e2⟩:=h.get e;refine⟨v,?_,e2⟩;rw[eS (by rw[cQ,<-h.length];exact hi),dw,e1];rfl
 .rw[eO (by simpa using hi),jG]at q;split at q<;>cases q
variable {P:Pg}{w:Wo}{mg:Str→Option Vl}{base:Heap}
abbrev RK(P:Pg)(w:Wo)(K:pX)(mg:Str->Option Vl)(base:Heap)(k:Nat)(f:Addr)(fd:FuncData)(ps:List Str)(sp:qJ):Prop:=wC P w K mg base MI k f fd ps (MB K sp)
variable {k:Nat}{f C:Addr}{fd:FuncData}{ps:List Str}{sp:qJ}{x m fn:Str}{p VA:Pos}{e o:Expr}{es:List Expr}{t:wN}
def CV(sp:qJ)(t:wN):T3:=λδ M Q=>t δ M λds M1=>sp ds M1 Q
def Oj(F:RK X.prog X.w X.K X.mg X.base k f fd ps sp)(hr:rC k X.A)(hg:Gl X x)(hm:X.mg x=some (.ref f))(hk:W.keepIn X.K (.ref f)=true)(hb:ui X.K fd ps [])(ha:A3 X (e::es) t) (VQ:yX x:=by decide) (he:AB X e es:=by rfl) (VN:B0 X pos es:=by rfl):
  E3 X (.Call (.Name x p) (e::es) [] pos) (CV sp t):=PE.mono (OA F hr hg hm hk hb .nil (F7 (X:=X)) ha VQ he VN) λσ H Q' zz=>x7 zz λδ M Q hs hm ht k=>
 ⟨δ,M,_,hs,hm,ht,λvs H1 ds M1 hd Vy e1 q1=>⟨ds,M1,Q,by rw[eR];exact hd,Vy,q1,vd e1 k⟩⟩
def C3(X:Cx)(f:Vl)(r:qJ):Prop:=xR X f λvs H Q'=>∃ds M Q,pP X.K H ds vs/\HM X.K H M/\r ds M Q/\Up X.K H Q' Q
def pB{id:String}{r:qJ}(hc:C3 X (.builtin id) r)(hg:Gl X x)(hm:X.mg x=none)(hv:bootBuiltins x=some (.builtin id))(ha:A3 X (e::es) t)(hn:x≠"__name__":=by decide)(VQ:yX x:=by decide)
  (he:AB X e es:=by rfl) (VN:B0 X pos es:=by rfl):E3 X (.Call (.Name x p) (e::es) [] pos) (CV r t):=
 PE.mono (Ly hc hg hm hv ha hn VQ he VN) λσ H Q' zz=>x7 zz λδ M Q hs hm ht k=>⟨δ,M,_,hs,hm,ht,λvs H1 ds M1 hd Vy e1 q1=>⟨ds,M1,Q,hd,Vy,q1,vd e1 k⟩⟩
def pR{T:String}{r:qJ}(hc:C3 X (.type T) r)(hg:Gl X x)(hm:X.mg x=none)(hv:bootBuiltins x=some (.type T))(ha:A3 X (e::es) t)(hn:x≠"__name__":=by decide)(VQ:yX x:=by decide)
  (he:AB X e es:=by rfl) (VN:B0 X pos es:=by rfl):E3 X (.Call (.Name x p) (e::es) [] pos) (CV r t):=
 PE.mono (Jy hc hg hm hv ha hn VQ he VN) λσ H Q' zz=>x7 zz λδ M Q hs hm ht k=>⟨δ,M,_,hs,hm,ht,λvs H1 ds M1 hd Vy e1 q1=>⟨ds,M1,Q,hd,Vy,q1,vd e1 k⟩⟩
def S4(ds:List D)(M:Mp)(Q:DK):Prop:=match ds with
 | [.str z]=>z.length<=sizeLine/\Q (.int z.length) M
 | [.tup es]=>Q (.int es.length) M
 | [.ref a]=>(oA M a).elim False λes=>Q (.int es.length) M
 | [.rl es]=>Q (.int es.length) M
 | _=>False
def rq{K:pX}{H:Hp}{d:D}{vs:List V}(h:pP K H [d] vs):∃v,vs=[v]/\rm K H d v:=by obtain⟨x,r,rfl,a,b⟩:=h.inv;rw[b.nil_inv];exact⟨x,rfl,a⟩
def Il{K:pX}{H:Hp}{d e:D}{vs:List V}(h:pP K H [d,e] vs):∃v u,vs=[v,u]/\rm K H d v/\rm K H e u:=by obtain⟨x,r,rfl,a,b⟩:=h.inv;obtain⟨y,rfl,c⟩:=rq b;exact⟨x,y,rfl,a,c⟩
def pU:C3 X (.builtin "len") S4:=by
 intro Vw s σ H vs us Q' I rv h;obtain⟨ds,M,Q,hd,hm,q,k⟩:=h;unfold S4 at q;split at q
 .obtain⟨v,rfl,hv⟩:=rq hd;cases hv.str_inv;exact EY Vw s σ H _ us Q' I rv ⟨_,rfl,q.1,k _ _ _ _ .int hm .refl q.2⟩
 .obtain⟨v,rfl,hv⟩:=rq hd;obtain⟨a,xs,rfl,h1,h2⟩:=hv.mC;exact vV Vw s σ H _ us Q' I rv ⟨a,xs,rfl,.inr h1,k _ _ _ _ (by rw[<-h2.length];exact .int) hm .refl q⟩
 .obtain⟨v,rfl,hv⟩:=rq hd;obtain⟨es,e0,q⟩:=qF q;cases hv.mq;obtain⟨xs,h1,h2,_⟩:=pW hm e0;exact vV Vw s σ H _ us Q' I rv ⟨_,xs,rfl,.inl h1,k _ _ _ _ (by rw[<-h2.length];exact .int) hm .refl q⟩
 .obtain⟨v,rfl,hv⟩:=rq hd;obtain⟨a,xs,rfl,h1,h2⟩:=hv.mO;exact vV Vw s σ H _ us Q' I rv ⟨a,xs,rfl,.inl h1.sq,k _ _ _ _ (by rw[<-h2.length];exact .int) hm .refl q⟩
 .exact q.elim
def So(ds:List D)(M:Mp)(Q:DK):Prop:=match ds with
 | [.int i,.int j]=>Q (.int (if j<i then j else i)) M
 | _=>False
def PX(hc:X.calm=true):C3 X (.builtin "min") So:=by
 intro Vw s σ H vs us Q' I rv h;obtain⟨ds,M,Q,hd,hm,q,k⟩:=h;unfold So at q;split at q
 .obtain⟨v,u,rfl,hv,hw⟩:=Il hd;cases hv.int_inv;cases hw.int_inv;exact IW hc Vw s σ H _ us Q' I rv ⟨_,_,rfl,k _ _ _ _ .int hm .refl q⟩
 .exact q.elim
def KP(ds:List D)(M:Mp)(Q:DK):Prop:=match ds with
 | [.tup es]=>Q (.tup es) M
 | [.ref a]=>(oA M a).elim False λes=>Q (.tup es) M
 | [.rl es]=>Q (.tup es) M
 | _=>False
def uh:C3 X (.type "tuple") KP:=by
 intro Vw s σ H vs us Q' I rv h;obtain⟨ds,M,Q,hd,hm,q,k⟩:=h;unfold KP at q;split at q
 .obtain⟨v,rfl,hv⟩:=rq hd;obtain⟨a,xs,rfl,h1,h2⟩:=id hv.mC;exact vk Vw s σ H _ us Q' I rv ⟨a,xs,rfl,.inr ⟨h1,k _ _ _ _ hv hm .refl q⟩⟩
 .obtain⟨v,rfl,hv⟩:=rq hd;obtain⟨es,e0,q⟩:=qF q;cases hv.mq;obtain⟨xs,h1,h2,_⟩:=pW hm e0;refine vk Vw s σ H _ us Q' I rv ⟨_,xs,rfl,.inl ⟨h1,λl hl=>?_⟩⟩;have e:qx X.K H (upd H l (.tup xs)):=.new hl;exact k _ _ _ _ (.tup (.of pM) (h2.mono e)) (hm.add hl) e q
 .obtain⟨v,rfl,hv⟩:=rq hd;obtain⟨a,xs,rfl,h1,h2⟩:=hv.mO;refine vk Vw s σ H _ us Q' I rv ⟨_,xs,rfl,.inl ⟨h1.sq,λl hl=>?_⟩⟩;have e:qx X.K H (upd H l (.tup xs)):=.new hl;exact k _ _ _ _ (.tup (.of pM) (h2.mono e)) (hm.add hl) e q
 .exact q.elim
def Ph(ds:List D)(M:Mp)(Q:DK):Prop:=match ds with
 | [d]=>(J7 M d).elim False λes=>∀p,M p=none->Q (.ref p) (oU M p (.lst es))
 | _=>False
def sY:C3 X (.type "list") Ph:=by
 intro Vw s σ H vs us Q' I rv h;obtain⟨ds,M,Q,hd,hm,q,k⟩:=h;unfold Ph at q;split at q
 .obtain⟨v,rfl,hv⟩:=rq hd;obtain⟨es,e0,q⟩:=qF q;obtain⟨p,xs,rfl,h1,h2⟩:=DN hm hv e0;refine Ef Vw s σ H _ us Q' I rv ⟨p,xs,rfl,h1,λl hl=>?_⟩;have e:qx X.K H (upd H l (.lst xs)):=.new hl;exact k _ _ _ _ .ref (hm.new (c:=.lst es) hl ⟨_,pM,h2.mono e⟩) e (q l (hm.fresh hl))
 .exact q.elim
theorem vN{K:pX}{H:Hp}{f:Str}:∀{fs:List (Str×D)} {vs:List (Str×V)},Bs K H fs vs->(∀d,fs.lookup f=some d->∃v,vs.lookup f=some v/\rm K H d v)/\(fs.lookup f=none->vs.lookup f=none)
 | [],[],_=>⟨λd e=>by simp at e,λ_=>rfl⟩
 | [],_::_,h=>by have:=h.1;simp at this
 | _::_,[],h=>by have:=h.1;simp at this
 | (g,d)::fs,(g',v)::vs,h=>by
  have h1:g'=g/\vs.map (·.1)=fs.map (·.1):=by
   have:=h.1
   simpa using this
  obtain⟨x,r,e,a,b⟩:=h.2.inv;have e':v::vs.map (·.2)=x::r:=e;cases e';obtain⟨i1,i2⟩:=vN (f:=f) (fs:=fs) (vs:=vs) ⟨h1.2,b⟩;rw[h1.1];refine⟨λd' e=>?_,λe=>?_⟩
  .rw[eG]at e ⊢;cases q:f==g with
   | true=>rw[q]at e;cases e;exact⟨v,rfl,a⟩
   | false=>rw[q]at e;exact i1 d' e
  .rw[eG]at e ⊢;cases q:f==g with
   | true=>rw[q]at e;cases e
   | false=>rw[q]at e;exact i2 e
theorem Hu{f:Str}{d:D}:∀{fs:List (Str×D)},fs.lookup f=some d->f∈fs.map (·.1)
 | [],h=>by simp at h
 | (g,e)::r,h=>by
  rw[eG]at h;cases q:f==g with
  | true=>
   have z:f=g:=by simpa using q
   rw[z,dQ];exact dH
  | false=>rw[q]at h;simp[Hu h]
def zq(o:Option uA)(F:Addr->List (Str×D)->Prop):Prop:=match o with
 | some (.ins C fs)=>F C fs
 | _=>False
def oK{o:Option uA}{F:Addr->List (Str×D)->Prop}{C:Addr}{fs:List (Str×D)}(e:o=some (.ins C fs))(h:F C fs):zq o F:=by rw[e];exact h
def wG{o:Option uA}{F:Addr->List (Str×D)->Prop}(h:zq o F):∃C fs,o=some (.ins C fs)/\F C fs:=by
 unfold zq at h;split at h
 .exact⟨_,_,rfl,h⟩
 .exact h.elim
def UP(f:Str)(ta:T3):T3:=λδ M Q=>ta δ M λx M1=>match x with
 | .ref a=>zq (M1 a) λ_ fs=>(fs.lookup f).elim False λd=>Q d M1
 | _=>False
def oP{f:Str}(he:E3 X o ta)(hb:attributeBase o f X.env (eval o X.env)=eval o X.env:=by rfl):E3 X (.Attribute o f pos) (UP f ta):=PE.mono (QH he hb) λσ H Q' zz=>x7 zz λδ M Q hs hm ht k=>
 ⟨δ,M,_,hs,hm,ht,λv H1 d M1 hd Vy e1 q1=>by
  cases d with
  | ref a=>cases hd.mq;obtain⟨C,fs,e,q1⟩:=wG q1;obtain⟨d,e2,q⟩:=qF q1;obtain⟨dx,vs,h1,cl,na,fo⟩:=Vy a _ e;obtain⟨v,e3,hv⟩:=(vN fo).1 d e2;exact⟨a,C,dx,vs,v,rfl,h1,cl,na f (Hu e2),e3,k v H1 d M1 hv Vy e1 q⟩
  | _=>exact q1.elim⟩
def vq(f:Str)(v:D):List (Str×D)->List (Str×D)
 | []=>[(f,v)]
 | (g,u)::r=>if g=f then(g,v)::r else(g,u)::vq f v r
theorem ET{K:pX}{H:Hp}{f:Str}{d:D}{v:V}(hv:rm K H d v):∀{fs:List (Str×D)} {vs:List (Str×V)},Bs K H fs vs->Bs K H (vq f d fs) (uT f v vs)
 | [],[],_=>⟨rfl,.cons hv .nil⟩
 | [],_::_,h=>by have:=h.1;simp at this
 | _::_,[],h=>by have:=h.1;simp at this
 | (g,e)::fs,(g',u)::vs,h=>by
  have h1:g'=g/\vs.map (·.1)=fs.map (·.1):=by
   have:=h.1
   simpa using this
  obtain⟨x,r,e1,a,b⟩:=h.2.inv;have e':u::vs.map (·.2)=x::r:=e1;cases e';obtain⟨hg,ht⟩:=h1;subst hg;rw[show vq f d ((g',e)::fs)=(if g'=f then(g',d)::fs else(g',e)::vq f d fs)from rfl,show uT f v ((g',u)::vs)=(if g'=f then(g',v)::vs else(g',u)::uT f v vs)from rfl];by_cases q:g'=f
  .rw[cX q,cX q];exact⟨by simpa using ht,.cons hv b⟩
  .rw[cV q,cV q];obtain⟨i1,i2⟩:=ET hv (fs:=fs) (vs:=vs) ⟨ht,b⟩;exact⟨by simpa using i1,.cons a i2⟩
theorem BL{f:Str}{d:D}:∀{fs:List (Str×D)} {g:Str},g∈(vq f d fs).map (·.1)->g=f\/g∈fs.map (·.1)
 | [],g,h=>.inl (by simpa [vq]using h)
 | (k,e)::r,g,h=>by
  rw[show vq f d ((k,e)::r)=(if k=f then(k,d)::r else(k,e)::vq f d r)from rfl]at h;by_cases q:k=f
  .rw[cX q]at h;exact .inr (by simpa using h)
  .rw[cV q]at h;rw[dQ,cZ]at h;rcases h with h|h
   .exact .inr (by simp[h])
   .rcases BL h with z|z
    .exact .inl z
    .exact .inr (by simp;right;simpa using z)
def Tt(K:pX)(f:Str)(ta tv:T3):xq:=λD δ M=>tv δ M λy M1=>ta δ M1 λx M2=>match x with
 | .ref a=>zq (M2 a) λC fs=>tE K C f/\fs.length<1000/\D.nx δ (oU M2 a (.ins C (vq f y fs)))
 | _=>False
def pK{f:Str}{value:Expr}{tv:T3}{VF:Pos}(ha:E3 X o ta)(hv:E3 X value tv)(W4:swapsWith value (some (.Attribute o f VF)) pos.line X.env=pure false:=by rfl):S3 X (.Assign [.Attribute o f VF] value pos) (Tt X.K f ta tv):=
 PS.mono (P' ha hv W4) λD' σ H zz=>JY zz λδ M D hs hm ht k1 k2 k3 k4=>
 ⟨δ,M,_,hs,hm,ht,λy H1 dy M1 hy Vy e1 q1=>⟨δ,M1,_,hs.mono e1,Vy,q1,λv H2 d M2 hd VO e2 q2=>by
  cases d with
  | ref a=>
   cases hd.mq;obtain⟨C,fs,e,q2⟩:=wG q2;obtain⟨na,hl,q⟩:=q2;obtain⟨dx,vs,h1,cl,nn,fo⟩:=VO a _ e;have VC:vs.length=fs.length:=by have:=eL List.length fo.1;simpa using this
   refine⟨a,C,dx,vs,rfl,h1,cl,na,by omega,?_⟩;obtain⟨Ww,e3⟩:=VO.put (p:=a) (o:=.ins C dx (uT f y vs)) (c:=.ins C (vq f dy fs)) e λx=>⟨dx,_,pM,cl,λg hg=>by
    rcases BL hg with z|z
    .rw[z];exact na
    .exact nn g z,ET ((hy.mono e2).mono x) (fo.mono x)⟩
   exact k1 σ _ δ _ (hs.mono (e1.trans (e2.trans e3))) Ww (e1.trans (e2.trans e3)) rfl q
  | _=>exact q2.elim⟩⟩
def PL(C:Addr)(sp:qJ)(t:wN):T3:=λδ M Q=>t δ M λds M1=>∀x,M1 x=none->sp (.ref x::ds) (oU M1 x (.ins C [])) λd M2=>d=.mz/\Q (.ref x) M2
def Mh{K:pX}{H:Hp}{M:Mp}{xa dx:Addr}(hm:HM K H M)(cl:Cls K C)(h1:H xa=none)(h2:H dx=none)(ne:dx≠xa):HM K (upd (upd H dx (.own xa)) xa (.ins C dx [])) (oU M xa (.ins C []))/\qx K H (upd (upd H dx (.own xa)) xa (.ins C dx [])):=by
 have Wl:upd H dx (.own xa) xa=none:=by rw[pH (dG ne)];exact h1
 exact⟨(hm.add (p:=dx) (o:=.own xa) h2).new Wl ⟨dx,[],pM,cl,λg hg=>by simp at hg,rfl,.nil⟩,qx.trans (.new h2) (.new Wl)⟩
def NY(cl:Cls X.K C)(Mk':Mk X.K C f)(F:RK X.prog X.w X.K X.mg X.base k f fd ps sp)(hr:rC (k+1) X.A)(hg:Gl X x)(hm:X.mg x=some (.ref C))(hb:ui X.K fd ps [])(ha:A3 X (e::es) t) (VQ:yX x:=by decide) (he:AB X e es:=by rfl) (VN:B0 X pos es:=by rfl):
  E3 X (.Call (.Name x p) (e::es) [] pos) (PL C sp t):=PE.mono (Ny Mk' F hr hg hm hb .nil (F7 (X:=X)) ha VQ he VN) λσ H Q' zz=>x7 zz λδ M Q hs hm ht k=>
 ⟨δ,M,_,hs,hm,ht,λvs H1 ds M1 hd Vy e1 q1=>λxa dx n1 n2 ne=>by
  obtain⟨VO,e2⟩:=Mh Vy cl n1 n2 ne;refine⟨.ref xa::ds,_,_,?_,VO,q1 xa (Vy.fresh n1),λv H3 d M3 hd3 Ww e3 q3=>?_⟩
  .rw[eR];exact .cons .ref (hd.mono e2)
  .obtain⟨z,q3⟩:=q3;subst z;exact⟨hd3.my,k _ H3 _ M3 .ref Ww (e1.trans (e2.trans e3)) q3⟩⟩
def GG(m:Str)(R:Addr->Sp->Prop)(ta:TE)(t:TA):TE:=λσ H Q=>ta σ H λx H1=>∃a C dx fs sp,x=.ref a/\H1 a=some (.ins C dx fs)/\fs.lookup m=none/\R C sp/\t σ H1 λvs H2=>sp (x::vs) H2 Q E0
def w9(P:Pg)(w:Wo)(K:pX)(mg:Str->Option Vl)(base:Heap)(k:Nat)(m:Str)(C:Addr)(sp:Sp):Prop:=Cls K C/\∃f fd ps,uU K C m f/\wC P w K mg base MI k f fd ps sp/\ui K fd ps []
def KG{R:Addr->Sp->Prop}{ta:TE}{t:TA}{pl:Sem Bool}(he:PE X o ta)(hR:∀C sp,R C sp->w9 X.prog X.w X.K X.mg X.base k m C sp)(hr:rC k X.A)(ha:PA X (e::es) t) (VS:AB X e es:=by rfl) (VN:B0 X pos es:=by rfl)
  (ht:eval (.Call (.Attribute o m VA) (e::es) [] pos) X.env=(do
   let ov<-eval o X.env
   standAt VA.atName
   let(f,first)<-holding [ov] (getMethod ov m pl)
   callWith pos f first (backTo pos (starEach (e::es) X.env)) (backToKw pos (keywordEach [] X.env))):=by rfl):
  PE X (.Call (.Attribute o m VA) (e::es) [] pos) (GG m R ta t):=by
 intro Vw s σ H Q I h;refine jO (pl:=pl) (rQ (he Vw s σ H _ I h) λu s1 zz=>?_) ht;obtain⟨x,H1,I1,rx,a,C,dx,fs,sp,ex,ea,l,hRC,q⟩:=zz;obtain⟨c,f,fd,ps,hm,F,hb⟩:=hR C sp hRC;subst ex;obtain rfl:u=Value.ref a:=rx;refine AR I1 ea c hm l ?_;refine iC (first:=[.ref a]) (h₀:=X.base) I.ok.mod.nX hm.kp (rQ (ha pos Vw s1 σ H1 _ I1 q) λus s2 zz=>x5 zz λvs H2 I2 r q2=>⟨I2.mV,?_⟩) VS VN;exact DA (us:=.ref a::us) (vs:=.ref a::vs) F hr hb .nil (F7 (X:=X)) I2 (.cons rfl r) (by rw[eR];exact q2)
def Jc{R:Addr->Sp->Prop}{ta:TE}{pl:Sem Bool}(he:PE X o ta)(hR:∀C sp,R C sp->w9 X.prog X.w X.K X.mg X.base k m C sp)(hr:rC k X.A) (ht:eval (.Call (.Attribute o m VA) [] [] pos) X.env=(do
   let ov<-eval o X.env
   standAt VA.atName
   let(f,first)<-holding [ov] (getMethod ov m pl)
   callWith pos f first (backTo pos (starEach [] X.env)) (backToKw pos (keywordEach [] X.env))):=by rfl):
  PE X (.Call (.Attribute o m VA) [] [] pos) (GG m R ta Sr):=by
 intro Vw s σ H Q I h;refine jO (pl:=pl) (rQ (he Vw s σ H _ I h) λu s1 zz=>?_) ht;obtain⟨x,H1,I1,rx,a,C,dx,fs,sp,ex,ea,l,hRC,q⟩:=zz;obtain⟨c,f,fd,ps,hm,F,hb⟩:=hR C sp hRC;subst ex;obtain rfl:u=Value.ref a:=rx;refine AR I1 ea c hm l ?_;exact W.callWith_K0 (first:=[.ref a]) I1.mV hm.kp (DA (us:=[.ref a]) (vs:=[.ref a]) F hr hb .nil (F7 (X:=X)) I1 (.cons rfl .nil) (by rw[eR];exact q))
def zU(m:Str)(R:Addr->qJ->Prop)(ta:T3)(t:wN):T3:=λδ M Q=>ta δ M λx M1=>match x with
 | .ref a=>zq (M1 a) λC fs=>fs.lookup m=none/\∃sp,R C sp/\t δ M1 λds M2=>sp (x::ds) M2 Q
 | _=>False
def T8(K:pX)(R:Addr->qJ->Prop):Addr->Sp->Prop:=λC sp'=>∃sp,R C sp/\sp'=MB K sp
def H9{R:Addr->qJ->Prop}:∀σ H Q',lo X.K (zU m R ta t) σ H Q'->GG m (T8 X.K R) (lo X.K ta) (UX X.K t) σ H Q':=λσ H Q' zz=>x7 zz λδ M Q hs hm ht k=>
 ⟨δ,M,_,hs,hm,ht,λv H1 d M1 hd Vy e1 q1=>by
  cases d with
  | ref a=>cases hd.mq;obtain⟨C,fs,e,q1⟩:=wG q1;obtain⟨hn,sp,hR,q⟩:=q1;obtain⟨dx,vs,h1,cl,na,fo⟩:=Vy a _ e;exact⟨a,C,dx,vs,_,rfl,h1,(vN fo).2 hn,⟨sp,hR,rfl⟩,δ,M1,_,hs.mono e1,Vy,q,λus H2 ds M2 WO VO e2 q2=>⟨.ref a::ds,M2,Q,.cons .ref WO,VO,q2,vd (e1.trans e2) k⟩⟩
  | _=>exact q1.elim⟩
def Dq{R:Addr->qJ->Prop}{pl:Sem Bool}(he:E3 X o ta)(hR:∀C sp,R C sp->w9 X.prog X.w X.K X.mg X.base k m C (MB X.K sp))(hr:rC k X.A)(ha:A3 X (e::es) t) (VS:AB X e es:=by rfl) (VN:B0 X pos es:=by rfl)
  (ht:eval (.Call (.Attribute o m VA) (e::es) [] pos) X.env=(do
   let ov<-eval o X.env
   standAt VA.atName
   let(f,first)<-holding [ov] (getMethod ov m pl)
   callWith pos f first (backTo pos (starEach (e::es) X.env)) (backToKw pos (keywordEach [] X.env))):=by rfl):
  E3 X (.Call (.Attribute o m VA) (e::es) [] pos) (zU m R ta t):=PE.mono (KG (R:=T8 X.K R) he (λC sp' ⟨sp,h,z⟩=>by rw[z];exact hR C sp h) hr ha VS VN ht) H9
def Bg{R:Addr->qJ->Prop}{pl:Sem Bool}(he:E3 X o ta)(hR:∀C sp,R C sp->w9 X.prog X.w X.K X.mg X.base k m C (MB X.K sp))(hr:rC k X.A) (ht:eval (.Call (.Attribute o m VA) [] [] pos) X.env=(do
   let ov<-eval o X.env
   standAt VA.atName
   let(f,first)<-holding [ov] (getMethod ov m pl)
   callWith pos f first (backTo pos (starEach [] X.env)) (backToKw pos (keywordEach [] X.env))):=by rfl):
  E3 X (.Call (.Attribute o m VA) [] [] pos) (zU m R ta xf):=PE.mono (Jc (R:=T8 X.K R) he (λC sp' ⟨sp,h,z⟩=>by rw[z];exact hR C sp h) hr ht) λσ H Q' h=>by
 obtain⟨δ,M,Q,hs,hm,ht,k⟩:=H9 (t:=xf) σ H Q' h;refine⟨δ,M,Q,hs,hm,ht,λv H' d M' x1 x2 x3 x4=>?_⟩;obtain⟨a,C,dx,fs,sp,e1,e2,e3,e4,δ',Vz,Q'',y1,y2,y3,y4⟩:=k v H' d M' x1 x2 x3 x4;exact⟨a,C,dx,fs,sp,e1,e2,e3,e4,y4 [] H' [] Vz .nil y2 .refl y3⟩
structure F4(K:pX)(H1:Hp)(J:It)(ds:List D)(ok:Mp->Prop):Prop where
 go:∀i H M,i<ds.length->HM K H M->ok M->qx K H1 H->J.go i H
 om:∀i d H M x H',ds[i]?=some d->HM K H M->ok M->qx K H1 H->J.om i H x H'->rm K H' d x/\HM K H' M/\qx K H H'
 stop:∀H M,HM K H M->ok M->qx K H1 H->J.stop ds.length H
abbrev MC:=uB->Mp->(List D->(Mp->Prop)->Mp->Prop)->Prop
def U5(K:pX)(wi:MC):TI:=λσ H R'=>Ck λδ M R=>yf K H σ δ/\HM K H M/\wi δ M R/\∀J H1 ds ok M1,F4 K H1 J ds ok->HM K H1 M1->qx K H H1->ok M1->R ds ok M1->R' J H1
def I3(X:Cx)(tg iter:Expr)(wi:MC):Prop:=PI X tg iter (U5 X.K wi)
def PI.mono{X:Cx}{tg e:Expr}{t t':TI}(h:PI X tg e t)(m:∀σ H Q,t' σ H Q->t σ H Q):PI X tg e t':=λVw s σ H Q I q=>h Vw s σ H Q I (m σ H Q q)
variable {H1:Hp}
def LW{a:Addr}{ds:List D}:F4 K H1 (TM K a) ds (λM=>oA M a=some ds) where
 go:=λi H M hi hm ok _=>by obtain⟨xs,h1,h2,_⟩:=pW hm ok;obtain⟨x,e,_⟩:=h2.get (cS hi);exact⟨xs,x,h1,e⟩
 om:=λi d H M x H' hd hm ok _ y=>by obtain⟨xs,h1,h2,_⟩:=pW hm ok;obtain⟨e,y⟩:=y;subst e;obtain⟨x',e,hx⟩:=h2.get hd;have:=y xs h1;rw[e]at this;cases this;exact⟨hx,hm,.refl⟩
 stop:=λH M hm ok _=>by obtain⟨xs,h1,h2,_⟩:=pW hm ok;exact⟨xs,h1,by rw[h2.length];exact c9 _⟩
def Nl{a:Addr}{ds:List D}{xs:List V}(h1:ux K H1 a xs)(h2:pP K H1 ds xs):F4 K H1 (UO K a) ds (λ_=>True) where
 go:=λi H M hi hm ok e1=>by obtain⟨x,e,_⟩:=h2.get (cS hi);exact⟨xs,x,e1.t _ _ h1,e⟩
 om:=λi d H M x H' hd hm ok e1 y=>by obtain⟨e,y⟩:=y;subst e;obtain⟨x',e,hx⟩:=h2.get hd;have:=y xs (e1.t _ _ h1);rw[e]at this;cases this;exact⟨hx.mono e1,hm,.refl⟩
 stop:=λH M hm ok e1=>⟨xs,e1.t _ _ h1,by rw[h2.length];exact c9 _⟩
def Qa{a:Addr}{ds:List D}{xs:List V}(h1:Os K H1 a xs)(h2:pP K H1 ds xs):F4 K H1 (TM K a) ds (λ_=>True) where
 go:=λi H M hi hm ok e1=>by obtain⟨x,e,_⟩:=h2.get (cS hi);exact⟨xs,x,(h1.mono e1).sq,e⟩
 om:=λi d H M x H' hd hm ok e1 y=>by obtain⟨e,y⟩:=y;subst e;obtain⟨x',e,hx⟩:=h2.get hd;have:=y xs (h1.mono e1).sq;rw[e]at this;cases this;exact⟨hx.mono e1,hm,.refl⟩
 stop:=λH M hm ok e1=>⟨xs,(h1.mono e1).sq,by rw[h2.length];exact c9 _⟩
def JO{n:Nat}{lo:Int}:F4 K H1 (TC lo n) ((List.range n).map λi=>D.int (lo+(i:Nat))) (λ_=>True) where
 go:=λi H M hi hm ok e1=>by
  have z:i<n:=by simpa using hi
  exact z
 om:=λi d H M x H' hd hm ok e1 y=>by
  obtain⟨e,y⟩:=y;subst e;subst y;have hi:i<n:=by
   have:=(cT.mp hd).1
   simpa using this
  have hd':d=D.int (lo+(i:Nat)):=by rw[dw,kt hi]at hd;exact(de hd).symm
  subst hd';exact⟨.int,hm,.refl⟩
 stop:=λH M hm ok e1=>by show n<=_;simp
variable {scope:Scope}{ix:List (Option Nat)}{N':List Str}{iter Wt:Expr}{Wc:List Expr}{wi:MC}{g:B1}{tt:zN}{te:T3}{tg:Expr}
def Sv(t:T3):MC:=λδ M R=>t δ M λx M1=>match x with
 | .tup ds=>R ds (λ_=>True) M1
 | .ref a=>(oA M1 a).elim False λds=>R ds (λM=>oA M a=some ds) M1
 | .rl ds=>R ds (λ_=>True) M1
 | .str z=>R (z.cps.toList.map λc=>D.str ⟨#[c]⟩) (λ_=>True) M1
 | _=>False
def NN{K:pX}{H1:Hp}{z:Str}:F4 K H1 (UE z) (z.cps.toList.map λc=>D.str ⟨#[c]⟩) (λ_=>True) where
 go:=λi H M hi hm ok _=>by
  show i<z.cps.size
  simpa using hi
 om:=λi d H M x H' hd hm ok _ y=>by obtain⟨e,c,e1,e2⟩:=y;subst e e2;rw[dw,Array.getElem?_toList,e1]at hd;cases hd;exact⟨.str,hm,.refl⟩
 stop:=λH M hm ok _=>by show _=z.cps.size;simp
def qd{l:Expr}{t:T3}(h:E3 X l t)(hc:X.calm=true:=by rfl):I3 X tg l (Sv t):=PI.mono (N8 hc h) λσ H R' zz=>x7 zz λδ M R hs hm ht k=>
 ⟨δ,M,_,hs,hm,ht,λv H1 d M1 hd Vy e1 q1=>by
  cases d with
  | tup ds=>obtain⟨a,xs,rfl,h1,h2⟩:=hd.mC;exact .inl ⟨a,rfl,.inr ⟨⟨xs,h1⟩,k _ H1 ds _ M1 (Nl h1 h2) Vy e1 trivial q1⟩⟩
  | ref a=>cases hd.mq;obtain⟨ds,e0,q⟩:=qF q1;obtain⟨xs,h1,h2,_⟩:=pW Vy e0;exact .inl ⟨a,rfl,.inl ⟨⟨xs,h1⟩,k _ H1 ds _ M1 LW Vy e1 e0 q⟩⟩
  | str z=>exact .inr ⟨z,hd.str_inv,k _ H1 _ _ M1 NN Vy e1 trivial q1⟩
  | rl ds=>obtain⟨a,xs,rfl,h1,h2⟩:=hd.mO;exact .inl ⟨a,rfl,.inl ⟨⟨xs,h1.sq⟩,k _ H1 ds _ M1 (Qa h1 h2) Vy e1 trivial q1⟩⟩
  | _=>exact q1.elim⟩
def RZ(t:wN):MC:=λδ M R=>t δ M λds M1=>match ds with
 | [.int j]=>(-(2 ^ 62)<=j/\j<2 ^ 62)/\R ((List.range j.toNat).map λi=>D.int (0+(i:Nat))) (λ_=>True) M1
 | [.int i,.int j]=>(-(2 ^ 62)<=i/\i<2 ^ 62/\-(2 ^ 62)<=j/\j<2 ^ 62)/\R ((List.range (j - i).toNat).map λn=>D.int (i+(n:Nat))) (λ_=>True) M1
 | _=>False
def vC{a:Expr}{ta:wN}(hg:Gl X "range")(hm:X.mg "range"=none)(ha:A3 X [a] ta)(hs:starEach [a] X.env=[(false,eval a X.env)]:=by rfl):I3 X tg (.Call (.Name "range" p) [a] [] pos) (RZ λδ M Q=>ta δ M λds M1=>ds.length=1/\Q ds M1):=
 PI.mono (Ji hg hm ha hs) λσ H R' zz=>x7 zz λδ M R hs hm ht k=>⟨δ,M,_,hs,hm,ht,λvs H1 ds M1 hd Vy e1 q1=>by
  obtain⟨hl,q1⟩:=q1;split at q1
  .obtain⟨v,rfl,hv⟩:=rq hd;cases hv.int_inv;exact⟨_,rfl,q1.1.1,q1.1.2,k _ H1 _ _ M1 JO Vy e1 trivial q1.2⟩
  .simp at hl
  .exact q1.elim⟩
def EG(g:B1)(tb:xq)(ok:Mp->Prop)(E:FZ):List D->uB->Mp->Prop
 | [],δ,M=>E.nx δ M
 | d::r,δ,M=>g d δ M λδ2 M2=>tb {E with nx:=λδ' M'=>ok M'/\EG g tb ok E r δ' M',ct:=λδ' M'=>ok M'/\EG g tb ok E r δ' M',bk:=E.nx} δ2 M2
def SD(wi:MC)(g:B1)(tb:xq):xq:=λE δ M=>wi δ M λds ok M1=>EG g tb ok E ds δ M1
def tM{iter:Expr}{body:List Stmt}{wi:MC}{g:B1}{tb:xq}(hp:PassesOwn (model X.prog X.w) X.A X.env X.xe)(hc:X.calm=true)(hi:I3 X tg iter wi)(hg:G3 X tg g)(hb:GH X body tb) (hs:∀x,foldedSetIterable iter X.env x=pure x:=by intro _;rfl):S3 X (.For tg iter body [] pos) (SD wi g tb):=PS.mono (QG hp hc hi hg hb hs) λD' σ H zz=>JY zz λδ M E hs hm ht k1 k2 k3 k4=>
 ⟨δ,M,_,hs,hm,ht,λJ H1 ds ok M1 S Vy e1 ok1 q1=>by
  refine⟨λi m σ' H'=>m=ds.length - i/\i<=ds.length/\∃δ' M',yf X.K H' σ' δ'/\HM X.K H' M'/\ok M'/\qx X.K H1 H'/\σ'.length=σ.length/\EG g tb ok E (ds.drop i) δ' M',⟨ds.length,by simp,eQ _,δ,M1,hs.mono e1,Vy,ok1,.refl,rfl,by simpa using q1⟩,?_⟩
  rintro i m σ' H' ⟨rfl,hi,δ',M',Yb,W5,YC,e',l',q'⟩
  by_cases VL:i<ds.length
  .rw[gF VL]at q';refine .inr ⟨S.go i H' M' VL W5 YC e',λσ2 H2=>∃δ2 M2,yf X.K H2 σ2 δ2/\HM X.K H2 M2/\ok M2/\qx X.K H1 H2/\σ2.length=σ.length/\EG g tb ok E (ds.drop (i+1)) δ2 M2,λσ2 H2 z=>⟨ds.length - (i+1),by omega,rfl,VL,z⟩,λx H2 y=>?_⟩;obtain⟨hx,VO,e2⟩:=S.om i ds[i] H' M' x H2 (cS VL) W5 YC e' y;refine⟨ds[i],δ',M',_,hx,Yb.mono e2,VO,q',λσ3 H3 δ3 M3 x1 x2 x3 x4 x5=>?_⟩;refine⟨δ3,M3,_,x1,x2,x5,λσ4 H4 δ4 M4 y1 y2 y3 y4 y5=>?_,λv H4 d M4 y1 y2 y3 y4=>?_,λσ4 H4 δ4 M4 y1 y2 y3 y4 y5=>?_,λσ4 H4 δ4 M4 y1 y2 y3 y4 y5=>?_⟩
   .exact⟨δ4,M4,y1,y2,y5.1,e'.trans (e2.trans (x3.trans y3)),by rw[y4,x4,l'],y5.2⟩
   .exact k2 v H4 d M4 y1 y2 (e1.trans (e'.trans (e2.trans (x3.trans y3)))) y4
   .exact k1 σ4 H4 δ4 M4 y1 y2 (e1.trans (e'.trans (e2.trans (x3.trans y3)))) (by rw[y4,x4,l']) y5
   .exact⟨δ4,M4,y1,y2,y5.1,e'.trans (e2.trans (x3.trans y3)),by rw[y4,x4,l'],y5.2⟩
  .have e:i=ds.length:=by omega
   subst e;rw[jA]at q';exact .inl ⟨S.stop H' M' W5 YC e',k1 σ' H' δ' M' Yb W5 (e1.trans e') l' q'⟩⟩
def OP(ix:List (Option Nat))(δ:uB):uB:=ix.map λo=>o.bind λi=>(δ[i]?).join
def O4{K:pX}{H:Hp}{σ:St}{δ:uB}{ix:List (Option Nat)}(h:yf K H σ δ):yf K H (M8 ix σ) (OP ix δ):=λi d q=>by
 unfold OP at q;unfold M8;rw[dw]at q ⊢;cases e:ix[i]? with
 | none=>rw[e]at q;cases q
 | some o=>
  rw[e]at q;cases o with
  | none=>cases q
  | some j=>
   have q':(δ[j]?).join=some d:=de q;have e4:δ[j]?=some (some d):=by
    cases r:δ[j]? with
    | none=>rw[r]at q';cases q'
    | some w=>rw[r]at q';exact eL some q'
   obtain⟨v,e5,hv⟩:=h j d e4;refine⟨v,?_,hv⟩;show some ((σ[j]?).join)=some (some v);rw[e5];rfl
def uo(g:B1)(tt:zN)(te:T3)(ok:Mp->Prop)(Q:DK):List D->List D->uB->Mp->Prop
 | [],acc,_,M=>acc.length<=sizeLine/\∀p,M p=none->Q (.ref p) (oU M p (.lst acc))
 | d::r,acc,δ,M=>acc.length<sizeLine/\g d δ M λδ2 M2=>tt δ2 M2 λb M3=>if b=true then te δ2 M3 λy M4=>ok M4/\uo g tt te ok Q r (acc++[y]) δ2 M4 else ok M3/\uo g tt te ok Q r acc δ2 M3
def K2(ix:List (Option Nat))(wi:MC)(g:B1)(tt:zN)(te:T3):T3:=λδ M Q=>wi δ M λds ok M1=>uo g tt te ok Q ds [] (OP ix δ) M1
def F3(X:Cx)(Wc:List Expr)(t:zN):Prop:=PF X Wc (RL X.K t)
def PF.mono{X:Cx}{e:List Expr}{t t':TT}(h:PF X e t)(m:∀σ H Q,t' σ H Q->t σ H Q):PF X e t':=λVw s σ H Q I q=>h Vw s σ H Q I (m σ H Q q)
def AO:zN:=λ_ M Q=>Q true M
def rB:F3 X [] AO:=PF.mono Qw λσ H Q' zz=>x7 zz λδ M Q hs hm ht k=>k true H M hm .refl ht
def vo{c:Expr}{t:zN}(h:B3 X c t):F3 X [c] t:=Ru h
def Ik:∀σ H Q',lo X.K (K2 ix wi g tt te) σ H Q'->K5 ix (U5 X.K wi) (TQ X.K g) (RL X.K tt) (lo X.K te) σ H Q':=λσ H Q' zz=>x7 zz λδ M Q hs hm ht k=>
 ⟨δ,M,_,hs,hm,ht,λJ H1 ds ok M1 S Vy e1 ok1 q1=>by
  refine⟨λi m ys σ' H'=>m=ds.length - i/\i<=ds.length/\∃δ' M' acc,yf X.K H' σ' δ'/\HM X.K H' M'/\pP X.K H' acc ys/\ok M'/\qx X.K H1 H'/\uo g tt te ok Q (ds.drop i) acc δ' M',⟨ds.length,by simp,eQ _,OP ix δ,M1,[],O4 (hs.mono e1),Vy,.nil,ok1,.refl,by simpa using q1⟩,?_⟩
  rintro i m ys σ' H' ⟨rfl,hi,δ',M',acc,Yb,W5,Xb,YC,e',q'⟩
  by_cases VL:i<ds.length
  .rw[gF VL]at q';obtain⟨hz,q'⟩:=q';refine .inr ⟨S.go i H' M' VL W5 YC e',by rw[<-Xb.length];exact hz,λx H2 y=>?_⟩;obtain⟨hx,VO,e2⟩:=S.om i ds[i] H' M' x H2 (cS VL) W5 YC e' y;refine⟨ds[i],δ',M',_,hx,Yb.mono e2,VO,q',λσ3 H3 δ3 M3 x1 x2 x3 x4 x5=>?_⟩;refine⟨δ3,M3,_,x1,x2,x5,λb H4 M4 y2 y3 y5=>?_⟩;cases b with
   | true=>rw[cX rfl]at y5 ⊢;refine⟨δ3,M4,_,x1.mono y3,y2,y5,λv H5 d M5 z1 z2 z3 z4=>⟨ds.length - (i+1),by omega,rfl,VL,δ3,M5,acc++[d],x1.mono (y3.trans z3),z2,(Xb.mono (e2.trans (x3.trans (y3.trans z3)))).snoc z1,z4.1,e'.trans (e2.trans (x3.trans (y3.trans z3))),z4.2⟩⟩
   | false=>rw[cV df]at y5 ⊢;exact⟨ds.length - (i+1),by omega,rfl,VL,δ3,M4,acc,x1.mono y3,y2,Xb.mono (e2.trans (x3.trans y3)),y5.1,e'.trans (e2.trans (x3.trans y3)),y5.2⟩
  .have e:i=ds.length:=by omega
   subst e;rw[jA]at q';refine .inl ⟨S.stop H' M' W5 YC e',by rw[<-Xb.length];exact q'.1,λp hp=>?_⟩;have e5:qx X.K H' (upd H' p (.lst ys)):=.new hp;exact k _ _ _ _ .ref (W5.new (c:=.lst acc) hp ⟨_,pM,Xb.mono e5⟩) (e1.trans (e'.trans e5)) (q'.2 p (W5.fresh hp))⟩
def qh(hc:X.calm=true)(S:rH X scope ix N')(hi:I3 X tg iter wi)(hg:∀{C s0 H0 ex},G3 (X.comp scope N' C s0 H0 ex) tg g)(ht:∀{C s0 H0 ex},F3 (X.comp scope N' C s0 H0 ex) Wc tt)(he:∀{C s0 H0 ex},E3 (X.comp scope N' C s0 H0 ex) Wt te) (hs:∀x,foldedSetIterable iter X.env x=pure x:=by intro _;rfl):E3 X (.ListComp Wt [⟨tg,iter,Wc,0⟩] scope pos) (K2 ix wi g tt te):=PE.mono (Oz (g:=TQ X.K g) (tt:=RL X.K tt) (te:=lo X.K te) hc S hi (λ_ _ _ _=>hg) (λ_ _ _ _=>ht) (λ_ _ _ _=>he) hs) Ik
def uF{i:Nat}{x:Str}{px Xj:Pos}(hN:X.N.Nodup)(XS:X.N[i]?=some x)(hx:JX X.env.scope x)(hc:X.calm=true)(S:rH X scope ix N')(hi:I3 X tg iter wi)(hg:∀{C s0 H0 ex},G3 (X.comp scope N' C s0 H0 ex) tg g)(ht:∀{C s0 H0 ex},F3 (X.comp scope N' C s0 H0 ex) Wc tt) (he:∀{C s0 H0 ex},E3 (X.comp scope N' C s0 H0 ex) Wt te) (W4:swapsWith (.ListComp Wt [⟨tg,iter,Wc,0⟩] scope pos) (some (.Name x px)) Xj.line X.env=pure true:=by rfl)
  (hf:JW X x:=by first|exact .inl rfl|exact .inr rfl|assumption) (hs:∀x,foldedSetIterable iter X.env x=pure x:=by intro _;rfl):
  S3 X (.Assign [.Name x px] (.ListComp Wt [⟨tg,iter,Wc,0⟩] scope pos) Xj) (FR (K2 ix wi g tt te) (tN i)):=PS.ny (GJ (g:=TQ X.K g) (tt:=RL X.K tt) (te:=lo X.K te) hN XS hx hc S hi (λ_ _ _ _=>hg) (λ_ _ _ _=>ht) (λ_ _ _ _=>he) W4 hf hs) λD' σ H hl zz=>JY zz λδ M D hs hm ht k1 k2 k3 k4=>
 Ik σ H _ ⟨δ,M,_,hs,hm,ht,λv H1 d M1 hd Vy e1 q1=>k1 _ H1 _ M1 ((hs.mono e1).set hd (by rw[hl];exact(cT.mp XS).1)) Vy e1 (by simp) q1⟩
def U4{A:Ar}{k:Nat}(hr:rC k A):A.units+9<cLine:=by have:=hr.units;omega
def GI(sc:Scope)(N:List Str)(scope:Scope)(ix:List (Option Nat))(N':List Str):Bool:=
 (scope.kind==.function)&&(scope.names.all λy=>!(y.2==.cell))&&(scope.names.all λy=>!(y.2==.local)||(scope.names.lookup y.1==some .local))&&
 (scope.names.all λy=>!(y.2==.free)||(sc.names.lookup y.1==some .cell)||(sc.names.lookup y.1==some .free))&&(ix.length==N'.length)&&
 ((ix.zip N').all λp=>match p.1 with|none=>true|some i=>(N[i]?==some p.2)&&(scope.names.lookup p.2==some .free))
def Ta{X:Cx}{scope:Scope}{ix:List (Option Nat)}{N':List Str}(h:GI X.env.scope X.N scope ix N'=true):rH X scope ix N':=by
 unfold GI at h;simp only[dP]at h;obtain⟨⟨⟨⟨⟨h1,h2⟩,h3⟩,h4⟩,h5⟩,h6⟩:=h;refine⟨by simpa using h1,λy hy e=>?_,λy hy e=>?_,λy hy e=>?_,by simpa using h5,λj i x e1 e2=>?_⟩
 .have:=eY.mp h2 y hy;rw[e]at this;simp at this
 .have:=eY.mp h3 y hy;rw[e]at this
  simpa using this
 .have:=eY.mp h4 y hy;rw[e]at this
  simpa using this
 .have hm:(some i,x)∈ix.zip N':=by
   have:(ix.zip N')[j]?=some (some i,x):=by rw[List.getElem?_zip_eq_some];exact⟨e1,e2⟩
   exact fO this
  have:=eY.mp h6 _ hm
  simpa using this
section
variable {a b:Expr}
def HA(op Ws:CmpOp)(ta tb tc:T3):T3:=λδ M Q=>ta δ M λx M1=>tb δ M1 λy M2=>MK op x y M2 λz M3=>match z with
 | .bl k=>if k=true then tc δ M3 λw M4=>MK Ws y w M4 Q else Q (.bl false) M3
 | _=>False
def tP{op Ws:CmpOp}(hu:X.A.units+9<cLine)(ha:E3 X a ta)(hb:E3 X b tb)(hc:E3 X c tc)(hmk:lastMarks [op,Ws] [b,c]=false:=by rfl):
  E3 X (.Compare a [op,Ws] [b,c] pos) (HA op Ws ta tb tc):=PE.mono (KN (Jm op hu) (Jm Ws hu) ha hb hc hmk) λσ H Q' zz=>x7 zz λδ M Q hs hm ht k=>
 ⟨δ,M,_,hs,hm,ht,λv H1 x M1 hx Vy e1 q1=>⟨δ,M1,_,hs.mono e1,Vy,q1,λu H2 y M2 hy VO e2 q2=>⟨x,y,M2,_,hx.mono e2,hy,VO,q2,λw H3 z M3 hz Ww e3 q3=>by
  cases z with
  | bl c=>
   refine⟨c,hz.mw,?_⟩;cases c with
   | true=>refine(cX rfl).mpr ⟨δ,M3,_,hs.mono (e1.trans (e2.trans e3)),Ww,(cX rfl).mp q3,λw' H4 d M4 hd hm4 e4 q4=>⟨y,d,M4,Q,hy.mono (e3.trans e4),hd,hm4,q4,vd (e1.trans (e2.trans (e3.trans e4))) k⟩⟩
   | false=>exact(cV df).mpr (k _ H3 _ M3 .bl Ww (e1.trans (e2.trans e3)) ((cV df).mp q3))
  | _=>exact q3.elim⟩⟩⟩
def E4{op Ws:CmpOp}(hu:X.A.units+9<cLine)(ha:E3 X a ta)(hb:E3 X b tb)(hc:E3 X c tc)(hmk:lastMarks [op,Ws] [b,c]=false:=by rfl):
  B3 X (.Compare a [op,Ws] [b,c] pos) (b3 (HA op Ws ta tb tc)):=PT.mono (L9 (Jm op hu) (Jm Ws hu) ha hb hc hmk) λσ H Q' zz=>x7 zz λδ M Q hs hm ht k=>
 ⟨δ,M,_,hs,hm,ht,λv H1 x M1 hx Vy e1 q1=>⟨δ,M1,_,hs.mono e1,Vy,q1,λu H2 y M2 hy VO e2 q2=>⟨x,y,M2,_,hx.mono e2,hy,VO,q2,λw H3 z M3 hz Ww e3 q3=>by
  cases z with
  | bl c=>
   refine⟨c,hz.mw,?_⟩;cases c with
   | true=>
    refine(cX rfl).mpr ⟨δ,M3,_,hs.mono (e1.trans (e2.trans e3)),Ww,(cX rfl).mp q3,λw' H4 d M4 hd hm4 e4 q4=>⟨y,d,M4,_,hy.mono (e3.trans e4),hd,hm4,q4,λw5 H5 d5 M5 hd5 hm5 e5 q5=>?_⟩⟩;cases d5 with
    | bl c5=>exact⟨c5,hd5.mw,k c5 H5 M5 hm5 (e1.trans (e2.trans (e3.trans (e4.trans e5)))) q5⟩
    | _=>exact q5.elim
   | false=>exact(cV df).mpr ⟨false,rfl,k false H3 M3 Ww (e1.trans (e2.trans e3)) ((cV df).mp q3)⟩
  | _=>exact q3.elim⟩⟩⟩
structure Vg(K:pX)(C:Addr):Prop where
 ha:W.findIn K (.ref C) "__class__"=some (some (.builtin "object.__class__"))
 hn:W.specialIn K (.builtin "object.__class__") "__get__"=some (some (.builtin "getset_descriptor.__get__"))
 htk:W.takesIn K (.builtin "object.__class__")=some true
 hm:W.mroIn K C (.type "object")=some true
def Fk:List D->Option (List Bool)
 | []=>some []
 | .bl b::r=>(Fk r).map (b::·)
 | _::_=>none
theorem DI{K:pX}{H:Hp}:∀{ds:List D} {bs:List Bool} {xs:List V} {us:List Vl},Fk ds=some bs->pP K H ds xs->qc xs us->us=bs.map Value.bool
 | [],bs,xs,us,e,h,r=>by cases e;have:=h.nil_inv;subst this;cases r;rfl
 | d::ds,bs,xs,us,e,h,r=>by
  cases d with
  | bl b=>
   obtain⟨y,ys,rfl,h1,h2⟩:=h.inv;cases h1.mw;unfold Fk at e;cases q:Fk ds with
   | none=>rw[q]at e;cases e
   | some cs=>
    rw[q]at e;cases e;cases r with
    | cons r1 r2=>cases r1;rw[DI q h2 r2];rfl
  | _=>cases e
def Sw(ds:List D)(M:Mp)(Q:DK):Prop:=match ds with
 | [.ref a]=>(oA M a).elim False λes=>(Fk es).elim False λbs=>Q (.bl (bs.all id)) M
 | _=>False
def AW(hc:X.calm=true):C3 X (.builtin "all") Sw:=by
 intro Vw s σ H vs us Q' I rv h;obtain⟨ds,M,Q,hd,hm,q,k⟩:=h;unfold Sw at q;split at q
 .rename_i a;obtain⟨v,rfl,hv⟩:=rq hd;obtain⟨es,e0,q⟩:=qF q;obtain⟨bs,e1,q⟩:=qF q;cases hv.mq;obtain⟨u,rfl,ru⟩:=wA rv;cases ru;obtain⟨xs,h1,h2,_⟩:=pW hm e0;obtain⟨its,r,pl,hz⟩:=I.list h1;have YD:=DI e1 h2 r;subst YD;have VV:a≠s.heap.objs.size:=by obtain⟨o,_,e,_⟩:=pl;exact dE (dq e)
  refine call_all_walk (gB pl.isList ?_);refine⟨s.heap.objs.size,_,_,_,_,_,λi=>(bs[i]?).getD true,rfl,j9 (A:=X.A.in1) (I.ok.hd hc) _ a VV (bs.map Value.bool).toArray,⟨⟨_,dC _ rfl,rfl,rfl⟩,?_⟩,λi v s' Q E hP hQ=>?_,λh' tk hk=>?_⟩
  .obtain⟨o,n,e,c,d,q⟩:=pl;exact⟨o,cW _ e,c,n,q⟩
  .simp only[iA,dw]at hP;cases e2:bs[i]? with
   | none=>rw[e2]at hP;cases hP
   | some b=>rw[e2]at hP;cases hP;have hQ:Q ((bs[i]?).getD true) s':=hQ;rw[e2]at hQ;exact eZ hQ
  .have ea:(List.range (bs.map Value.bool).toArray.size).all (λi=>(bs[i]?).getD true)=bs.all id:=by
    rw[dh,cQ];rw[gf,eY,eY];constructor
    .intro z b hb;obtain⟨i,hi,e⟩:=fM hb;have:=z i (gk.mpr hi);rw[cS hi,e]at this;exact this
    .intro z i hi;have Xw:=gk.mp hi;rw[cS Xw];exact z _ (hW Xw)
   rw[ea];refine⟨.bl (bs.all id),H,?_,rfl,k _ _ _ _ .bl hm .refl q⟩;exact I.kept (h':=h') (t':=tk) λb o e=>hk b o (by simpa using dE (dq e)) (cW _ e)
 .exact q.elim
def Ab(x:D):List D->Option Nat
 | []=>none
 | d::r=>if NV d x=true then some 0 else(Ab x r).map (·+1)
theorem IC{K:pX}{H:Hp}{e:D}{w:V}(g:rm K H e w)(fe:uq e=true):∀{ds:List D} {xs:List V} {us:List Vl} {j:Nat},pP K H ds xs->qc xs us->ds.all uq=true->Ab e ds=some j->
  ∃h:j<us.length,DM w us[j]=true/\∀m (hm:m<us.length),m<j->DM w us[m]=false
 | [],_,_,_,_,_,_,q=>by cases q
 | d::ds,_,us,j,h,r,fl,q=>by
  obtain⟨y,ys,rfl,h1,h2⟩:=h.inv;rw[gg,dP]at fl;cases r with
  | @cons _ u _ us' r1 r2=>
   have eu:DM w u=NV d e:=by rw[GF r1 (yA h1 fl.1),Hx h1 g fl.1 fe]
   unfold Ab at q;by_cases hq:NV d e=true
   .rw[cX hq]at q;cases q;exact⟨by simp,by simpa [eu]using hq,λm _ hm=>absurd hm (Nat.not_lt_zero m)⟩
   .rw[cV hq]at q;cases q2:Ab e ds with
    | none=>rw[q2]at q;cases q
    | some j'=>
     rw[q2]at q;cases q;obtain⟨hl,e1,e2⟩:=IC g fe h2 r2 fl.2 q2;refine⟨by simpa using hl,by simpa using e1,λm hm VL=>?_⟩;cases m with
     | zero=>simpa [eu]using hq
     | succ m=>simpa using e2 m (by simpa using hm) (by have z:m+1<j'+1:=VL;omega)
def Qr(x:D)(ds:List D)(M:Mp)(Q:DK):Prop:=match x,ds with
 | .ref a,[y]=>(oA M a).elim False λes=>uq y=true/\es.all uq=true/\(Ab y es).elim False λj=>Q (.int (j:Nat)) M
 | _,_=>False
def M3(X:Cx)(id:String)(r:D->List D->Mp->DK->Prop):Prop:=Vd X id λvx vs H Q'=>∃x ds M Q,rm X.K H x vx/\pP X.K H ds vs/\HM X.K H M/\r x ds M Q/\Up X.K H Q' Q
def Lw:M3 X "list.index" Qr:=by
 intro Vw s σ H vx vs v us Q' I rx rv h;obtain⟨x,ds,M,Q,hx,hd,hm,q,k⟩:=h;unfold Qr at q;split at q
 .rename_i a y;obtain⟨es,e0,f1,f2,q⟩:=qF q;obtain⟨j,e1,q⟩:=qF q;cases hx.mq;cases rx;obtain⟨w,rfl,hw⟩:=rq hd;obtain⟨u,rfl,ru⟩:=wA rv;obtain⟨xs,h1,h2,rd⟩:=pW hm e0;obtain⟨hz,its,n,r,g⟩:=rd.ok I.mE;obtain⟨hl,p1,p2⟩:=IC hw f1 h2 r f2 e1;have hlz:its.length<=sizeLine:=by rw[<-r.length];exact hz
  have h63:=yl;refine jn F.slot_list_index ⟨_,g,rfl⟩ F.entry_list_index (F.args_list_index_2 _ _) (SeqAt.list_indexAt a its.toArray n none #[] u (DM w) j (by simpa using hl) (by omega) (by simpa using p1) λm hm VL=>by simpa using p2 m (by simpa using hm) VL) ⟨g,?_,?_⟩
  .intro z hz';exact vI ru (yA hw f1) r (EN h2 f2) z (by simpa using hz')
  .exact⟨.int (j:Nat),H,I.tok _,⟨_,rfl⟩,k _ _ _ _ .int hm .refl q⟩
 .exact q.elim
def PB(M:Mp):D->Prop
 | .ref a=>(oA M a).isSome=true
 | _=>False
def Ub(r:D->List D->Mp->DK->Prop)(to:T3)(t:wN):T3:=λδ M Q=>to δ M λx M1=>PB M1 x/\t δ M1 λds M2=>r x ds M2 Q
def P6{K:pX}{H:Hp}{M:Mp}{x:D}{v:V}(hm:HM K H M)(h:rm K H x v)(l:PB M x):UT K "list" v H:=by
 cases x with
 | ref a=>cases h.mq;obtain⟨ds,e⟩:=ju.mp (show(oA M a).isSome=true from l);obtain⟨xs,h1,_⟩:=pW hm e;exact .inl ⟨rfl,xs,h1⟩
 | _=>exact l.elim
def Pp{id:String}{name:Str}{r:D->List D->Mp->DK->Prop}(slot:Slot "list" name id)(hty:typeOf (.builtin id)=pure (.type "method_descriptor"))(hm:M3 X id r)(ho:E3 X o ta)(ha:A3 X (e::es) t) (VU:attributeBase o name X.env (eval o X.env)=eval o X.env:=by rfl)
  (WP:((backTo pos (starEach (e::es) X.env)).all (λx=>!x.1)&&(backToKw pos (keywordEach [] X.env)).all (λx=>x.1.isSome)
   &&decide ((e::es).length+([]:List Keyword).length+(if ([]:List Keyword).isEmpty then 0 else 1)<30))=true:=by rfl)
  (Wa:(VA.endLine==pos.line)=true:=by rfl) (hs:AB X e es:=by rfl) (VP:B0 X pos es:=by rfl):
  E3 X (.Call (.Attribute o name VA) (e::es) [] pos) (Ub r ta t):=PE.mono (Se PySem.F.plainAttrs_list slot hty hm ho ha VU WP Wa hs VP) λσ H Q' zz=>x7 zz λδ M Q hs hm ht k=>
 ⟨δ,M,_,hs,hm,ht,λv H1 x M1 hx Vy e1 q1=>⟨P6 Vy hx q1.1,δ,M1,_,hs.mono e1,Vy,q1.2,λvs H2 ds M2 WO VO e2 q2=>⟨x,ds,M2,Q,hx.mono e2,WO,VO,q2,vd (e1.trans e2) k⟩⟩⟩
def wW(ho:E3 X o ta)(ha:A3 X (e::es) t) (VU:attributeBase o "index" X.env (eval o X.env)=eval o X.env:=by rfl)
  (WP:((backTo pos (starEach (e::es) X.env)).all (λx=>!x.1)&&(backToKw pos (keywordEach [] X.env)).all (λx=>x.1.isSome)
   &&decide ((e::es).length+([]:List Keyword).length+(if ([]:List Keyword).isEmpty then 0 else 1)<30))=true:=by rfl)
  (Wa:(VA.endLine==pos.line)=true:=by rfl) (hs:AB X e es:=by rfl) (VP:B0 X pos es:=by rfl):
  E3 X (.Call (.Attribute o "index" VA) (e::es) [] pos) (Ub Qr ta t):=Pp PySem.F.slot_list_index PySem.F.type_list_index Lw ho ha VU WP Wa hs VP
structure Ka(K:pX)(C:Addr)(m:Str)(f:Addr):Prop where
 hg:W.specialIn K (.ref C) "__getattribute__"=some (some (.builtin "type.__getattribute__"))
 rd:W.readsIn K C (.type "type")=true
 fc:W.findCls K (.ref C) (.type "type") m=some (.val (.ref f))
def Pa{sp:Sp}{t:TA}{pl:Sem Bool}(cm:Ka X.K C m f)(F:wC X.prog X.w X.K X.mg X.base MI k f fd ps sp)(hr:rC k X.A)(hg:Gl X x)(hm:X.mg x=some (.ref C))(hk:W.keepIn X.K (.ref f)=true)(hb:ui X.K fd ps [])(ha:PA X (e::es) t) (VQ:yX x:=by decide) (VS:AB X e es:=by rfl) (VN:B0 X pos es:=by rfl)
  (ht:eval (.Call (.Attribute (.Name x p) m VA) (e::es) [] pos) X.env=(do
   let ov<-eval (.Name x p) X.env
   standAt VA.atName
   let(f,first)<-holding [ov] (getMethod ov m pl)
   callWith pos f first (backTo pos (starEach (e::es) X.env)) (backToKw pos (keywordEach [] X.env))):=by rfl):
  PE X (.Call (.Attribute (.Name x p) m VA) (e::es) [] pos) (λσ H Q=>t σ H λvs H1=>sp vs H1 Q E0):=by
 intro Vw s σ H Q I h;refine jO (pl:=pl) (wn I hg hm ?_ VQ) ht;refine W.method_cls I.mV cm.hg (W.cls_value I.mV cm.rd cm.fc rfl ?_);refine iC (first:=[]) (h₀:=X.base) I.ok.mod.nX hk (rQ (ha pos Vw _ σ H _ (I.tok _) h) λus s2 zz=>x5 zz λvs H2 I2 r q2=>⟨I2.mV,?_⟩) VS VN;exact DA F hr hb .nil (F7 (X:=X)) I2 r (by rw[eR];exact q2)
def NA{pl:Sem Bool}(cm:Ka X.K C m f)(F:RK X.prog X.w X.K X.mg X.base k f fd ps sp)(hr:rC k X.A)(hg:Gl X x)(hm:X.mg x=some (.ref C))(hk:W.keepIn X.K (.ref f)=true)(hb:ui X.K fd ps [])(ha:A3 X (e::es) t) (VQ:yX x:=by decide) (VS:AB X e es:=by rfl) (VN:B0 X pos es:=by rfl)
  (ht:eval (.Call (.Attribute (.Name x p) m VA) (e::es) [] pos) X.env=(do
   let ov<-eval (.Name x p) X.env
   standAt VA.atName
   let(f,first)<-holding [ov] (getMethod ov m pl)
   callWith pos f first (backTo pos (starEach (e::es) X.env)) (backToKw pos (keywordEach [] X.env))):=by rfl):
  E3 X (.Call (.Attribute (.Name x p) m VA) (e::es) [] pos) (CV sp t):=PE.mono (Pa cm F hr hg hm hk hb ha VQ VS VN ht) λσ H Q' zz=>x7 zz λδ M Q hs hm ht k=>
 ⟨δ,M,_,hs,hm,ht,λvs H1 ds M1 hd Vy e1 q1=>⟨ds,M1,Q,hd,Vy,q1,vd e1 k⟩⟩
def pQ:bootBuiltins "len"=some (.builtin "len"):=by decide+kernel
def Rx:bootBuiltins "min"=some (.builtin "min"):=by decide+kernel
def Bb:bootBuiltins "all"=some (.builtin "all"):=by decide+kernel
def ug:bootBuiltins "tuple"=some (.type "tuple"):=by decide+kernel
def sZ:bootBuiltins "list"=some (.type "list"):=by decide+kernel
def Gv:bootBuiltins "int"=some (.type "int"):=by decide+kernel
def EC:bootBuiltins "dict"=some (.type "dict"):=by decide+kernel
def El:bootBuiltins "enumerate"=some (.type "enumerate"):=by decide+kernel
def RC:bootBuiltins "zip"=some (.type "zip"):=by decide+kernel
end
theorem _root_.L2.Inv.drawn{ch:List Addr}{T:Addr}{xs:List V}{its:List Vl}{h':Heap}{tk:Nat}(I:Inv X Vw σ H s)(Wy:∀b∈ch,Aj X Vw H b)(k:∀b o,b∉ch->s.heap.get? b=some o->h'.get? b=some o)(hT:s.heap.objs.size<=T)(hx:xs.length<=sizeLine) (rv:qc xs its) (ht:DP h' T its.toArray):Inv X Vw σ (upd H T (.tup xs)) {s with heap:=h',toks:=tk}:=by
 have XW:H T=none:=I.mE.fresh hT;have nT:∀b o,s.heap.get? b=some o->b≠T:=λb o e=>dE (dF (dq e) hT);refine I.step (g':=s.gens) (d':=s.drawn) (ch:=ch) (λb hb=>⟨(Wy b hb).2.2.2.1,(Wy b hb).2.1,(Wy b hb).2.2.2.2.1,(Wy b hb).2.2.2.2.2⟩) (λb o _ _ hc e _=>k b o hc e) (λb o _ _ hc e _=>⟨o.slots,k b o hc e⟩) (λb o _ e n=>by rw[pH (nT b o e)];exact n)
  (λb o hc e=>⟨o,k b o hc e⟩) (λb ys e=>by rw[pH (qw e XW)];exact e) (λb o u e=>by rw[pH (qw e XW)];exact e) (λb ps e=>⟨#[],by rw[pH (qw e XW),e];simp⟩) (λm hm=>?_) (λb u e=>?_) I.bare
 .obtain⟨o,es,ep,ho,r⟩:=hm;exact⟨o,es,ep,k _ o (λz=>(Wy _ z).2.1 rfl) ho,r⟩
 .by_cases hb:b=T
  .subst hb;rw[pM]at e;cases e;exact⟨hx,its,rv,ht⟩
  .rw[pH hb]at e;refine(I.mE b u e).mS (λc v hc q=>k c v (λz=>?_) q) (λc q=>by rw[pH (qw q XW)];exact q) (λc ys q=>by rw[pH (qw q XW)];exact q);have n:=(Wy c z).1;rcases hc with y|y
   .rw[y,e]at n;cases n
   .rw[y]at n;cases n
def Ud(K:pX)(a:Addr):It:=
 ⟨λi H=>∃xs x,yo K H a xs/\xs[i]?=some x,λi H x H'=>∃p y,x=.ref p/\H p=none/\H'=upd H p (.tup [.int (i:Nat),y])/\∀xs,yo K H a xs->xs[i]?=some y,λi H=>∃xs,yo K H a xs/\xs.length<=i⟩
def JJ{P:Pg}{w:Wo}{K:pX}{VX:List Expr}{n:Nat}{tp:Pos}(a e it:Addr)(hei:e≠it):Fx P w K (.Tuple VX n tp) (Ud K a) [e,it] e (λi h=>(∃Wk,IsEnum h e it (i:Nat) Wk)/\h.IsListIter it a i) where
 mem:=by simp
 obj:=λi h st b hb=>by
  obtain⟨⟨Wk,he⟩,o,e1,c,d⟩:=st;rcases cZ.mp hb with rfl|hb
  .exact⟨_,he,λv z=>by cases z⟩
  .rw[dg.mp hb];exact⟨o,e1,λv z=>by rw[d]at z;cases z⟩
 keep:=λi h h' st k=>by obtain⟨⟨Wk,he⟩,hi⟩:=st;exact⟨⟨Wk,k e (by simp) _ he⟩,hi.at λo q=>k it (by simp) o q⟩
 item:=by
  intro X hP hw hK hc i Vw s σ H E I hf st hg;subst hP hw hK;obtain⟨xs,x,hq,hx⟩:=hg;obtain⟨its,rv,p,hz⟩:=I.list hq;obtain⟨u,hu,ru⟩:=rv.get hx;obtain⟨⟨Wk,he⟩,hi⟩:=st;refine wpAny_pyNext_enum_item he hi p.isList (x:=u) (by simpa using hu) hei λh1 ho Xc hT hsz hk=>?_;refine⟨_,rfl,wpAny_letOwnedTupleGo_enum ho λh2 he2 Xe=>?_⟩;have helt:e<s.heap.objs.size:=dq he;have hilt:it<s.heap.objs.size:=by obtain⟨o,q,_⟩:=hi;exact dq q
  have kk:∀b o,b∉[e,it]->s.heap.get? b=some o->h2.get? b=some o:=λb o hb q=>(Xe.2 b λz=>hb (by simp[z])).trans (hk b o (λz=>hb (by simp[z])) (λz=>hb (by simp[z])) q);have hT2:h2.get? s.heap.objs.size=some {cls:=.type "tuple",data:=.seq #[.int (i:Nat) s.toks,u]}:=(Xe.2 _ (gH helt)).trans hT;have XW:H s.heap.objs.size=none:=I.mE.fresh (c9 _);have I2:=I.drawn (ch:=[e,it]) (T:=s.heap.objs.size) (xs:=[.int (i:Nat),x]) (its:=[.int (i:Nat) s.toks,u]) (h':=h2) (tk:=s.toks+1) hf kk (c9 _) (by show 2<=sizeLine;decide) (.cons ⟨_,rfl⟩ (.cons ru .nil)) ⟨_,hT2,rfl,⟨_,rfl⟩,rfl⟩;refine⟨.ref s.heap.objs.size,_,I2,rfl,⟨_,x,rfl,XW,rfl,λys hy=>by rw[I.nB hy hq];exact hx⟩,⟨⟨_,by simpa using he2⟩,Xc.extBut Xe.extBut (dG hei)⟩,λb hb=>?_⟩;have Wu:b<s.heap.objs.size:=by
   rcases cZ.mp hb with z|z
   .rw[z];exact helt
   .rw[dg.mp z];exact hilt
  rw[pH (dE Wu)];exact(hf b hb).1
 done:=by intro X hP hw hK hc i Vw s σ H E I hf st hg;subst hP hw hK;obtain⟨xs,hq,hx⟩:=hg;obtain⟨its,rv,p,hz⟩:=I.list hq;obtain⟨⟨Wk,he⟩,hi⟩:=st;have hl:=rv.length;obtain⟨f0,f1,f2,f3,f4,f5⟩:=hf it (by simp);exact wpAny_pyNext_enum_end (I.ok.hd hc) he hi p.isList (by simp;omega) λh' eb=>⟨rfl,I.turned (t':=s.toks) (λb o hb q=>eb b o hb q) f0 f1 f3 f4 f5⟩
 self:=λ_ _ _ _ _ st h=>by obtain⟨⟨Wk,he⟩,_⟩:=st;exact lb he h
variable {tp:Pos}{VX:List Expr}{n:Nat}
def NS{a:Expr}{ta:TA}(hg:Gl X "enumerate")(hm:X.mg "enumerate"=none)(ha:PA X [a] ta)(hs:starEach [a] X.env=[(false,eval a X.env)]:=by rfl):
  PI X (.Tuple VX n tp) (.Call (.Name "enumerate" p) [a] [] pos) (λσ H R=>ta σ H λvs H1=>∃l,vs=[.ref l]/\(∃xs,yo X.K H1 l xs)/\R (Ud X.K l) H1):=by
 intro Vw s σ H R I h;refine Call_ (xT I hg hm El (fR (rQ (ha pos Vw s σ H _ I h) λus s1 zz=>x5 zz λvs H1 I1 r1 q1=>?_) hs rfl));obtain⟨l,e,⟨xs,hq⟩,q⟩:=q1;subst e;obtain⟨u,rfl,ru⟩:=wA r1;cases ru;obtain⟨its,rv,pl,hz⟩:=I1.list hq;refine call_enumerate_list pl.isList λh' he hi hsz hk=>?_;refine lb he ?_;have I2:Inv X Vw σ H1 {s1 with heap:=h'}:=I1.kept (t':=s1.toks) hk;refine⟨s1.heap.objs.size+1,[s1.heap.objs.size+1,s1.heap.objs.size],_,_,H1,rfl,I2,JJ l _ _ (Nat.succ_ne_self _),⟨⟨_,he⟩,hi⟩,λb hb=>?_,q⟩;have Wu:s1.heap.objs.size<=b:=by
  rcases cZ.mp hb with z|z
  .rw[z];exact gR _
  .rw[dg.mp z];exact c9 _
 exact I1.nH Wu (I1.mE.fresh Wu)
def tY:Nat->List D->List D
 | _,[]=>[]
 | i,d::r=>.tup [.int (i:Nat),d]::tY (i+1) r
theorem yF:∀{ds:List D} {i j:Nat},(tY j ds)[i]?=(ds[i]?).map λd=>D.tup [.int ((j+i:Nat):Int),d]
 | [],i,j=>by simp[tY]
 | d::r,0,j=>by simp[tY]
 | d::r,i+1,j=>by show(tY (j+1) r)[i]?=_;rw[yF];simp only[jJ];rw[show j+1+i=j+(i+1)by omega]
theorem uN:∀{ds:List D} {j:Nat},(tY j ds).length=ds.length
 | [],j=>rfl
 | d::r,j=>by simp[tY,uN]
def Mw{K:pX}{H1:Hp}{a:Addr}{ds:List D}:F4 K H1 (Ud K a) (tY 0 ds) (λM=>oA M a=some ds) where
 go:=λi H M hi hm ok _=>by rw[uN]at hi;obtain⟨xs,h1,h2,_⟩:=pW hm ok;obtain⟨x,e,_⟩:=h2.get (cS hi);exact⟨xs,x,h1,e⟩
 om:=λi d H M x H' hd hm ok _ y=>by
  obtain⟨xs,h1,h2,_⟩:=pW hm ok;obtain⟨p,z,rfl,hp,rfl,y⟩:=y;rw[yF]at hd;cases e:ds[i]? with
  | none=>rw[e]at hd;cases hd
  | some d'=>rw[e]at hd;cases hd;obtain⟨x',e',hx⟩:=h2.get e;have w1:=y xs h1;rw[e']at w1;have w2:x'=z:=de w1;subst w2;have ex:qx K H (upd H p (.tup [.int (i:Nat),x'])):=.new hp;refine⟨.tup (.of pM) (.cons (by rw[lZ];exact .int) (.cons (hx.mono ex) .nil)),hm.add hp,ex⟩
 stop:=λH M hm ok _=>by obtain⟨xs,h1,h2,_⟩:=pW hm ok;exact⟨xs,h1,by rw[uN,h2.length];exact c9 _⟩
def Rc(t:wN):MC:=λδ M R=>t δ M λds M1=>match ds with
 | [.ref a]=>(oA M1 a).elim False λes=>R (tY 0 es) (λM=>oA M a=some es) M1
 | _=>False
def wb{a:Expr}{ta:wN}(hg:Gl X "enumerate")(hm:X.mg "enumerate"=none)(ha:A3 X [a] ta)(hs:starEach [a] X.env=[(false,eval a X.env)]:=by rfl):I3 X (.Tuple VX n tp) (.Call (.Name "enumerate" p) [a] [] pos) (Rc ta):=
 PI.mono (NS hg hm ha hs) λσ H R' zz=>x7 zz λδ M R hs hm ht k=>⟨δ,M,_,hs,hm,ht,λvs H1 ds M1 hd Vy e1 q1=>by
  split at q1
  .obtain⟨v,rfl,hv⟩:=rq hd;cases hv.mq;obtain⟨es,e0,q⟩:=qF q1;obtain⟨xs,h1,h2,_⟩:=pW Vy e0;exact⟨_,rfl,⟨xs,h1⟩,k _ H1 _ _ M1 Mw Vy e1 e0 q⟩
  .exact q1.elim⟩
variable {prog:Pg}{A:Ar}{E:Vl→Sd→Prop}
def Hf{it t:Addr}{i:Nat}{its:Array Vl}{x:Vl}{Q:Vl->Sd->Prop}(hi:s.heap.IsTupleIter it t i)(ht:s.heap.IsTuple t its)(hx:its[i]?=some x) (hQ:∀g,g.IsTupleIter it t (i+1)->Heap.SameBut it s.heap g->Q x {s with heap:=g}):wpAny (model prog w) A (Builtin.SmallTypes.nextOf (.ref it)) Q E s:=by
 obtain⟨ob,e1,e2,e3⟩:=id hi;obtain⟨ot,e4,_,nt,e5⟩:=ht;unfold Builtin.SmallTypes.nextOf;refine cR (fC (name:=Str.ofString "__next__") hi.typeIs gA (fY gA hi.typeIs jb ?_ (iV _)));show wpAny (model prog w) _ (field (.ref it) 0>>=_) _ _ s;refine cR (eW e1 e3 (x:=.ref t) rfl ?_);show wpAny (model prog w) _ (if (Value.ref t==Value.none)=true then _ else _) _ _ s;rw[cV (show ¬(Value.ref t==Value.none)=true from df)];show wpAny (model prog w) _ (field (.ref it) 1>>=_) _ _ s;refine cR (eW e1 e3 (x:=.int i 0) rfl ?_);show wpAny (model prog w) _ (seqItems? (.ref t)>>=_) _ _ s;refine cR (gm e4 e5 ?_);simp only[jh,hx];refine cR (gZ e1 e3 (by simp) (cY ⟨x,rfl,cY (hQ _ ⟨_,fv _ e1 (Obj.isFreed_of_fields (kO e3 _)),(Obj.cls_mapFields ..).trans e2,?_⟩ (ku ..))⟩));rw[kO e3];simp[rawInt]
def BX{it t:Addr}{i:Nat}{its:Array Vl}{Q:Vl->Sd->Prop}(hh:A.handled=none)(hi:s.heap.IsTupleIter it t i)(ht:s.heap.IsTuple t its)(hx:its[i]?=none) (hE:∀g e,Heap.ExtBut it s.heap g->(∃o,g.get? e=some o/\o.cls=.type "StopIteration")->E (.ref e) {s with heap:=g}):wpAny (model prog w) A (Builtin.SmallTypes.nextOf (.ref it)) Q E s:=by
 obtain⟨ob,e1,e2,e3⟩:=id hi;obtain⟨ot,e4,_,nt,e5⟩:=ht;unfold Builtin.SmallTypes.nextOf;refine cR (fC (name:=Str.ofString "__next__") hi.typeIs gA (fY gA hi.typeIs jb ?_ (iV _)));show wpAny (model prog w) _ (field (.ref it) 0>>=_) _ _ s;refine cR (eW e1 e3 (x:=.ref t) rfl ?_);show wpAny (model prog w) _ (if (Value.ref t==Value.none)=true then _ else _) _ _ s;rw[cV (show ¬(Value.ref t==Value.none)=true from df)];show wpAny (model prog w) _ (field (.ref it) 1>>=_) _ _ s;refine cR (eW e1 e3 (x:=.int i 0) rfl ?_);show wpAny (model prog w) _ (seqItems? (.ref t)>>=_) _ _ s;refine cR (gm e4 e5 ?_);simp only[jh,hx];refine cR (j8 (cR (gZ e1 e3 (by simp) ?_)));show wpAny (model prog w) _ (newExc (.type "StopIteration") []>>=_) _ _ _;refine cR ?_;simp only[newExc,newTuple];refine cR (fP ?_ (by size_fits));refine cR (m:=firstArgMember _ _) (wpAny_of_eq (a:=Value.none) (by first|rfl|(simp only[firstArgMember];rfl)) ?_);refine fP ?_ (by size_fits);simp only[raiseNew];refine cR (wpAny_handled ?_)
 first|rw[show A.in1.handled=none from hh]|rw[hh]
 refine cR (cY (wpAny_throw (hE _ _ (((ku ..).extBut.push _).push _) ⟨_,dC _ rfl,rfl⟩)))
def xA{prog:Pg}{w:Wo}{A:Ar}(hh:A.handled=none)(it t:Addr)(VV:t≠it)(its:Array Vl):
  Draws prog w A it [it,t] its.size (λi v=>its[i]?=some v) (λi h=>h.IsTupleIter it t i/\h.IsTuple t its) where
 live:=λi h st=>let⟨o,ho,_⟩:=st.1;⟨o,ho⟩
 frame:=λi h g st hk=>by obtain⟨⟨o,e1,e2⟩,⟨o',e3,e4⟩⟩:=st;exact⟨⟨o,hk it (by simp) o e1,e2⟩,⟨o',hk t (by simp) o' e3,e4⟩⟩
 item:=λi s Q E hi st hQ=>Hf st.1 st.2 (x:=its[i]) (by simp[hi]) λg hg hs=>hQ _ g s.toks (by simp[hi]) ⟨hg,st.2.extBut hs.extBut VV⟩ hs
 done:=λs Q E st hE=>BX hh st.1 st.2 (by simp) hE
structure zj(z TI TO i1 i2:Addr)(f1 f2:List Addr):Prop where
 a1:TI≠z
 a2:TO≠z
 a3:i1≠z
 a4:i2≠z
 a5:TI≠TO
 a6:TI≠i1
 a7:TI≠i2
 a8:TO≠i1
 a9:TO≠i2
 oH:i1≠i2
 b1:z∉f1
 b2:TO∉f1
 b3:i2∉f1
 c1:z∉f2
 c2:TO∉f2
 c3:i1∉f2
variable {z TI TO i1 i2:Addr}{f1 f2:List Addr}{n1 n2 k1 k2:Nat}{P1 P2:Nat→Vl→Prop}{S1 S2:Nat→Heap→Prop}
section
variable {a b:Vl}
def rE{fp:List Addr}{it:Addr}{n:Nat}{Pt:Nat->Vl->Prop}{St:Nat->Heap->Prop}(Dr:Draws prog w A it fp n Pt St){i:Nat}{h g:Heap}{c:Addr}(st:St i h)(hs:Heap.SameBut c h g)(hc:c∉fp):St i g:=
 Dr.frame _ _ _ st λd hd o e=>(hs.2 d λq=>hc (q ▸ hd)).trans e
def IQ{Q:Vl->Sd->Prop}(D1:Draws prog w A i1 f1 n1 P1 S1)(D2:Draws prog w A i2 f2 n2 P2 S2)(VR:zj z TI TO i1 i2 f1 f2)(hz:IsZip s.heap z TI TO .none)(hI:IsPair s.heap TI (.ref i1) (.ref i2))(hO:IsPair s.heap TO a b) (Wf:S1 k1 s.heap) (VW:S2 k2 s.heap) (l1:k1<n1) (l2:k2<n2) (hQ:∀x y g tk,P1 k1 x->P2 k2 y->IsZip g z TI TO (rawInt s.heap.objs.size)->IsPair g TO x y->S1 (k1+1) g->S2 (k2+1) g->IsPair g s.heap.objs.size x y->g.objs.size=s.heap.objs.size+1->
   (∀c o,c≠z->c≠TO->c≠i1->c≠i2->s.heap.get? c=some o->g.get? c=some o)->Q (.ref s.heap.objs.size) {s with heap:=g,toks:=tk}):
  wpAny (model prog w) A (Builtin.«zip.__next__» ⟨[.ref z],[]⟩) (λVB s'=>∃v,VB=.done (.ret v)/\Q v s') E s:=by
 show wpAny (model prog w) A (field (.ref z) 2>>=_) _ _ _;refine cR (eW hz rfl (x:=.bool false) rfl ?_);show wpAny (model prog w) A (field (.ref z) 3>>=_) _ _ _;refine cR (eW hz rfl (x:=.ref TI) rfl (cR (gm hI rfl ?_)));show wpAny (model prog w) A (Builtin.SmallTypes.ownedTupleIsFree (.ref z)>>=_) _ _ _;refine cR ?_;unfold Builtin.SmallTypes.ownedTupleIsFree;refine cR (eW hz rfl (x:=.none) rfl (cY ?_));simp only[iz];refine cR (j8 (cR (eW hz rfl (x:=.ref TO) rfl (cR (gv hz (by simp) λg1 z1 Xn=>?_)))));replace z1:IsZip g1 z TI TO .ellipsis:=z1;refine cR ?_;simp only[lF,lO,jL,jW];refine cR (cR (iu ?_));show wpAny (model prog w) A (Builtin.SmallTypes.nextOf (.ref i1)>>=_) _ _ _;have Xo:S1 k1 g1:=rE D1 Wf Xn VR.b1;refine cR (D1.item k1 _ _ _ l1 Xo λx g2 tk2 px st1b WB=>cY ?_);replace WB:Heap.SameBut i1 g1 g2:=WB;have o2:IsPair g2 TO a b:=WB.extBut _ _ VR.a8 (Xn.extBut _ _ VR.a2 hO);refine cR (gm o2 rfl (cR (iG o2 λg3 o3 WK=>?_)));replace o3:IsPair g3 TO x b:=o3;replace WK:Heap.SameBut TO g2 g3:=WK;refine cR (lq (cY (cR (cR (iu ?_)))));show wpAny (model prog w) A (Builtin.SmallTypes.nextOf (.ref i2)>>=_) _ _ _;have XX:S2 k2 g3:=rE D2 (rE D2 (rE D2 VW Xn VR.c1) WB VR.c3) WK VR.c2;refine cR (D2.item k2 _ _ _ l2 XX λy g4 tk4 py st2b Xx=>cY ?_);replace Xx:Heap.SameBut i2 g3 g4:=Xx;have o4:IsPair g4 TO x b:=Xx.extBut _ _ VR.a9 o3;refine cR (gm o4 rfl (cR (iG o4 λg5 o5 Xy=>?_)));replace o5:IsPair g5 TO x y:=o5;replace Xy:Heap.SameBut TO g4 g5:=Xy;refine cR (lq (cY (cY (cR (gm o5 rfl (cR (wpAny_newTuple ?_)))))));have esz:g5.objs.size=s.heap.objs.size:=by rw[Xy.1,Xx.1,WK.1,WB.1,Xn.1]
 have z5:IsZip g5 z TI TO .ellipsis:=Xy.extBut _ _ VR.a2.symm (Xx.extBut _ _ VR.a4.symm (WK.extBut _ _ VR.a2.symm (WB.extBut _ _ VR.a3.symm z1)));have kp:∀c o,c≠z->c≠TO->c≠i1->c≠i2->s.heap.get? c=some o->g5.get? c=some o:=λc o q1 q2 q3 q4 q=>Xy.extBut _ _ q2 (Xx.extBut _ _ q4 (WK.extBut _ _ q2 (WB.extBut _ _ q3 (Xn.extBut _ _ q1 q))));have st1c:S1 (k1+1) g5:=rE D1 (rE D1 (rE D1 st1b WK VR.b2) Xx VR.b3) Xy VR.b2;have st2c:S2 (k2+1) g5:=rE D2 st2b Xy VR.c2;have zlt:z<g5.objs.size:=dq z5;show wpAny (model prog w) A (Builtin.SmallTypes.ownedTupleHandOut (.ref z) (.ref g5.objs.size)>>=_) _ _ _;refine cR ?_;unfold Builtin.SmallTypes.ownedTupleHandOut;have z6:IsZip (g5.push {cls:=.type "tuple",data:=.seq #[x,y]}) z TI TO .ellipsis:=cW _ z5;refine cR (gv z6 (by simp) λg7 z7 sb7=>?_);replace z7:IsZip g7 z TI TO (rawInt g5.objs.size):=z7;refine gv z7 (by simp) λg8 z8 sb8=>?_;replace z8:IsZip g8 z TI TO (rawInt g5.objs.size):=z8;have up:∀c o,c≠z->g5.get? c=some o->g8.get? c=some o:=λc o q1 q=>sb8.extBut _ _ q1 (sb7.extBut _ _ q1 (cW _ q));have tu:IsPair g8 g5.objs.size x y:=sb8.extBut _ _ (gH zlt) (sb7.extBut _ _ (gH zlt) (dC _ rfl));have es8:g8.objs.size=g5.objs.size+1:=by rw[sb8.1,sb7.1,fi]
 rw[esz]at z8 tu es8;refine cY ⟨_,rfl,?_⟩;show Q (.ref g5.objs.size) _;rw[esz];exact hQ x y g8 _ px py z8 (up _ _ VR.a2 o5) (D1.frame _ _ _ st1c λc hc o q=>up c o (λr=>VR.b1 (r ▸ hc)) q) (D2.frame _ _ _ st2c λc hc o q=>up c o (λr=>VR.c1 (r ▸ hc)) q) tu es8 λc o q1 q2 q3 q4 q=>up c o q1 (kp c o q1 q2 q3 q4 q)
def Kd{Q:Fin->Sd->Prop}(D1:Draws prog w A i1 f1 n1 P1 S1)(D2:Draws prog w A i2 f2 n2 P2 S2)(VR:zj z TI TO i1 i2 f1 f2)(hz:IsZip s.heap z TI TO .none)(hI:IsPair s.heap TI (.ref i1) (.ref i2))(hO:IsPair s.heap TO a b) (Wf:S1 k1 s.heap) (VW:S2 k1 s.heap) (YE:k1=n1\/(k1<n1/\k1=n2)) (hE:∀g e,(∀c o,c≠z->c≠TO->c≠i1->c≠i2->s.heap.get? c=some o->g.get? c=some o)->(∃o,g.get? e=some o/\o.cls=.type "StopIteration")->∀tk,E (.ref e) {s with heap:=g,toks:=tk}):
  wpAny (model prog w) A (Builtin.«zip.__next__» ⟨[.ref z],[]⟩) Q E s:=by
 show wpAny (model prog w) A (field (.ref z) 2>>=_) _ _ _;refine cR (eW hz rfl (x:=.bool false) rfl ?_);show wpAny (model prog w) A (field (.ref z) 3>>=_) _ _ _;refine cR (eW hz rfl (x:=.ref TI) rfl (cR (gm hI rfl ?_)));show wpAny (model prog w) A (Builtin.SmallTypes.ownedTupleIsFree (.ref z)>>=_) _ _ _;refine cR ?_;unfold Builtin.SmallTypes.ownedTupleIsFree;refine cR (eW hz rfl (x:=.none) rfl (cY ?_));simp only[iz];refine cR (j8 (cR (eW hz rfl (x:=.ref TO) rfl (cR (gv hz (by simp) λg1 z1 Xn=>?_)))));replace z1:IsZip g1 z TI TO .ellipsis:=z1;refine cR ?_;simp only[lF,lO,jL,jW];refine cR (cR (iu ?_));show wpAny (model prog w) A (Builtin.SmallTypes.nextOf (.ref i1)>>=_) _ _ _;have Xo:S1 k1 g1:=rE D1 Wf Xn VR.b1;rcases YE with he|⟨VL,he⟩
 .rw[he]at Xo;refine cR (D1.done _ _ _ Xo λg2 e WB hx=>?_);obtain⟨oe,g,YF⟩:=hx;have z2:IsZip g2 z TI TO .ellipsis:=WB _ _ VR.a3.symm z1;have hez:e≠z:=λq=>by subst q;rw[z2]at g;cases g;simp at YF
  exact gv z2 (by simp) λg3 _ WK=>hE g3 e (λc o q1 _ q3 _ q=>WK.extBut _ _ q1 (WB _ _ q3 (Xn.extBut _ _ q1 q))) ⟨oe,WK.extBut _ _ hez g,YF⟩ _
 .refine cR (D1.item k1 _ _ _ VL Xo λx g2 tk2 px st1b WB=>cY ?_);replace WB:Heap.SameBut i1 g1 g2:=WB;have o2:IsPair g2 TO a b:=WB.extBut _ _ VR.a8 (Xn.extBut _ _ VR.a2 hO);refine cR (gm o2 rfl (cR (iG o2 λg3 o3 WK=>?_)));replace WK:Heap.SameBut TO g2 g3:=WK;refine cR (lq (cY (cR (cR (iu ?_)))));show wpAny (model prog w) A (Builtin.SmallTypes.nextOf (.ref i2)>>=_) _ _ _;have XX:S2 k1 g3:=rE D2 (rE D2 (rE D2 VW Xn VR.c1) WB VR.c3) WK VR.c2;rw[he]at XX;refine cR (D2.done _ _ _ XX λg4 e Xx hx=>?_);obtain⟨oe,g,YF⟩:=hx;have z4:IsZip g4 z TI TO .ellipsis:=Xx _ _ VR.a4.symm (WK.extBut _ _ VR.a2.symm (WB.extBut _ _ VR.a3.symm z1));have hez:e≠z:=λq=>by subst q;rw[z4]at g;cases g;simp at YF
  exact gv z4 (by simp) λg5 _ Xy=>hE g5 e (λc o q1 q2 q3 q4 q=>Xy.extBut _ _ q1 (Xx _ _ q4 (WK.extBut _ _ q2 (WB.extBut _ _ q3 (Xn.extBut _ _ q1 q))))) ⟨oe,Xy.extBut _ _ hez g,YF⟩ _
end
abbrev TB(h:Heap)(t:Addr):Heap:=h.push {cls:=.type "tuple_iterator",data:=.fields #[.ref t,.int 0 0]}
abbrev TF(h:Heap)(t u:Addr):Heap:=(TB h t).push {cls:=.type "tuple_iterator",data:=.fields #[.ref u,.int 0 0]}
abbrev TK(h:Heap)(t u:Addr):Heap:=(TF h t u).push {cls:=.type "tuple",data:=.seq #[.ref h.objs.size,.ref (TB h t).objs.size]}
abbrev Tz(h:Heap)(t u:Addr):Heap:=(TK h t u).push {cls:=.type "tuple",data:=.seq #[.none,.none]}
abbrev RQ(h:Heap)(t u:Addr):Heap:=(Tz h t u).push {cls:=.type "zip",data:=.fields #[.none,.bool false,.bool false,.ref (TF h t u).objs.size,.ref (TK h t u).objs.size]}
def CA(t u:Addr)(xs ys:Array Vl):
  Meets (Builtin.«zip.__new__» ⟨[.type "zip",.ref t,.ref u],[]⟩) (λ_ R s=>s.heap.IsTuple t xs/\s.heap.IsTuple u ys/\R (.ok (.ret (.ref (Tz s.heap t u).objs.size))) {s with heap:=RQ s.heap t u}):=
 .of_wp λprog w A R s h=>by
  obtain⟨hp,g,d,tk,os⟩:=s;obtain⟨e1,e2,h⟩:=h;have Xk:=sub_zip;have q1:Heap.IsTuple (Shared.heap ⟨hp,g,d,tk,os⟩) t xs:=e1;have q2:Heap.IsTuple (Shared.heap ⟨hp.push {cls:=.type "tuple_iterator",data:=.fields #[.ref t,.int 0 0]},g,d,tk,os⟩) u ys:=Heap.IsTuple.push e2 _
  wp_walk using ij q1,ij q2
  exact⟨_,rfl,h⟩
def EJ{t u:Addr}{xs ys:Array Vl}{Q:Vl->Sd->Prop}(ht:s.heap.IsTuple t xs)(hu:s.heap.IsTuple u ys) (h:∀g,IsZip g (s.heap.objs.size+4) (s.heap.objs.size+2) (s.heap.objs.size+3) .none->IsPair g (s.heap.objs.size+2) (.ref s.heap.objs.size) (.ref (s.heap.objs.size+1))->IsPair g (s.heap.objs.size+3) .none .none->
   g.IsTupleIter s.heap.objs.size t 0->g.IsTupleIter (s.heap.objs.size+1) u 0->(∀c o,s.heap.get? c=some o->g.get? c=some o)->Q (.ref (s.heap.objs.size+4)) {s with heap:=g}):
  wpAny (model prog w) A (call (.type "zip") [.ref t,.ref u]) Q E s:=by
 refine callType_new F.called_zip (by decide) (F.typeCall_zip_2 _ _) (F.newCall_zip_2 _ _) (λobj=>F.args_object_init_3 obj _ _) F.entry_zip_new (CA t u xs ys) ⟨ht,hu,?_⟩;have m1:(TB s.heap t).objs.size=s.heap.objs.size+1:=fi ..;have m2:(TF s.heap t u).objs.size=s.heap.objs.size+2:=by rw[fi,m1]
 have m3:(TK s.heap t u).objs.size=s.heap.objs.size+3:=by rw[fi,m2]
 have m4:(Tz s.heap t u).objs.size=s.heap.objs.size+4:=by rw[fi,m3]
 have up:∀{h:Heap} {c:Addr} {o p:Obj},h.get? c=some o->(h.push p).get? c=some o:=λq=>cW _ q;have r5:(RQ s.heap t u).get? (Tz s.heap t u).objs.size=some _:=dC _ rfl;have r4:(RQ s.heap t u).get? (TK s.heap t u).objs.size=some _:=up (dC _ rfl);have r3:(RQ s.heap t u).get? (TF s.heap t u).objs.size=some _:=up (up (dC _ rfl));have r2:(RQ s.heap t u).get? (TB s.heap t).objs.size=some _:=up (up (up (dC _ rfl)));have r1:(RQ s.heap t u).get? s.heap.objs.size=some _:=up (up (up (up (dC _ rfl))));show _/\_;rw[m2,m3,m4]at r5;rw[m1,m2]at r3;rw[m3]at r4;rw[m1]at r2;rw[m4];exact⟨⟨_,r5,rfl⟩,h _ r5 r3 r4 ⟨_,r1,rfl,rfl⟩ ⟨_,r2,rfl,rfl⟩ λc o q=>up (up (up (up (up q))))⟩
def FE{z TI TO i1 i2:Addr}{f1 f2:List Addr}{n1 n2 k:Nat}{P1 P2:Nat->Vl->Prop}{S1 S2:Nat->Heap->Prop}{a b:Vl}{Q:Option Vl->Sd->Prop}(D1:Draws prog w A.in1 i1 f1 n1 P1 S1)(D2:Draws prog w A.in1 i2 f2 n2 P2 S2)(VR:zj z TI TO i1 i2 f1 f2) (hz:IsZip s.heap z TI TO .none) (hI:IsPair s.heap TI (.ref i1) (.ref i2)) (hO:IsPair s.heap TO a b) (Wf:S1 k s.heap) (VW:S2 k s.heap) (l1:k<n1) (l2:k<n2) (hQ:∀x y g tk,P1 k x->P2 k y->IsZip g z TI TO (rawInt s.heap.objs.size)->IsPair g TO x y->S1 (k+1) g->S2 (k+1) g->IsPair g s.heap.objs.size x y->g.objs.size=s.heap.objs.size+1->
   (∀c o,c≠z->c≠TO->c≠i1->c≠i2->s.heap.get? c=some o->g.get? c=some o)->Q (some (.ref s.heap.objs.size)) {s with heap:=g,toks:=tk}):wpAny (model prog w) A (pyNext (.ref z)) Q E s:=by
 have hT:s.TypeIs (.ref z) "zip":=⟨_,hz,rfl⟩;unfold pyNext;refine cR (km (fC (name:=Str.ofString "__next__") hT iH (fY iH hT lG ?_ (lh _))));exact IQ D1 D2 VR hz hI hO Wf VW l1 l2 λx y g tk q1 q2 q3 q4 q5 q6 q7 q8 q9=>cY (hQ x y g tk q1 q2 q3 q4 q5 q6 q7 q8 q9)
def Ao{z TI TO i1 i2:Addr}{f1 f2:List Addr}{n1 n2 k:Nat}{P1 P2:Nat->Vl->Prop}{S1 S2:Nat->Heap->Prop}{a b:Vl}{Q:Option Vl->Sd->Prop}(D1:Draws prog w A.in1 i1 f1 n1 P1 S1)(D2:Draws prog w A.in1 i2 f2 n2 P2 S2)(VR:zj z TI TO i1 i2 f1 f2) (hz:IsZip s.heap z TI TO .none) (hI:IsPair s.heap TI (.ref i1) (.ref i2)) (hO:IsPair s.heap TO a b) (Wf:S1 k s.heap) (VW:S2 k s.heap) (YE:k=n1\/(k<n1/\k=n2)) (hQ:∀g tk,(∀c o,c≠z->c≠TO->c≠i1->c≠i2->s.heap.get? c=some o->g.get? c=some o)->Q none {s with heap:=g,toks:=tk}):wpAny (model prog w) A (pyNext (.ref z)) Q E s:=by
 have hT:s.TypeIs (.ref z) "zip":=⟨_,hz,rfl⟩;unfold pyNext;refine cR (km (fC (name:=Str.ofString "__next__") hT iH (fY iH hT lG (Kd D1 D2 VR hz hI hO Wf VW YE λg e kp hx tk=>?_) (lh _))));obtain⟨o,e1,e2⟩:=hx;exact cR (wpAny_isInstance (T:="StopIteration") (b:=true) ⟨o,e1,e2⟩ isSubtype_stop (cY (hQ g tk kp)))
def En{a b:Addr}{xs:List V}(I:Inv X Vw σ H s)(f:Aj X Vw H b)(q:ux X.K H a xs):a≠b:=by
 rintro rfl
 rcases q with q|⟨o,its,n,hk,_⟩
 .have z:=f.1;rcases q with q|⟨u,q⟩<;>(rw[q]at z;cases z)
 .have e:=I.mod.nX a o hk;rcases f.2.2.2.1 with z|z
  .exact I.ok.nA a o e z
  .exact absurd (dF (dq e) (dU I.ok.nJ z)) (eV _)
def Uq(K:pX)(a b:Addr):It:=
 ⟨λi H=>∃xs ys x y,ux K H a xs/\ux K H b ys/\xs[i]?=some x/\ys[i]?=some y,λi H v H'=>∃p x y,v=.ref p/\H p=none/\H'=upd H p (.tup [x,y])/\(∀xs,ux K H a xs->xs[i]?=some x)/\(∀ys,ux K H b ys->ys[i]?=some y),λi H=>∃xs ys,ux K H a xs/\ux K H b ys/\i=min xs.length ys.length⟩
def Ml{P:Pg}{w:Wo}{K:pX}{VX:List Expr}{n:Nat}{tp:Pos}(a b z TI TO i1 i2:Addr)(a1:TI≠z)(a2:TO≠z)(a3:i1≠z)(a4:i2≠z)(a5:TI≠TO)(a6:TI≠i1)(a7:TI≠i2)(a8:TO≠i1)(a9:TO≠i2)(oH:i1≠i2):
  Fx P w K (.Tuple VX n tp) (Uq K a b) [z,TI,TO,i1,i2] z (λi h=>IsZip h z TI TO .none/\IsPair h TI (.ref i1) (.ref i2)/\(∃u v,IsPair h TO u v)/\h.IsTupleIter i1 a i/\h.IsTupleIter i2 b i) where
 mem:=by simp
 obj:=λi h st c hc=>by
  obtain⟨h1,h2,⟨u,v,h3⟩,⟨o4,h4,_,d4⟩,⟨o5,h5,_,d5⟩⟩:=st;simp only[cZ,dz,eP]at hc;rcases hc with rfl|rfl|rfl|rfl|rfl
  .exact⟨_,h1,λv z=>by cases z⟩
  .exact⟨_,h2,λv z=>by cases z⟩
  .exact⟨_,h3,λv z=>by cases z⟩
  .exact⟨_,h4,λv z=>by rw[d4]at z;cases z⟩
  .exact⟨_,h5,λv z=>by rw[d5]at z;cases z⟩
 keep:=λi h h' st k=>by obtain⟨h1,h2,⟨u,v,h3⟩,⟨o4,h4,c4⟩,⟨o5,h5,c5⟩⟩:=st;exact⟨k z (by simp) _ h1,k TI (by simp) _ h2,⟨u,v,k TO (by simp) _ h3⟩,⟨o4,k i1 (by simp) _ h4,c4⟩,⟨o5,k i2 (by simp) _ h5,c5⟩⟩
 item:=by
  intro X hP hw hK hc i Vw s σ H E I hf st hg;subst hP hw hK;obtain⟨xs,ys,x,y,hx,hy,ex,ey⟩:=hg;obtain⟨its,rx,px,_⟩:=I.tuple hx;obtain⟨Xv,ry,py,_⟩:=I.tuple hy;obtain⟨u,eu,ru⟩:=rx.get ex;obtain⟨v,ev,rv⟩:=ry.get ey;obtain⟨h1,h2,⟨p,q,h3⟩,h4,h5⟩:=st;have hh:X.A.in1.handled=none:=I.ok.hd hc;have fa:∀c∈[z,TI,TO,i1,i2],a≠c:=λc hc=>En I (hf c hc) hx;have fb:∀c∈[z,TI,TO,i1,i2],b≠c:=λc hc=>En I (hf c hc) hy;have VR:zj z TI TO i1 i2 [i1,a] [i2,b]:=⟨a1,a2,a3,a4,a5,a6,a7,a8,a9,oH,by
   simp only[cZ,dz,eP,fB];exact⟨dG a3,dG (fa z (by simp))⟩,by
   simp only[cZ,dz,eP,fB];exact⟨a8,dG (fa TO (by simp))⟩,by
   simp only[cZ,dz,eP,fB];exact⟨dG oH,dG (fa i2 (by simp))⟩,by
   simp only[cZ,dz,eP,fB];exact⟨dG a4,dG (fb z (by simp))⟩,by
   simp only[cZ,dz,eP,fB];exact⟨a9,dG (fb TO (by simp))⟩,by
   simp only[cZ,dz,eP,fB];exact⟨oH,dG (fb i1 (by simp))⟩⟩
  have l1:i<its.toArray.size:=by
   have:=(cT.mp eu).1
   simpa using this
  have l2:i<Xv.toArray.size:=by
   have:=(cT.mp ev).1
   simpa using this
  refine FE (xA hh i1 a (fa i1 (by simp)) its.toArray) (xA hh i2 b (fb i2 (by simp)) Xv.toArray) VR h1 h2 h3 ⟨h4,px⟩ ⟨h5,py⟩ l1 l2 λx' y' g tk e1 e2 z1 o1 s1 s2 t1 sz kp=>?_;have e1':x'=u:=by
   have:its[i]?=some x':=by simpa using e1
   rw[eu]at this;exact(de this).symm
  have XM:y'=v:=by
   have:Xv[i]?=some y':=by simpa using e2
   rw[ev]at this;exact(de this).symm
  subst e1' XM;refine⟨_,rfl,wpAny_letOwnedTupleGo_zip z1 λg2 z2 sb=>?_⟩;have zlt:z<s.heap.objs.size:=dq h1;have kk:∀c o,c∉[z,TI,TO,i1,i2]->s.heap.get? c=some o->g2.get? c=some o:=λc o hc e=>by simp only[cZ,dz,eP,fB]at hc;exact(sb.2 c hc.1).trans (kp c o hc.1 hc.2.2.1 hc.2.2.2.1 hc.2.2.2.2 e)
  have t2:g2.get? s.heap.objs.size=some {cls:=.type "tuple",data:=.seq #[x',y']}:=(sb.2 _ (gH zlt)).trans t1;have XW:H s.heap.objs.size=none:=I.mE.fresh (c9 _);have I2:=I.drawn (ch:=[z,TI,TO,i1,i2]) (T:=s.heap.objs.size) (xs:=[x,y]) (its:=[x',y']) (h':=g2) (tk:=tk) hf kk (c9 _) (by show 2<=sizeLine;decide) (.cons ru (.cons rv .nil)) ⟨_,t2,rfl,⟨_,rfl⟩,rfl⟩;refine⟨.ref s.heap.objs.size,_,I2,rfl,⟨_,x,y,rfl,XW,rfl,λxs' hx'=>by rw[I.mQ hx' hx];exact ex,λys' hy'=>by rw[I.mQ hy' hy];exact ey⟩,?_,λc hc=>?_⟩
  .obtain⟨o4,g4,c4⟩:=s1.1;obtain⟨o5,g5,c5⟩:=s2.1;exact⟨z2,(sb.2 _ a1).trans (kp _ _ a1 a5 a6 a7 h2),⟨_,_,(sb.2 _ a2).trans o1⟩,⟨o4,(sb.2 _ a3).trans g4,c4⟩,⟨o5,(sb.2 _ a4).trans g5,c5⟩⟩
  .have n0:=(hf c hc).1;obtain⟨o,eo⟩:∃o,s.heap.get? c=some o:=by
    obtain⟨o4,g4,_⟩:=h4;obtain⟨o5,g5,_⟩:=h5;simp only[cZ,dz,eP]at hc;rcases hc with rfl|rfl|rfl|rfl|rfl
    .exact⟨_,h1⟩
    .exact⟨_,h2⟩
    .exact⟨_,h3⟩
    .exact⟨_,g4⟩
    .exact⟨_,g5⟩
   rw[pH (dE (dq eo))];exact n0
 done:=by
  intro X hP hw hK hc i Vw s σ H E I hf st hg;subst hP hw hK;obtain⟨xs,ys,hx,hy,hi⟩:=hg;obtain⟨its,rx,px,_⟩:=I.tuple hx;obtain⟨Xv,ry,py,_⟩:=I.tuple hy;obtain⟨h1,h2,⟨p,q,h3⟩,h4,h5⟩:=st;have hh:X.A.in1.handled=none:=I.ok.hd hc;have fa:∀c∈[z,TI,TO,i1,i2],a≠c:=λc hc=>En I (hf c hc) hx;have fb:∀c∈[z,TI,TO,i1,i2],b≠c:=λc hc=>En I (hf c hc) hy;have VR:zj z TI TO i1 i2 [i1,a] [i2,b]:=⟨a1,a2,a3,a4,a5,a6,a7,a8,a9,oH,by
   simp only[cZ,dz,eP,fB];exact⟨dG a3,dG (fa z (by simp))⟩,by
   simp only[cZ,dz,eP,fB];exact⟨a8,dG (fa TO (by simp))⟩,by
   simp only[cZ,dz,eP,fB];exact⟨dG oH,dG (fa i2 (by simp))⟩,by
   simp only[cZ,dz,eP,fB];exact⟨dG a4,dG (fb z (by simp))⟩,by
   simp only[cZ,dz,eP,fB];exact⟨a9,dG (fb TO (by simp))⟩,by
   simp only[cZ,dz,eP,fB];exact⟨oH,dG (fb i1 (by simp))⟩⟩
  have e1:=rx.length;have e2:=ry.length;refine Ao (xA hh i1 a (fa i1 (by simp)) its.toArray) (xA hh i2 b (fb i2 (by simp)) Xv.toArray) VR h1 h2 h3 ⟨h4,px⟩ ⟨h5,py⟩ (by simp only[dh];omega) λg tk kp=>⟨rfl,?_⟩;have kk:∀c o,c∉[z,TI,TO,i1,i2]->s.heap.get? c=some o->g.get? c=some o:=λc o hc e=>by simp only[cZ,dz,eP,fB]at hc;exact kp c o hc.1 hc.2.2.1 hc.2.2.2.1 hc.2.2.2.2 e
  refine I.step (g':=s.gens) (d':=s.drawn) (t':=tk) (ch:=[z,TI,TO,i1,i2]) (λc hc=>⟨(hf c hc).2.2.2.1,(hf c hc).2.1,(hf c hc).2.2.2.2.1,(hf c hc).2.2.2.2.2⟩) ?_ ?_ (λc o _ e n=>n) ?_ (λ_ _ e=>e) (λ_ _ _ e=>e) (λc ps e=>⟨#[],by rw[e];simp⟩) ?_ ?_ I.bare
  .exact λc o _ _ hc e _=>kk c o hc e
  .exact λc o _ _ hc e _=>⟨o.slots,kk c o hc e⟩
  .exact λc o hc e=>⟨o,kk c o hc e⟩
  .intro m hm;obtain⟨o,es,ep,ho,r⟩:=hm;exact⟨o,es,ep,kk _ o (λy=>(hf _ y).2.1 rfl) ho,r⟩
  .intro c u e;refine(I.mE c u e).mS (λd v hd q=>kk d v (λy=>?_) q) (λ_ q=>q) λ_ _ q=>q;have n:=(hf d y).1;rcases hd with x|x
   .rw[x,e]at n;cases n
   .rw[x]at n;cases n
 self:=λ_ _ _ _ _ st h=>lH st.1 h
def QA{a b:Expr}{ta:TA}(hg:Gl X "zip")(hm:X.mg "zip"=none)(ha:PA X [a,b] ta)(hs:starEach [a,b] X.env=[(false,eval a X.env),(false,eval b X.env)]:=by rfl)(Xe:starEach [b] X.env=[(false,eval b X.env)]:=by rfl):
  PI X (.Tuple VX n tp) (.Call (.Name "zip" p) [a,b] [] pos) (λσ H R=>ta σ H λvs H1=>∃l m,vs=[.ref l,.ref m]/\(∃xs,ux X.K H1 l xs)/\(∃xs,ux X.K H1 m xs)/\R (Uq X.K l m) H1):=by
 intro Vw s σ H R I h;refine Call_ (xT I hg hm RC (fR (rQ (ha pos Vw s σ H _ I h) λus s1 zz=>x5 zz λvs H1 I1 r1 q1=>?_) (by rw[hs,Xe]) (by rw[Xe];rfl)));obtain⟨l,m,e,⟨xs,hx⟩,⟨ys,hy⟩,q⟩:=q1;subst e;obtain⟨u,v,rfl,ru,rv⟩:=PN r1;cases ru;cases rv;obtain⟨its,_,px,_⟩:=I1.tuple hx;obtain⟨Xv,_,py,_⟩:=I1.tuple hy;refine EJ px py λg h1 h2 h3 h4 h5 hk=>lH h1 ?_;have I2:Inv X Vw σ H1 {s1 with heap:=g}:=I1.kept (t':=s1.toks) hk;refine⟨s1.heap.objs.size+4,[s1.heap.objs.size+4,s1.heap.objs.size+2,s1.heap.objs.size+3,s1.heap.objs.size,s1.heap.objs.size+1],_,_,H1,rfl,I2,Ml l m _ _ _ _ _ ?_ ?_ ?_ ?_ ?_ ?_ ?_ ?_ ?_ ?_,⟨h1,h2,⟨_,_,h3⟩,h4,h5⟩,λb hb=>?_,q⟩
 .exact λz=>by have z:s1.heap.objs.size+2=s1.heap.objs.size+4:=z;omega
 .exact λz=>by have z:s1.heap.objs.size+3=s1.heap.objs.size+4:=z;omega
 .exact λz=>by have z:s1.heap.objs.size=s1.heap.objs.size+4:=z;omega
 .exact λz=>by have z:s1.heap.objs.size+1=s1.heap.objs.size+4:=z;omega
 .exact λz=>by have z:s1.heap.objs.size+2=s1.heap.objs.size+3:=z;omega
 .exact λz=>by have z:s1.heap.objs.size+2=s1.heap.objs.size:=z;omega
 .exact λz=>by have z:s1.heap.objs.size+2=s1.heap.objs.size+1:=z;omega
 .exact λz=>by have z:s1.heap.objs.size+3=s1.heap.objs.size:=z;omega
 .exact λz=>by have z:s1.heap.objs.size+3=s1.heap.objs.size+1:=z;omega
 .exact λz=>by have z:s1.heap.objs.size=s1.heap.objs.size+1:=z;omega
 .have Wu:s1.heap.objs.size<=b:=by
   simp only[cZ,dz,eP]at hb;rcases hb with rfl|rfl|rfl|rfl|rfl
   .exact iw _ _
   .exact iw _ _
   .exact iw _ _
   .exact c9 _
   .exact iw _ _
  exact I1.nH Wu (I1.mE.fresh Wu)
def Ai:List D->List D->List D
 | x::a,y::b=>.tup [x,y]::Ai a b
 | _,_=>[]
theorem HG:∀{ds es:List D} {i:Nat},(Ai ds es)[i]?=(ds[i]?).bind λd=>(es[i]?).map λe=>D.tup [d,e]
 | [],es,i=>by simp[Ai]
 | d::ds,[],i=>by simp[Ai]
 | d::ds,e::es,0=>by simp[Ai]
 | d::ds,e::es,i+1=>by show(Ai ds es)[i]?=_;rw[HG];simp
theorem EL:∀{ds es:List D},(Ai ds es).length=min ds.length es.length
 | [],es=>by simp[Ai]
 | d::ds,[]=>by simp[Ai]
 | d::ds,e::es=>by show(Ai ds es).length+1=_;rw[EL];simp only[dW];omega
def Om{K:pX}{H1:Hp}{a b:Addr}{ds es:List D}{xs ys:List V}(h1:ux K H1 a xs)(h2:pP K H1 ds xs)(g1:ux K H1 b ys)(g2:pP K H1 es ys):F4 K H1 (Uq K a b) (Ai ds es) (λ_=>True) where
 go:=λi H M hi hm ok e1=>by rw[EL]at hi;obtain⟨x,ex,_⟩:=h2.get (cS (show i<ds.length by omega));obtain⟨y,ey,_⟩:=g2.get (cS (show i<es.length by omega));exact⟨xs,ys,x,y,e1.t _ _ h1,e1.t _ _ g1,ex,ey⟩
 om:=λi d H M v H' hd hm ok e1 y=>by
  obtain⟨p,x,z,rfl,hp,rfl,y1,y2⟩:=y;rw[HG]at hd;cases e:ds[i]? with
  | none=>rw[e]at hd;cases hd
  | some d'=>
   cases e':es[i]? with
   | none=>rw[e,e']at hd;cases hd
   | some d''=>rw[e,e']at hd;cases hd;obtain⟨x',q1,hx⟩:=h2.get e;obtain⟨z',q2,hz⟩:=g2.get e';have w1:=y1 xs (e1.t _ _ h1);have w2:=y2 ys (e1.t _ _ g1);rw[q1]at w1;rw[q2]at w2;have v1:x'=x:=de w1;have v2:z'=z:=de w2;subst v1 v2;have ex:qx K H (upd H p (.tup [x',z'])):=.new hp;exact⟨.tup (.of pM) (.cons (hx.mono (e1.trans ex)) (.cons (hz.mono (e1.trans ex)) .nil)),hm.add hp,ex⟩
 stop:=λH M hm ok e1=>⟨xs,ys,e1.t _ _ h1,e1.t _ _ g1,by rw[EL,h2.length,g2.length]⟩
def Tq(t:wN):MC:=λδ M R=>t δ M λds M1=>match ds with
 | [.tup a,.tup b]=>R (Ai a b) (λ_=>True) M1
 | _=>False
def Rf{a b:Expr}{ta:wN}(hg:Gl X "zip")(hm:X.mg "zip"=none)(ha:A3 X [a,b] ta)(hs:starEach [a,b] X.env=[(false,eval a X.env),(false,eval b X.env)]:=by rfl)(Xe:starEach [b] X.env=[(false,eval b X.env)]:=by rfl):
  I3 X (.Tuple VX n tp) (.Call (.Name "zip" p) [a,b] [] pos) (Tq ta):=
 PI.mono (QA hg hm ha hs Xe) λσ H R' zz=>x7 zz λδ M R hs hm ht k=>⟨δ,M,_,hs,hm,ht,λvs H1 ds M1 hd Vy e1 q1=>by
  split at q1
  .obtain⟨v,u,rfl,hv,hw⟩:=Il hd;obtain⟨l,xs,rfl,h1,h2⟩:=hv.mC;obtain⟨m,ys,rfl,g1,g2⟩:=hw.mC;exact⟨l,m,rfl,⟨xs,h1⟩,⟨ys,g1⟩,k _ H1 _ _ M1 (Om h1 h2 g1 g2) Vy e1 trivial q1⟩
  .exact q1.elim⟩
def pY(M M':Mp):Prop:=∀a c,M a=some c->M' a=some c
def pY.refl{M:Mp}:pY M M:=λ_ _ h=>h
def pY.trans{M M1 M2:Mp}(a:pY M M1)(b:pY M1 M2):pY M M2:=λx c h=>b x c (a x c h)
def pY.new{M:Mp}{p:Addr}{c:uA}(h:M p=none):pY M (oU M p c):=λx d q=>by rw[tI (PJ q h)];exact q
def pY.lst{M M':Mp}{a:Addr}{ds:List D}(s:pY M M')(h:oA M a=some ds):oA M' a=some ds:=by
 unfold oA at h ⊢;cases e:M a with
 | none=>rw[e]at h;cases h
 | some c=>rw[s a c e];rw[e]at h;exact h
def HM.sub{K:pX}{H:Hp}{M M':Mp}(h:HM K H M')(s:pY M M'):HM K H M:=λa c q=>h a c (s a c q)
def SM{x qual:Str}{st:Stmt}{f:Addr}{fd:FuncData}{N ps:List Str}{k:Nat}{sp:qJ}(F:OS K x qual st f fd)(S:se N ps (pL st))(len:∀ds M Q,sp ds M Q->ds.length=ps.length) (VT:∀(VG:Vl) (A:Ar) (outer:List Env) (s:Sd) (H:Hp) (E:XK),rC k (A.deeper (envOfC qual (pL st) s.heap.objs.size f VG))->
   ∃t,GH (uE MI P w K mg base N qual (pL st) f VG A outer s H E).nZ (rj st) t/\∀ds M Q,sp ds M Q->t {nx:=λ_ M'=>∃Vz,pY Vz M'/\Q .mz Vz,rt:=λd M'=>∃Vz,pY Vz M'/\Q d Vz} (wq N ds) M):RK P w K mg base (k+1) f fd ps sp:=by
 refine F.ok S (λvs H Q E h=>?_) (λVG A outer s H vs Q' E hr h=>?_)
 .obtain⟨ds,M,Q,hd,_,hs,_⟩:=h;rw[<-hd.length];exact len ds M Q hs
 .obtain⟨ds,M,Q,hd,hm,hs,k⟩:=h;obtain⟨t,ht,hb⟩:=VT VG A outer s H E hr;exact⟨_,ht,wq N ds,M,_,CW hd,hm,hb ds M Q hs,λσ' H' δ' M' _ x2 x3 _ ⟨Vz,y1,y2⟩=>k .mz H' .mz Vz .mz (x2.sub y1) x3 y2,λv H' d M' x1 x2 x3 ⟨Vz,y1,y2⟩=>k v H' d Vz x1 (x2.sub y1) x3 y2,λ_ _ _ _ _ _ _ _ z=>z,λ_ _ _ _ _ _ _ _ z=>z⟩
theorem A5{g:B1}{te:T3}{ok:Mp->Prop}{Q:DK}{f:D->D}{M:Mp}(J:uB->Prop)(mE:ok M):∀(ds acc:List D) (δ:uB),J δ->acc.length+ds.length<=sizeLine->
  (∀d∈ds,∀δ,J δ->∀k:uB->DK,(∀δ',J δ'->k δ' (f d) M)->g d δ M λδ2 M2=>te δ2 M2 (k δ2))->(∀p,M p=none->Q (.ref p) (oU M p (.lst (acc++ds.map f))))->uo g AO te ok Q ds acc δ M
 | [],acc,δ,_,hl,_,hq=>⟨by simpa using hl,by simpa using hq⟩
 | d::r,acc,δ,hj,hl,ht,hq=>by
  rw[dW]at hl;refine⟨by omega,?_⟩;refine ht d dH δ hj (λδ2 y M4=>ok M4/\uo g AO te ok Q r (acc++[y]) δ2 M4) λδ' hj'=>⟨mE,A5 (f:=f) J mE r (acc++[f d]) δ' hj' ?_ (λe he=>ht e (dA _ he)) ?_⟩
  .rw[cU,dN];omega
  .simpa using hq
def qy{i:Nat}{te:T3}{ok:Mp->Prop}{Q:DK}{f:D->D}{M:Mp}(mE:ok M):∀(ds acc:List D) (δ:uB),acc.length+ds.length<=sizeLine->(∀d∈ds,∀k:DK,k (f d) M->te (δ.set i (some d)) M k)->
  (∀p,M p=none->Q (.ref p) (oU M p (.lst (acc++ds.map f))))->uo (tN i) AO te ok Q ds acc δ M:=λds acc δ hl ht hq=>
 A5 (f:=f) (λδ'=>∀d,δ'.set i (some d)=δ.set i (some d)) mE ds acc δ (λ_=>rfl) hl (λd hd δ' hj k hk=>by
  show te (δ'.set i (some d)) M (k (δ'.set i (some d)));rw[hj d];exact ht d hd _ (hk _ λe=>by rw[iI])) hq
theorem wm{α:Type}(f:α->Bool):∀l:List α,Fk (l.map λx=>D.bl (f x))=some (l.map f)
 | []=>rfl
 | x::r=>by show(Fk (r.map λx=>D.bl (f x))).map (f x::·)=_;rw[wm f r];rfl
def oS{M:Mp}{p:Addr}{ds:List D}:oA (oU M p (.lst ds)) p=some ds:=by unfold oA;rw[pA]
def i'{α:Type}{o:Option α}{P:α->Prop}{x:α}(e:o=some x)(h:P x):o.elim False P:=by rw[e];exact h
def oG{l:List D}(h:decide (l.length<=100)=true):l.length<=sizeLine:=by have z:=dI;have:=fK h;omega
theorem Ax{g:B1}{tb:xq}{ok:Mp->Prop}{E:FZ}(J:uB->Mp->Prop)(mE:∀δ M,J δ M->ok M):∀(ds:List D) (δ:uB) (M:Mp),J δ M->
  (∀d∈ds,∀δ M,J δ M->∀nx:uB->Mp->Prop,(∀δ' M',J δ' M'->nx δ' M')->g d δ M λδ2 M2=>tb {E with nx:=nx,ct:=nx,bk:=E.nx} δ2 M2)->(∀δ M,J δ M->E.nx δ M)->EG g tb ok E ds δ M
 | [],δ,M,j,_,hn=>hn δ M j
 | d::r,δ,M,j,ht,hn=>ht d dH δ M j (λδ' M'=>ok M'/\EG g tb ok E r δ' M') λδ' M' j'=>⟨mE δ' M' j',Ax J mE r δ' M' j' (λe he=>ht e (dA _ he)) hn⟩
theorem uP{g:B1}{tb:xq}{ok:Mp->Prop}{E:FZ}(all:List D)(J:List D->uB->Mp->Prop)(mE:∀p δ M,J p δ M->ok M):∀(ds pre:List D) (δ:uB) (M:Mp),pre++ds=all->J pre δ M->
  (∀pre d post,pre++d::post=all->∀δ M,J pre δ M->∀nx:uB->Mp->Prop,(∀δ' M',J (pre++[d]) δ' M'->nx δ' M')->g d δ M λδ2 M2=>tb {E with nx:=nx,ct:=nx,bk:=E.nx} δ2 M2)->(∀δ M,J all δ M->E.nx δ M)->EG g tb ok E ds δ M
 | [],pre,δ,M,e,j,_,hn=>hn δ M (by rw[<-e,eR];exact j)
 | d::r,pre,δ,M,e,j,ht,hn=>ht pre d r e δ M j (λδ' M'=>ok M'/\EG g tb ok E r δ' M') λδ' M' j'=>⟨mE _ δ' M' j',uP all J mE r (pre++[d]) δ' M' (by rw[<-e,e9];rfl) j' ht hn⟩
def LI{c:Bool}{A B:Prop}(h:c=false)(hb:B):if c=true then A else B:=by subst h;exact xJ hb
def wU{c:Bool}{A B:Prop}(h:c=true)(ha:A):if c=true then A else B:=by subst h;exact Dv ha
def RP{t u:xq}{E:FZ}{δ:uB}{M:Mp}(R:uB->Mp->Prop)(h2:∀nx:uB->Mp->Prop,(∀δ' M',R δ' M'->nx δ' M')->t {E with nx:=nx} δ M)(h1:∀δ' M',R δ' M'->u E δ' M'):tW t u E δ M:=h2 (u E) h1
def Si{K:pX}{H:Hp}{a:Addr}{ns:List Int}(hO:KZ H)(hS:yo K H a (ns.map V.int)):rm K H (.rl (ns.map D.int)) (.ref a):=by
 have r:Os K H a (ns.map V.int):=by
  rcases hS with h|h
  .rcases h with h|⟨o,h⟩
   .rcases hO a with z|⟨o,xs,z⟩<;>(rw[h]at z;cases z)
   .exact .inl ⟨o,h⟩
  .exact .inr h
 unfold rm;exact⟨a,_,rfl,r,.ints⟩
def Qf{K:pX}{sp:qJ}{H:Hp}{a:Addr}{ns:List Int}(hO:KZ H)(hS:yo K H a (ns.map V.int))(h:sp [.rl (ns.map D.int)] (λ_=>none) λd _=>d=.bl true):MB K sp [.ref a] H (λv _=>v=.bl true) λ_ _ _=>False:=
 ⟨_,λ_=>none,_,.cons (Si hO hS) .nil,λ_ _ z=>(by cases z),h,λv H' d M' x1 _ _ x4=>by subst x4;exact x1.mw⟩
def Kq{l:W.OpenLaw}{q:Pg}{Wr:List Str}{XP:(Str->Option Vl)->Heap->Prop}{YP:Wo->Heap->Prop}{d:DefRec}{K:Params->pX}{k:Nat}{x:Str}{sp:qJ}(hn:l.most=some 63)(X8:d.params.defaults=[])(hr:rC k callerA) (hY:∀(w:Wo) (h:Heap),YP w h->(K w.params).In h) (W2:∀ns:List Int,ns.length<=63->sp [.rl (ns.map D.int)] (λ_=>none) λd _=>d=.bl true) (F:∀(w:Wo) (mg:Str->Option Vl) (fa:Addr) (h:Heap),(K w.params).In h->h.Ns mainGlobals mg->mg d.name=some (.ref fa)->
   ∃fd:FuncData,(∀(s:Sd) (u:Vl),BindsTo s fd ⟨[u],[]⟩ [(x,u)])/\∀base:Heap,(K w.params).In base->base.Ns mainGlobals mg->RK l.prog w (K w.params) mg base k fa fd [x] sp):
  W.WalkO q Wr XP YP l.row.toRowW d [] (λf vs=>PySem.call f vs):=
 L2.OY (n:=63) (k:=k) (x:=x) (CX:=λ_=>MI) (sp:=λw=>MB (K w.params) sp) hn (by decide) X8 hr hY F (λ_ _ a ns hl hO hS=>Qf hO hS (W2 ns hl)) λ_ _ _ _ _ z=>z
def KD(K:pX)(mg:Str->Option Vl)(x:Str)(d:D):Prop:=Ay λv u=>mg x=some u/\qm v u/\∀H,rm K H d v
def P7{K:pX}{mg:Str->Option Vl}{x y:Str}{t:Tok}(h:mg x=some (.str y t)):KD K mg x (.str y):=⟨.str y,_,h,⟨t,rfl⟩,λ_=>.str⟩
def vp{K:pX}{mg:Str->Option Vl}{x:Str}{y:Int}{t:Tok}(h:mg x=some (.int y t)):KD K mg x (.int y):=⟨.int y,_,h,⟨t,rfl⟩,λ_=>.int⟩
def tO{K:pX}{a:Addr}{ss:List Str}{us:List Vl}{n:Nat}{sl:Array (Option Vl)}(h:K.lookup a=some ⟨.type "tuple",none,.seq us.toArray n,sl⟩)(r:qc (ss.map V.str) us)(hz:us.length<=1000):ux K (λ_=>none) a (ss.map V.str):=
 .inr ⟨_,us.toArray,n,h,rfl,rfl,rfl,by rw[dh,dI];omega,by simpa using r⟩
theorem zA{K:pX}{H:Hp}:∀{ss:List Str},pP K H (ss.map D.str) (ss.map V.str)
 | []=>.nil
 | _::_=>.cons .str zA
def Oi{K:pX}{mg:Str->Option Vl}{x:Str}{a:Addr}{ss:List Str}(h:mg x=some (.ref a))(q:ux K (λ_=>none) a (ss.map V.str)):KD K mg x (.tup (ss.map D.str)):=
 ⟨.ref a,_,h,rfl,λ_=>.tup (HF q) zA⟩
variable {d:D}{i:Expr}{td tk:T3}{F:List (Str × List Str)}
def rV(hg:Gl X x)(h:KD X.K X.mg x d)(hd:yX x:=by decide):E3 X (.Name x pos) (c3 d):=by obtain⟨v,u,hm,r,hh⟩:=h;exact PE.mono (Ed hg hm r hd) λσ H Q' zz=>x7 zz λδ M Q hs hm ht k=>k _ H _ M (hh H) hm .refl ht
def UK(F:List (Str×List Str))(ta:T3):T3:=λδ M Q=>ta δ M λx M1=>match x with|.str k=>Q (.bl (KTD.datumAt k F).isSome) M1|_=>False
def Tg(F:List (Str×List Str))(ta:T3):T3:=λδ M Q=>ta δ M λx M1=>match x with|.str k=>(KTD.datumAt k F).elim False λss=>Q (.tup (ss.map D.str)) M1|_=>False
def KB(T:KA X.K X.mg x F)(hg:Gl X x)(he:E3 X e ta)(hd:yX x:=by decide)(hmk:behindInMarks .In (.Name x p)=false:=by rfl):E3 X (.Compare e [.In] [.Name x p] pos) (UK F ta):=by
 obtain⟨a,hm,T⟩:=FC T;refine PE.mono (HQ (r:=λy z H Q=>∃k,y=.str k/\z=.ref a/\Q (.bl (KTD.datumAt k F).isSome) H) (λVw s σ H y z v u Q I ry rz ⟨k,e1,e2,q⟩=>?_) he (Ed (v:=.ref a) hg hm rfl hd) hmk) λσ H Q' zz=>x7 zz λδ M Q hs hm ht k=>⟨δ,M,_,hs,hm,ht,λv H1 d M1 hd Vy e1 q1=>?_⟩
 .subst e1 e2;obtain⟨t,rfl⟩:=ry;obtain rfl:u=Value.ref a:=rz;exact RE (T s.heap I.mV) ⟨.bl (KTD.datumAt k F).isSome,H,I.tok _,rfl,q⟩
 .cases d with
  | str k'=>exact⟨k',hd.str_inv,rfl,k _ _ _ _ .bl Vy e1 q1⟩
  | _=>exact q1.elim
def JN(T:KA X.K X.mg x F)(hg:Gl X x)(he:E3 X e ta)(hd:yX x:=by decide)(hs:AA e:=by exact λ_ _=>rfl):E3 X (.Subscript (.Name x p) e pos) (Tg F ta):=by
 obtain⟨a,hm,T⟩:=FC T;refine PE.mono (LH (r:=λz y H Q=>∃k ss,y=.str k/\z=.ref a/\KTD.datumAt k F=some ss/\∀t,ux X.K H t (ss.map V.str)->Q (.ref t) H) (λvalue VJ Vw s σ H z y o i Q I rz ry ⟨k,ss,e1,e2,e3,q⟩ hs=>?_) (Ed (v:=.ref a) hg hm rfl hd) he hs) λσ H Q' zz=>x7 zz λδ M Q hs hm ht k=>⟨δ,M,_,hs,hm,ht,λv H1 d M1 hd Vy e1 q1=>?_⟩
 .subst e1 e2;obtain⟨t,rfl⟩:=ry;obtain rfl:o=Value.ref a:=rz;have hT:=ym (s:=s) (T s.heap I.mV);have h2:wpAny (model X.prog X.w) X.A (getItem (.ref a) (.str k t)) (EP X Vw σ Q) X.xe s:=Mb (T s.heap I.mV) e3 λv ⟨t',e4,q4⟩=>⟨.ref t',H,I.tok _,e4,q t' (HF q4)⟩;unfold subscriptTail;refine cR ?_;rw[jZ hT.not_modules];refine cR (iF hT jo.lookup ?_);have VB:wpAny (model X.prog X.w) X.A (subscripted VJ false (.ref a) (.str k t)) (λr s₃=>wpAny (model X.prog X.w) X.A (letTemporaryGo value (.ref a) r>>=λ_=>pure r) (EP X Vw σ Q) X.xe s₃) X.xe s:=by rw[hs];exact wpAny_operating (dZ h2 (λr s₃ h₃=>cR (kc (cY h₃))) λ_ _ x=>x)
  first
   | exact cY (cR VB)
   | exact cR (cY (cR VB))
   | exact cR VB
 .cases d with
  | str k'=>obtain⟨ss,e4,q2⟩:=qF q1;exact⟨k',ss,hd.str_inv,rfl,e4,λt qt=>k _ _ _ _ (.tup qt zA) Vy e1 q2⟩
  | _=>exact q1.elim
def zc(M:Mp)(a:Addr):Option (List (qE×D)):=match M a with
 | some (.dk kvs)=>some kvs
 | _=>none
def uS(kvs:List (qE×D))(k:qE):Option D:=(kvs.find? λp=>decide (p.1=k)).map (·.2)
def BS{K:pX}{H:Hp}{M:Mp}{a:Addr}{kvs:List (qE×D)}(hm:HM K H M)(h:zc M a=some kvs):∃vs,H a=some (.dK vs)/\vs.map (·.1)=kvs.map (·.1)/\pP K H (kvs.map (·.2)) (vs.map (·.2)):=by
 unfold zc at h;cases e:M a with
 | none=>rw[e]at h;cases h
 | some c=>
  rw[e]at h;have ok:=hm a c e;cases c with
  | dk es=>cases h;exact ok
  | ins _ _=>cases h
  | lst _=>cases h
  | exc _=>cases h
theorem Ee{K:pX}{H:Hp}{k:qE}:∀{kvs:List (qE×D)} {vs:List (qE×V)},vs.map (·.1)=kvs.map (·.1)->pP K H (kvs.map (·.2)) (vs.map (·.2))->(∀d,uS kvs k=some d->∃v,we vs k=some v/\rm K H d v)/\(uS kvs k=none->we vs k=none)
 | [],[],_,_=>⟨λd z=>(by cases z),λ_=>rfl⟩
 | [],_::_,e,_=>by cases e
 | _::_,[],e,_=>by cases e
 | (j,d)::kvs,(j',v)::vs,e,h=>by
  have e1:j'=j:=by simpa using(gL e).1
  subst e1;obtain⟨x,r,e2,h1,h2⟩:=h.inv;obtain⟨e3,e4⟩:=gL e2;subst e3 e4;have ih:=Ee (k:=k) (kvs:=kvs) (vs:=vs) (gL e).2 h2;by_cases hk:j'=k
  .have g:uS ((j',d)::kvs) k=some d:=by simp[uS,hk]
   have g':we ((j',v)::vs) k=some v:=by simp[we,hk]
   rw[g,g'];exact⟨λd' z=>by cases z;exact⟨v,rfl,h1⟩,λz=>by cases z⟩
  .have g:uS ((j',d)::kvs) k=uS kvs k:=by simp[uS,hk]
   have g':we ((j',v)::vs) k=we vs k:=by simp[we,hk]
   rw[g,g'];exact ih
def Kg(x y:D)(M:Mp)(Q:DK):Prop:=match x,y with
 | .ref a,.str k=>(zc M a).elim False λkvs=>(uS kvs (.inr k)).elim False λd=>Q d M
 | _,_=>False
def SN(td tk:T3):T3:=λδ M Q=>td δ M λx M1=>tk δ M1 λy M2=>Kg x y M2 Q
def yU(hu:X.A.units+9<cLine)(ho:E3 X o td)(hi:E3 X i tk)(hs:AA i:=by exact λ_ _=>rfl):E3 X (.Subscript o i pos) (SN td tk):=by
 refine PE.mono (LH (r:=R3 X.K Kg) (λvalue VJ Vw s σ H vx vy v u Q' I rx ry h hs=>?_) ho hi hs) Hb;obtain⟨x,y,M,Q,hx,hy,hm,q,k⟩:=h;unfold Kg at q;split at q
 .rename_i a0 k0;obtain⟨kvs,e1,q⟩:=qF q;obtain⟨d,e2,q⟩:=qF q;cases hx.mq;cases hy.str_inv;obtain⟨vs,h1,h2,h3⟩:=BS hm e1;obtain⟨w,e3,hw⟩:=(Ee h2 h3).1 d e2;refine N0 (by omega) value VJ Vw s σ H _ _ v u Q' I rx ry ⟨_,w,rfl,?_,k _ _ _ _ hw hm .refl q⟩ hs;have g:=DZ.k (k:=Sum.inr k0) h1;rw[e3]at g;exact g
 .exact q.elim
def PU(Xa:Bool)(x y:D)(M:Mp)(Q:DK):Prop:=match x,y with
 | .str k,.ref a=>(zc M a).elim False λkvs=>Q (.bl (if Xa then !(uS kvs (.inr k)).isSome else(uS kvs (.inr k)).isSome)) M
 | _,_=>False
def K1{K:pX}{H:Hp}{k:qE}{kvs:List (qE×D)}{vs:List (qE×V)}(h2:vs.map (·.1)=kvs.map (·.1))(h3:pP K H (kvs.map (·.2)) (vs.map (·.2))):(we vs k).isSome=(uS kvs k).isSome:=by
 obtain⟨a,b⟩:=Ee (k:=k) h2 h3;cases e:uS kvs k with
 | none=>rw[b e];rfl
 | some d=>obtain⟨v,e3,_⟩:=a d e;rw[e3];rfl
def T9(Xa:Bool)(tk td:T3):T3:=λδ M Q=>tk δ M λx M1=>td δ M1 λy M2=>PU Xa x y M2 Q
def R8(hu:X.A.units+9<cLine):wO X (compareOp .In) (R3 X.K (PU false)):=λVw s σ H vx vy v u Q' I rx ry h=>by
 obtain⟨x,y,M,Q,hx,hy,hm,q,k⟩:=h;unfold PU at q;split at q
 .obtain⟨kvs,e1,q⟩:=qF q;cases hy.mq;cases hx.str_inv;obtain⟨vs,h1,h2,h3⟩:=BS hm e1;refine QN (by omega) Vw s σ H _ _ v u Q' I rx ry ⟨_,_,rfl,DZ.k (k:=Sum.inr _) h1,?_⟩;rw[K1 h2 h3];exact k _ _ _ _ .bl hm .refl q
 .exact q.elim
def L6(hu:X.A.units+9<cLine)(hi:E3 X i tk)(ho:E3 X o td)(hm:behindInMarks .In o=false:=by first|exact Gi _|with_unfolding_all rfl):B3 X (.Compare i [.In] [o] pos) (b3 (T9 false tk td)):=PT.mono (Hy (R8 hu) hi ho hm) λσ H Q' zz=>x7 zz λδ M Q hs hm ht k=>
 Hb σ H _ ⟨δ,M,_,hs,hm,ht,λv H1 d M1 hd Vy e1 q1=>by
  cases d with
  | bl c=>exact⟨c,hd.mw,k c H1 M1 Vy e1 q1⟩
  | _=>exact q1.elim⟩
def vP:List D->Option (List (qE×D))
 | []=>some []
 | .tup [.str k,d]::r=>(vP r).map ((.inr k,d)::·)
 | _::_=>none
theorem CN{K:pX}{H:Hp}:∀{es:List D} {kvs:List (qE×D)} {xs:List V},vP es=some kvs->pP K H es xs->∃(ts:List Addr) (vs:List (qE×V)),xs=ts.map V.ref/\ts.length=vs.length/\vs.map (·.1)=kvs.map (·.1)/\pP K H (kvs.map (·.2)) (vs.map (·.2))/\
  ∀(j:Nat) (t:Addr) (p:qE×V),ts[j]?=some t->vs[j]?=some p->ux K H t [kV p.1,p.2]
 | [],_,_,e,h=>by cases e;exact⟨[],[],h.nil_inv,rfl,rfl,.nil,λj t p z=>by simp at z⟩
 | d::es,kvs,xs,e,h=>by
  obtain⟨x,r,rfl,h1,h2⟩:=h.inv;unfold vP at e;split at e
  .rename_i z;cases z
  .rename_i k d' r' z;cases z;cases q:vP es with
   | none=>rw[q]at e;cases e
   | some kvs'=>
    rw[q]at e;cases e;obtain⟨ts,vs,e1,e2,e3,e4,e5⟩:=CN q h2;obtain⟨a,ys,rfl,g1,g2⟩:=h1.mC;obtain⟨y,r1,rfl,g3,g4⟩:=g2.inv;obtain⟨w,r2,rfl,g5,g6⟩:=g4.inv;cases g6.nil_inv;cases g3.str_inv;refine⟨a::ts,(.inr k,w)::vs,by rw[e1];rfl,by simpa using e2,by rw[dQ,dQ,e3],.cons g5 e4,λj t p z1 z2=>?_⟩;cases j with
    | zero=>
     have z1':a=t:=by simpa using z1
     have z2':(Sum.inr k,w)=p:=by simpa using z2
     subst z1' z2';exact g1
    | succ j=>exact e5 j t p (by simpa using z1) (by simpa using z2)
  .cases e
def Pf(ds:List D)(M:Mp)(Q:DK):Prop:=match ds with
 | [.ref a]=>(oA M a).elim False λes=>(vP es).elim False λkvs=>(kvs.map (·.1)).Nodup/\∀p,M p=none->Q (.ref p) (oU M p (.dk kvs))
 | _=>False
def DW(hc:X.calm=true):C3 X (.type "dict") Pf:=by
 intro Vw s σ H vs us Q' I rv h;obtain⟨ds,M,Q,hd,hm,q,k⟩:=h;unfold Pf at q;split at q
 .obtain⟨es,e1,q⟩:=qF q;obtain⟨kvs,e2,hnd,q⟩:=qF q;obtain⟨v,rfl,hv⟩:=rq hd;cases hv.mq;obtain⟨xs,h1,h2,_⟩:=pW hm e1;obtain⟨ts,ws,rfl,f2,f3,f4,f5⟩:=CN e2 h2;refine G2 hc Vw s σ H _ us Q' I rv ⟨_,ts,ws,rfl,h1,f2,f5,by rw[f3];exact hnd,λd hd=>?_⟩;have e:qx X.K H (upd H d (.dK ws)):=.new hd;exact k _ _ _ _ .ref (hm.new (c:=.dk kvs) hd ⟨_,pM,f3,f4.mono e⟩) e (q d (hm.fresh hd))
 .exact q.elim
def Lc:bootBuiltins "set"=some (.type "set"):=by decide+kernel
def BN:List D->Option (List Str)
 | []=>some []
 | .str x::r=>(BN r).map (x::·)
 | _::_=>none
theorem yN:∀ss:List Str,BN (ss.map D.str)=some ss
 | []=>rfl
 | x::r=>by show(BN (r.map D.str)).map (x::·)=_;rw[yN r];rfl
theorem F9{K:pX}{H:Hp}:∀{ds:List D} {ss:List Str} {xs:List V},BN ds=some ss->pP K H ds xs->xs=ss.map V.str
 | [],_,_,e,h=>by cases e;exact h.nil_inv
 | d::ds,_,_,e,h=>by
  obtain⟨x,r,rfl,h1,h2⟩:=h.inv;cases d with
  | str z=>
   unfold BN at e;cases q:BN ds with
   | none=>rw[q]at e;cases e
   | some ss=>rw[q]at e;cases e;rw[h1.str_inv,F9 q h2];rfl
  | _=>cases e
def Tv(ta:T3):T3:=λδ M Q=>ta δ M λx M1=>(J7 M1 x).elim False λes=>(BN es).elim False λss=>ss.length<4000/\Q (.int (rZ ss).length) M1
def C0{p2 Xm:Pos}(hc:X.calm=true)(he:E3 X e ta)(hg1:Gl X "len")(Vy:X.mg "len"=none)(hg2:Gl X "set")(VO:X.mg "set"=none)(b1:bootBuiltins "len"=some (.builtin "len"))(b2:bootBuiltins "set"=some (.type "set")) (hs:starEach [e] X.env=[(false,eval e X.env)]:=by rfl):E3 X (.Call (.Name "len" p) [.Call (.Name "set" p2) [e] [] Xm] [] pos) (Tv ta):=
 PE.mono (Jz hc he hg1 Vy hg2 VO b1 b2 hs) λσ H Q' zz=>x7 zz λδ M Q hs hm ht k=>⟨δ,M,_,hs,hm,ht,λv H1 d M1 hd Vy e1 q1=>by
  obtain⟨es,e2,q1⟩:=qF q1;obtain⟨ss,e3,hz,q1⟩:=qF q1;obtain⟨a,xs,rfl,h1,h2⟩:=DN Vy hd e2;rw[F9 e3 h2]at h1;have z:scanBound=4096:=rfl;exact⟨a,ss,rfl,h1,by omega,k _ _ _ _ .int Vy e1 q1⟩⟩
def P3(x:D)(ds:List D)(M:Mp)(Q:DK):Prop:=match x,ds with
 | .ref a,[y]=>(oA M a).elim False λes=>es.length<sizeLine/\Q .mz (oU M a (.lst (es++[y])))
 | _,_=>False
def pS{M:Mp}{a:Addr}{es:List D}(h:oA M a=some es):M a=some (.lst es):=by
 unfold oA at h;split at h
 .rename_i e;rw[e];cases h;rfl
 .cases h
def DU{K:pX}{H:Hp}{M:Mp}{a:Addr}{es:List D}(hm:HM K H M)(h:oA M a=some es):∃xs,H a=some (.lst xs)/\pP K H es xs:=hm a _ (pS h)
def Jq:M3 X "list.append" P3:=by
 intro Vw s σ H vx vs v us Q' I rx rv h;obtain⟨x,ds,M,Q,hx,hd,hm,q,k⟩:=h;unfold P3 at q;split at q
 .obtain⟨es,e1,hz,q⟩:=qF q;obtain⟨w,rfl,hw⟩:=rq hd;cases hx.mq;obtain⟨xs,h1,h2⟩:=DU hm e1;refine Jh Vw s σ H _ _ v us Q' I rx rv ⟨_,xs,w,rfl,rfl,h1,by rw[<-h2.length];exact hz,?_⟩;obtain⟨VO,ex⟩:=hm.put (c:=.lst (es++[_])) (pS e1) λex=>⟨_,pM,(h2.mono ex).snoc (hw.mono ex)⟩;exact k _ _ _ _ .mz VO ex q
 .exact q.elim
def rk(ho:E3 X o ta)(ha:A3 X (e::es) t)(VU:attributeBase o "append" X.env (eval o X.env)=eval o X.env:=by rfl)
  (WP:((backTo pos (starEach (e::es) X.env)).all (λx=>!x.1)&&(backToKw pos (keywordEach [] X.env)).all (λx=>x.1.isSome)&&decide ((e::es).length+([]:List Keyword).length+(if ([]:List Keyword).isEmpty then 0 else 1)<30))=true:=by rfl)
  (Wa:(VA.endLine==pos.line)=true:=by rfl) (hs:AB X e es:=by rfl) (VP:B0 X pos es:=by rfl):
  E3 X (.Call (.Attribute o "append" VA) (e::es) [] pos) (Ub P3 ta t):=Pp PySem.F.slot_list_append PySem.F.type_list_append Jq ho ha VU WP Wa hs VP
def pY.none{M M2:Mp}{q:Addr}(s:pY M M2)(h:M2 q=none):M q=none:=by
 cases e:M q with
 | none=>rfl
 | some c=>rw[s q c e]at h;cases h
def pY.upd{M M2:Mp}{q:Addr}{c:uA}(s:pY M M2):pY (oU M q c) (oU M2 q c):=λx d h=>by
 by_cases e:x=q
 .subst e;rw[pA]at h ⊢;exact h
 .rw[tI e]at h ⊢;exact s x d h
def pY.dk{M M':Mp}{a:Addr}{ds:List (qE×D)}(s:pY M M')(h:zc M a=some ds):zc M' a=some ds:=by
 unfold zc at h ⊢;cases e:M a with
 | none=>rw[e]at h;cases h
 | some c=>rw[s a c e];rw[e]at h;exact h
def rM(p:Addr)(M M':Mp):Prop:=∀b c,b≠p->M b=some c->M' b=some c
def pY.keep{M M':Mp}{p:Addr}(s:pY M M'):rM p M M':=λb c _ h=>s b c h
def rM.trans{M M1 M2:Mp}{p:Addr}(a:rM p M M1)(b:rM p M1 M2):rM p M M2:=λx c n h=>b x c n (a x c n h)
def rM.put{M:Mp}{p:Addr}{c:uA}:rM p M (oU M p c):=λb d n h=>by rw[tI n];exact h
def rM.lst{M M':Mp}{p a:Addr}{ds:List D}(k:rM p M M')(n:a≠p)(h:oA M a=some ds):oA M' a=some ds:=by have:=k a _ n (pS h);unfold oA;rw[this]
def rM.dk{M M':Mp}{p a:Addr}{ds:List (qE×D)}(k:rM p M M')(n:a≠p)(h:zc M a=some ds):zc M' a=some ds:=by
 unfold zc at h ⊢;cases e:M a with
 | none=>rw[e]at h;cases h
 | some c=>rw[k a c n e];rw[e]at h;exact h
def pD{M:Mp}{a p C:Addr}{ds:List D}{fs:List (Str×D)}(h:oA M a=some ds)(hp:M p=some (.ins C fs)):a≠p:=λz=>by subst z;rw[pS h]at hp;cases hp
def BB{M:Mp}{a p C:Addr}{ds:List (qE×D)}{fs:List (Str×D)}(h:zc M a=some ds)(hp:M p=some (.ins C fs)):a≠p:=λz=>by subst z;unfold zc at h;rw[hp]at h;cases h
def rY{M:Mp}{p:Addr}{ds:List D}(h:M p=some (.lst ds)):oA M p=some ds:=by unfold oA;rw[h]
def CZ{M:Mp}{p:Addr}{ds:List (qE×D)}(h:M p=some (.dk ds)):zc M p=some ds:=by unfold zc;rw[h]
def sd{N:Mp}{p q C:Addr}{fs fs':List (Str×D)}{c:uA}(hp:N p=some (.ins C fs))(hq:N q=none):
  q≠p/\oU N q c p=some (.ins C fs)/\rM p N (oU (oU N q c) p (.ins C fs'))/\oU (oU N q c) p (.ins C fs') q=some c/\oU (oU N q c) p (.ins C fs') p=some (.ins C fs'):=by
 have n:p≠q:=PJ hp hq;refine⟨dG n,by rw[tI n];exact hp,(pY.new hq).keep.trans .put,by rw[tI (dG n),pA],pA⟩
theorem EO{g:B1}{te:T3}{ok:Mp->Prop}{Q:DK}(all:List D)(J:List D->List D->uB->Mp->Prop)(mE:∀p acc δ M,J p acc δ M->ok M):∀(ds pre acc:List D) (δ:uB) (M:Mp),pre++ds=all->acc.length+ds.length<=sizeLine->J pre acc δ M->
  (∀pre d post,pre++d::post=all->∀acc δ M,J pre acc δ M->∀k:uB->DK,(∀δ2 y M4,J (pre++[d]) (acc++[y]) δ2 M4->k δ2 y M4)->g d δ M λδ2 M2=>te δ2 M2 (k δ2))->
  (∀acc δ M,J all acc δ M->∀p,M p=none->Q (.ref p) (oU M p (.lst acc)))->uo g AO te ok Q ds acc δ M
 | [],pre,acc,δ,M,e,hl,j,_,hq=>⟨by simpa using hl,hq acc δ M (by rw[<-e,eR];exact j)⟩
 | d::r,pre,acc,δ,M,e,hl,j,ht,hq=>by rw[dW]at hl;refine⟨by omega,?_⟩;refine ht pre d r e acc δ M j (λδ2 y M4=>ok M4/\uo g AO te ok Q r (acc++[y]) δ2 M4) λδ2 y M4 j'=>⟨mE _ _ _ _ j',EO all J mE r (pre++[d]) (acc++[y]) δ2 M4 (by rw[<-e,e9];rfl) ?_ j' ht hq⟩;rw[cU,dN];omega
def Qs(tc:zN)(tb:xq):xq:=λE δ M=>∃W:Nat->uB->Mp->Prop,(∃m,W m δ M)/\∀m δ M,W m δ M->
 tc δ M λb M1=>if b=true then tb {E with nx:=λδ' M'=>∃m',m'<m/\W m' δ' M',ct:=λδ' M'=>∃m',m'<m/\W m' δ' M',bk:=E.nx} δ M1 else E.nx δ M1
def L5{c:Expr}{body:List Stmt}{tc:zN}{tb:xq}(hp:PassesOwn (model X.prog X.w) X.A X.env X.xe)(hc:B3 X c tc)(hb:GH X body tb):S3 X (.While c body [] pos) (Qs tc tb):=
 PS.mono (K4 hp hc hb) λD' σ H ⟨δ,M,E,hs,hm,⟨W,⟨m0,w0⟩,turn⟩,k1,k2,k3,k4⟩=>by
 refine⟨λm σ' H'=>∃δ' M',yf X.K H' σ' δ'/\HM X.K H' M'/\qx X.K H H'/\σ'.length=σ.length/\W m δ' M',⟨m0,δ,M,hs,hm,.refl,rfl,w0⟩,?_⟩
 rintro m σ1 H1 ⟨δ1,M1,YB,Vy,e1,l1,w1⟩
 refine⟨δ1,M1,_,YB,Vy,turn m δ1 M1 w1,λb H2 M2 VO e2 q2=>?_⟩;cases b with
 | false=>rw[cV df]at q2 ⊢;exact k1 σ1 H2 δ1 M2 (YB.mono e2) VO (e1.trans e2) l1 q2
 | true=>
  rw[cX rfl]at q2 ⊢;refine⟨λσ' H'=>∃δ' M',yf X.K H' σ' δ'/\HM X.K H' M'/\qx X.K H H'/\σ'.length=σ.length/\∃m',m'<m/\W m' δ' M',?_,δ1,M2,_,YB.mono e2,VO,q2,?_,?_,?_,?_⟩
  .rintro σ' H' ⟨δ',M',a1,a2,a3,a4,m',lt,w⟩
   exact⟨m',lt,δ',M',a1,a2,a3,a4,w⟩
  .exact λσ' H' δ' M' y1 y2 y3 y4 y5=>⟨δ',M',y1,y2,e1.trans (e2.trans y3),by rw[y4,l1],y5⟩
  .exact λv H' d M' y1 y2 y3 y4=>k2 v H' d M' y1 y2 (e1.trans (e2.trans y3)) y4
  .exact λσ' H' δ' M' y1 y2 y3 y4 y5=>k1 σ' H' δ' M' y1 y2 (e1.trans (e2.trans y3)) (by rw[y4,l1]) y5
  .exact λσ' H' δ' M' y1 y2 y3 y4 y5=>⟨δ',M',y1,y2,e1.trans (e2.trans y3),by rw[y4,l1],y5⟩
def Qu(op:Operator)(x y:D):Option D:=match op,x,y with
 | .Add,.int i,.int j=>some (.int (i+j))
 | .Sub,.int i,.int j=>some (.int (i - j))
 | _,_,_=>none
def QV(op:Operator):V->V->Hp->VK->Prop:=λvx vy H Q=>match op,vx,vy with
 | .Add,.int i,.int j=>Q (.int (i+j)) H
 | .Sub,.int i,.int j=>Q (.int (i - j)) H
 | _,_,_=>False
def Rz{op:Operator}:Pd X op (QV op):=by
 intro Vw s σ H x y u v Q I rx ry h;unfold QV at h;split at h
 .exact P9 Vw s σ H _ _ u v Q I rx ry ⟨_,_,rfl,rfl,h⟩
 .exact RH Vw s σ H _ _ u v Q I rx ry ⟨_,_,rfl,rfl,h⟩
 .exact h.elim
def NI{K:pX}{H:Hp}{op:Operator}{x y z:D}{vx vy:V}{Q:VK}(hx:rm K H x vx)(hy:rm K H y vy)(e:Qu op x y=some z)(k:∀vz,rm K H z vz->Q vz H):QV op vx vy H Q:=by
 unfold Qu at e;split at e
 .cases e;cases hx.int_inv;cases hy.int_inv;exact k _ .int
 .cases e;cases hx.int_inv;cases hy.int_inv;exact k _ .int
 .cases e
def SE(K:pX)(f:Str)(op:Operator)(ta tv:T3):xq:=λE δ M=>ta δ M λx M1=>match x with
 | .ref a=>zq (M1 a) λC fs=>tE K C f/\(fs.lookup f).elim False λd=>tv δ M1 λy M2=>(Qu op d y).elim False λz=>zq (M2 a) λC' fs'=>C'=C/\fs'.length<1000/\E.nx δ (oU M2 a (.ins C (vq f z fs')))
 | _=>False
def Di{o value:Expr}{ta tv:T3}{f:Str}{op:Operator}{XH:Pos}(ha:E3 X o ta)(hv:E3 X value tv):S3 X (.AugAssign (.Attribute o f XH) op value pos) (SE X.K f op ta tv):=
 PS.mono (JR ha hv Rz) λD' σ H zz=>JY zz λδ M E hs hm ht k1 k2 k3 k4=>
 ⟨δ,M,_,hs,hm,ht,λv H1 d M1 hd Vy e1 q1=>by
  cases d with
  | ref a=>
   cases hd.mq;obtain⟨C,fs,e,q1⟩:=wG q1;obtain⟨na,q1⟩:=q1;obtain⟨d,ed,q1⟩:=qF q1;obtain⟨dx,vs,h1,cl,nn,fo⟩:=Vy a _ e;obtain⟨w,ew,hw⟩:=(vN fo).1 d ed;refine⟨a,C,dx,vs,w,rfl,h1,cl,na,ew,δ,M1,_,hs.mono e1,Vy,q1,λu H2 y M2 hy VO e2 q2=>?_⟩;obtain⟨z,ez,q2⟩:=qF q2;obtain⟨C',fs',e',q2⟩:=wG q2;obtain⟨rfl,hl,q2⟩:=q2;refine NI (hw.mono e2) hy ez λvz hz=>?_;obtain⟨Yn,vs',Wl,cl',nn',fo'⟩:=VO a _ e';have VC:vs'.length=fs'.length:=by have:=eL List.length fo'.1;simpa using this
   refine⟨Yn,vs',Wl,by omega,?_⟩;obtain⟨Ww,e3⟩:=VO.put (p:=a) (o:=.ins C' Yn (uT f vz vs')) (c:=.ins C' (vq f z fs')) e' λx=>⟨Yn,_,pM,cl',λg hg=>by
    rcases BL hg with q|q
    .rw[q];exact na
    .exact nn' g q,ET (hz.mono x) (fo'.mono x)⟩
   exact k1 σ _ δ _ (hs.mono (e1.trans (e2.trans e3))) Ww (e1.trans (e2.trans e3)) rfl q2
  | _=>exact q1.elim⟩
theorem sH{i:Nat}{tt:zN}{te:T3}{ok:Mp->Prop}{Q:DK}{f:D->D}{t:D->Bool}{M:Mp}(mE:ok M):∀(ds acc:List D) (δ:uB),acc.length+ds.length<=sizeLine->
  (∀d∈ds,∀k:Bool->Mp->Prop,k (t d) M->tt (δ.set i (some d)) M k)->(∀d∈ds,t d=true->∀k:DK,k (f d) M->te (δ.set i (some d)) M k)->
  (∀p,M p=none->Q (.ref p) (oU M p (.lst (acc++(ds.filter t).map f))))->uo (tN i) tt te ok Q ds acc δ M
 | [],acc,δ,hl,_,_,hq=>⟨by simpa using hl,by simpa using hq⟩
 | d::r,acc,δ,hl,ht,he,hq=>by
  rw[dW]at hl;refine⟨by omega,?_⟩;show tt (δ.set i (some d)) M _;refine ht d dH _ ?_;have z:∀e:D,(δ.set i (some d)).set i (some e)=δ.set i (some e):=λe=>by rw[iI]
  cases q:t d with
  | true=>
   rw[cX rfl];refine he d dH q _ ⟨mE,sH (f:=f) (t:=t) mE r (acc++[f d]) _ ?_ (λe m k h=>?_) (λe m h0 k h=>?_) ?_⟩
   .rw[cU,dN];omega
   .rw[z];exact ht e (dA _ m) k h
   .rw[z];exact he e (dA _ m) h0 k h
   .intro p hp;have:=hq p hp;rw[gi q]at this
    simpa using this
  | false=>
   rw[cV df];refine⟨mE,sH (f:=f) (t:=t) mE r acc _ (by omega) (λe m k h=>?_) (λe m h0 k h=>?_) ?_⟩
   .rw[z];exact ht e (dA _ m) k h
   .rw[z];exact he e (dA _ m) h0 k h
   .intro p hp;have:=hq p hp;rw[gj (by rw[q];exact df)]at this;exact this
section
variable {a:Expr}
def Uu(ta:T3):T3:=λδ M Q=>ta δ M λx M1=>match x with|.int i=>Q (.int (-i)) M1|_=>False
def EF(ha:E3 X a ta):E3 X (.UnaryOp .USub a pos) (Uu ta):=PE.mono (Sx P0 ha) λσ H Q' zz=>x7 zz λδ M Q hs hm ht k=>
 ⟨δ,M,_,hs,hm,ht,λv H1 d M1 hd Vy e1 q1=>by
  cases d with
  | int i=>cases hd.int_inv;exact⟨i,rfl,k _ H1 _ M1 .int Vy e1 q1⟩
  | _=>exact q1.elim⟩
end
end L3
namespace L2
open PySem PySem.Spec PyProof.Rows PySem.W
variable {prog:Pg}{w:Wo}{A:Ar}{E:Vl→Sd→Prop}{s:Sd}
end L2
namespace L3
open PySem PySem.Spec PyProof.Rows L2
variable {X:Cx}{pos:Pos}{a b o i:Expr}{ta tb ti to:T3}
def RU(to ti:T3):B1:=λd δ M Q=>to δ M λx M1=>ti δ M1 λy M2=>match x,y with
 | .ref p,.int k=>(oA M2 p).elim False λes=>(F5 es.length k).elim False λj=>Q δ (oU M2 p (.lst (es.set j d)))
 | _,_=>False
theorem pP.set{K:pX}{H:Hp}{d:D}{v:V}(hv:rm K H d v):∀{ds:List D} {xs:List V} (j:Nat),pP K H ds xs->pP K H (ds.set j d) (xs.set j v)
 | [],_,j,h=>by rw[h.nil_inv];simp only[List.set_nil];exact .nil
 | e::ds,_,0,h=>by obtain⟨x,r,rfl,h1,h2⟩:=h.inv;exact .cons hv h2
 | e::ds,_,j+1,h=>by obtain⟨x,r,rfl,h1,h2⟩:=h.inv;exact .cons h1 (pP.set hv j h2)
def Rw(ho:E3 X o to)(hi:E3 X i ti) (ha:∀v,assign (.Subscript o i pos) X.env v=(do
   let ov<-holding [v] (eval o X.env);let iv<-holding [v,ov] (eval i X.env)
   standAt pos
   holding [v,ov,iv] (setItem ov iv v)
   release [v,ov,iv] []):=by intro _;rfl):G3 X (.Subscript o i pos) (RU to ti):=
 PG.mono (Qk ho hi LK ha) λv σ H Q' ⟨d,δ,M,Q,hd,hs,hm,ht,k⟩=>
 ⟨δ,M,_,hs,hm,ht,λvx H1 x M1 hx Vy e1 q1=>⟨δ,M1,_,hs.mono e1,Vy,q1,λvy H2 y M2 hy VO e2 q2=>by
  cases x with
  | ref p=>
   cases y with
   | int j0=>obtain⟨es,f1,q2⟩:=qF q2;obtain⟨j,f2,q2⟩:=qF q2;cases(hx.mono e2).mq;cases hy.int_inv;obtain⟨xs,h1,h2⟩:=DU VO f1;refine⟨p,xs,j0,j,rfl,rfl,h1,by rw[<-h2.length];exact f2,?_⟩;have hd2:=hd.mono (e1.trans e2);obtain⟨Ww,e3⟩:=VO.put (o:=.lst (xs.set j v)) (c:=.lst (es.set j d)) (pS f1) λex=>⟨_,pM,(h2.mono ex).set (hd2.mono ex) j⟩;exact k σ _ δ _ (hs.mono (e1.trans (e2.trans e3))) Ww (e1.trans (e2.trans e3)) rfl q2
   | _=>exact q2.elim
  | _=>exact q2.elim⟩⟩
def SC(ds:List D)(M:Mp)(Q:DK):Prop:=match ds with
 | [.int i]=>Q (.int i) M
 | [.bl k]=>Q (.int (if k then 1 else 0)) M
 | _=>False
def G6:C3 X (.type "int") SC:=by
 intro Vw s σ H vs us Q' I rv h;obtain⟨ds,M,Q,hd,hm,q,k⟩:=h;unfold SC at q;split at q
 .obtain⟨v,rfl,hv⟩:=rq hd;cases hv.int_inv;exact C1 Vw s σ H _ us Q' I rv (.inl ⟨_,rfl,k _ _ _ _ .int hm .refl q⟩)
 .obtain⟨v,rfl,hv⟩:=rq hd;cases hv.mw;exact C1 Vw s σ H _ us Q' I rv (.inr ⟨_,rfl,k _ _ _ _ .int hm .refl q⟩)
 .exact q.elim
end L3
namespace L2
open PySem PySem.Spec PyProof.Rows
variable {prog:Pg}{w:Wo}{A:Ar}{E:Vl→Sd→Prop}{s:Sd}{X:Cx}
end L2
namespace L3
open PySem PySem.Spec PyProof.Rows L2
variable {X:Cx}{pos VA p:Pos}{a b o e i value:Expr}{es:List Expr}{ta tb ti to tv td tk:T3}{t:wN}
def QJ(x y:D)(M:Mp)(Q:DK):Prop:=match x,y with
 | .ref a,.int k=>(oA M a).elim False λes=>(0<=k/\k<=1000/\es.length<=1000)/\∀p,M p=none->Q (.ref p) (oU M p (.lst (List.replicate k.toNat es).flatten))
 | _,_=>False
theorem HX{K:pX}{H:Hp}{ds:List D}{xs:List V}(h:pP K H ds xs):∀n:Nat,pP K H (List.replicate n ds).flatten (List.replicate n xs).flatten
 | 0=>.nil
 | n+1=>by rw[eB,eB,fJ,fJ];exact h.append (HX h n)
def Rn:wO X (binaryOp .Mult) (R3 X.K QJ):=λVw s σ H vx vy v u Q' I rx ry h=>by
 obtain⟨x,y,M,Q,hx,hy,hm,q,k⟩:=h;unfold QJ at q;split at q
 .obtain⟨es,e1,⟨q1,q2,q3⟩,q⟩:=qF q;cases hx.mq;cases hy.int_inv;obtain⟨xs,h1,h2⟩:=DU hm e1;have hz:=dI;have hl:=h2.length;refine QP Vw s σ H _ _ v u Q' I rx ry ⟨_,_,xs,rfl,rfl,h1,by omega,by omega,?_,λpp hp=>?_⟩
  .exact dU (j3 (show xs.length<=1000 by omega) (show Int.toNat _<=1000 by omega)) (by rw[hz];decide)
  .exact k _ _ _ _ .ref (hm.new (c:=.lst _) hp ⟨_,pM,(HX h2 _).mono (.new hp)⟩) (.new hp) (q pp (hm.fresh hp))
 .exact q.elim
def Tn(ta tb:T3):T3:=λδ M Q=>ta δ M λx M1=>tb δ M1 λy M2=>QJ x y M2 Q
def Bd(ha:E3 X a ta)(hb:E3 X b tb):E3 X (.BinOp a .Mult b pos) (Tn ta tb):=PE.mono (Pn Rn ha hb) Hb
def Bj(kvs:List (qE×D))(k:qE)(v:D):List (qE×D):=if (kvs.any λkv=>decide (kv.1=k))=true then kvs.map (λkv=>if kv.1=k then(kv.1,v)else kv)else kvs++[(k,v)]
theorem Fm{κ α β:Type}{k:κ}[DecidableEq κ]:∀{xs:List (κ×α)} {ys:List (κ×β)},xs.map (·.1)=ys.map (·.1)->(xs.any λkv=>decide (kv.1=k))=ys.any λkv=>decide (kv.1=k)
 | [],[],_=>rfl
 | [],_::_,e=>by cases e
 | _::_,[],e=>by cases e
 | x::xs,y::ys,e=>by obtain⟨e1,e2⟩:=gL e;rw[fW,fW,Fm e2];have e1:x.1=y.1:=e1;rw[e1]
def IK{K:pX}{H:Hp}{k:qE}{d:D}{v:V}(hv:rm K H d v){kvs:List (qE×D)}{vs:List (qE×V)}(h1:vs.map (·.1)=kvs.map (·.1))(h2:pP K H (kvs.map (·.2)) (vs.map (·.2))):
  (wX vs k v).map (·.1)=(Bj kvs k d).map (·.1)/\pP K H ((Bj kvs k d).map (·.2)) ((wX vs k v).map (·.2)):=by
 have go:∀{kvs:List (qE×D)} {vs:List (qE×V)},vs.map (·.1)=kvs.map (·.1)->pP K H (kvs.map (·.2)) (vs.map (·.2))->
   (vs.map (λkv=>if kv.1=k then(kv.1,v)else kv)).map (·.1)=(kvs.map (λkv=>if kv.1=k then(kv.1,d)else kv)).map (·.1)/\pP K H ((kvs.map (λkv=>if kv.1=k then(kv.1,d)else kv)).map (·.2)) ((vs.map (λkv=>if kv.1=k then(kv.1,v)else kv)).map (·.2)):=λ{kvs}=>by
  induction kvs with
  | nil=>intro vs e h;cases vs with
   | nil=>exact⟨rfl,.nil⟩
   | cons _ _=>cases e
  | cons c r ih=>intro vs e h;cases vs with
   | nil=>cases e
   | cons w ws=>
    obtain⟨e1,e2⟩:=gL e;obtain⟨x,xr,e3,g1,g2⟩:=h.inv;obtain⟨e4,e5⟩:=gL e3;subst e4 e5;obtain⟨i1,i2⟩:=ih e2 g2;have e1:w.1=c.1:=e1;by_cases hk:c.1=k
    .have w1:(if w.1=k then(w.1,v)else w)=(w.1,v):=cX (e1.trans hk);have w2:(if c.1=k then(c.1,d)else c)=(c.1,d):=cX hk;simp only[dQ,w1,w2];exact⟨by rw[i1,e1],.cons hv i2⟩
    .have w1:(if w.1=k then(w.1,v)else w)=w:=cV λz=>hk (e1.symm.trans z);have w2:(if c.1=k then(c.1,d)else c)=c:=cV hk;simp only[dQ,w1,w2];exact⟨by rw[i1,e1],.cons g1 i2⟩
 unfold wX Bj;rw[Fm (k:=k) h1];by_cases hk:(kvs.any λkv=>decide (kv.1=k))=true
 .rw[cX hk,cX hk];exact go h1 h2
 .rw[cV hk,cV hk];exact⟨by rw[dM,dM,h1];rfl,by rw[dM,dM];exact h2.append (.cons hv .nil)⟩
def R4(td tk tv:T3):xq:=λD δ M=>tv δ M λv M1=>td δ M1 λx M2=>tk δ M2 λy M3=>match x,y with
 | .ref a,.str k=>(zc M3 a).elim False λkvs=>kvs.length<sizeLine/\D.nx δ (oU M3 a (.dk (Bj kvs (.inr k) v)))
 | _,_=>False
def yW{M:Mp}{a:Addr}{kvs:List (qE×D)}(h:zc M a=some kvs):M a=some (.dk kvs):=by
 unfold zc at h;split at h
 .rename_i e;rw[e];cases h;rfl
 .cases h
def NZ{VF:Pos}(hu:X.A.units+9<cLine)(ho:E3 X o td)(hi:E3 X i tk)(hv:E3 X value tv)(hs:swapsWith value (some (.Subscript o i VF)) pos.line X.env=pure false:=by rfl):S3 X (.Assign [.Subscript o i VF] value pos) (R4 td tk tv):=
 PS.mono (Nh (by omega) ho hi hv hs) λD' σ H zz=>JY zz λδ M D hs hm ht k1 k2 k3 k4=>
 ⟨δ,M,_,hs,hm,ht,λv H1 d M1 hd Vy e1 q1=>⟨δ,M1,_,hs.mono e1,Vy,q1,λvx H2 x M2 hx VO e2 q2=>⟨δ,M2,_,hs.mono (e1.trans e2),VO,q2,λvy H3 y M3 hy Ww e3 q3=>by
  split at q3
  .rename_i a0 k0;obtain⟨kvs,f1,f2,q3⟩:=qF q3;cases(hx.mono e3).mq;cases hy.str_inv;obtain⟨vs,h1,h2,h3⟩:=BS Ww f1;have hl:vs.length=kvs.length:=by have:=eL List.length h2;simpa using this
   refine⟨_,_,rfl,Ld.k (k:=Sum.inr k0) h1 (by omega),?_⟩;have hd3:=hd.mono (e2.trans e3);obtain⟨hm4,e4⟩:=Ww.put (o:=.dK (wX vs (Sum.inr k0) v)) (c:=.dk (Bj kvs (.inr k0) d)) (yW f1) λex=>by obtain⟨g1,g2⟩:=IK (k:=Sum.inr k0) (hd3.mono ex) h2 (h3.mono ex);exact⟨_,pM,g1,g2⟩
   exact k1 σ _ δ _ (hs.mono (e1.trans (e2.trans (e3.trans e4)))) hm4 (e1.trans (e2.trans (e3.trans e4))) rfl q3
  .exact q3.elim⟩⟩⟩
variable {Vw:List (Addr × Obj)}{σ:St}{H:Hp}{s:Sd}{tp:Pos}{VX:List Expr}{n:Nat}
end L3
namespace L2
open PySem PySem.Spec PyProof.Rows Builtin Builtin.Str
variable {prog:Pg}{w:Wo}{A:Ar}{E:Vl→Sd→Prop}{s:Sd}{X:Cx}
end L2
namespace L3
open PySem PySem.Spec PyProof.Rows L2 Builtin Builtin.Str
variable {X:Cx}{pos VA:Pos}{o e:Expr}{es:List Expr}{ta:T3}{t:wN}
@[irreducible] def SsI (X:Cx) (st:List Stmt) (t:xq):Prop:=GH X st t
@[irreducible] def SI (X:Cx) (st:Stmt) (t:xq):Prop:=S3 X st t
@[irreducible] def EI (X:Cx) (e:Expr) (t:T3):Prop:=E3 X e t
@[irreducible] def AI (X:Cx) (es:List Expr) (t:wN):Prop:=A3 X es t
variable {prog:Pg}{w:Wo}{A:Ar}{E:Vl→Sd→Prop}{s:Sd}{Vw:List (Addr × Obj)}{σ:St}{H:Hp}{p tp:Pos}{VX:List Expr}{n:Nat}
theorem xG{g:B1}{tt:zN}{te:T3}{ok:Mp->Prop}{Q:DK}(all:List D)(J:List D->List D->uB->Mp->Prop)(mE:∀p acc δ M,J p acc δ M->ok M):∀(ds pre acc:List D) (δ:uB) (M:Mp),pre++ds=all->acc.length+ds.length<=sizeLine->J pre acc δ M->
  (∀pre d post,pre++d::post=all->∀acc δ M,J pre acc δ M->∀(k:uB->DK) (k2:uB->Mp->Prop),(∀δ2 y M4,J (pre++[d]) (acc++[y]) δ2 M4->k δ2 y M4)->(∀δ2 M3,J (pre++[d]) acc δ2 M3->k2 δ2 M3)->g d δ M λδ2 M2=>tt δ2 M2 λb M3=>if b=true then te δ2 M3 (k δ2)else k2 δ2 M3)->
  (∀acc δ M,J all acc δ M->∀p,M p=none->Q (.ref p) (oU M p (.lst acc)))->uo g tt te ok Q ds acc δ M
 | [],pre,acc,δ,M,e,hl,j,_,hq=>⟨by simpa using hl,hq acc δ M (by rw[<-e,eR];exact j)⟩
 | d::r,pre,acc,δ,M,e,hl,j,ht,hq=>by rw[dW]at hl;refine⟨by omega,?_⟩;refine ht pre d r e acc δ M j (λδ2 y M4=>ok M4/\uo g tt te ok Q r (acc++[y]) δ2 M4) (λδ2 M3=>ok M3/\uo g tt te ok Q r acc δ2 M3) (λδ2 y M4 j'=>⟨mE _ _ _ _ j',xG all J mE r (pre++[d]) (acc++[y]) δ2 M4 (by rw[<-e,e9];rfl) ?_ j' ht hq⟩) λδ2 M3 j'=>⟨mE _ _ _ _ j',xG all J mE r (pre++[d]) acc δ2 M3 (by rw[<-e,e9];rfl) (by omega) j' ht hq⟩;rw[cU,dN];omega
end L3
namespace L2
open PySem PySem.Spec PyProof.Rows
def Cx.nG(X:Cx)(E:Vl->Sd->Prop):Cx:={X with xe:=E}
def Inv.nG{X:Cx}{E:Vl->Sd->Prop}{Vw:List (Addr×Obj)}{σ:St}{H:Hp}{s:Sd}(I:Inv X Vw σ H s):Inv (X.nG E) Vw σ H s:=
 ⟨⟨I.ok.mod,I.ok.kind,I.ok.glob,I.ok.blt,I.ok.above,I.ok.inj,I.ok.has,I.ok.oa,I.ok.hd,I.ok.frames,I.ok.oh,I.ok.oE,I.ok.bs,I.ok.nJ,I.ok.nA,I.ok.nF,I.ok.m7,I.ok.nP⟩,I.os,I.bare,I.base,I.loc,I.cell,I.free,I.mK,I.pin,I.mE,I.len⟩
def Inv.xeOf{X:Cx}{E:Vl->Sd->Prop}{Vw:List (Addr×Obj)}{σ:St}{H:Hp}{s:Sd}(I:Inv (X.nG E) Vw σ H s):Inv X Vw σ H s:=
 ⟨⟨I.ok.mod,I.ok.kind,I.ok.glob,I.ok.blt,I.ok.above,I.ok.inj,I.ok.has,I.ok.oa,I.ok.hd,I.ok.frames,I.ok.oh,I.ok.oE,I.ok.bs,I.ok.nJ,I.ok.nA,I.ok.nF,I.ok.m7,I.ok.nP⟩,I.os,I.bare,I.base,I.loc,I.cell,I.free,I.mK,I.pin,I.mE,I.len⟩
end L2
namespace L3
open PySem PySem.Spec PyProof.Rows L2
end L3
namespace L2
open PySem PySem.Spec PyProof.Rows
end L2
namespace L3
open PySem PySem.Spec PyProof.Rows L2
variable {X:Cx}{pos p tp kpos:Pos}{VX:List Expr}{n:Nat}
end L3
namespace L2
open PySem PySem.Spec PyProof.Rows
variable {prog:Pg}{w:Wo}{A:Ar}{E:Vl→Sd→Prop}{s:Sd}{a:Addr}{δ:Type}{k:Str}{tk:Tok}
section
variable {R:δ→Vl→Prop}{D:List (Str × δ)}
end
end L2
namespace L3
open PySem PySem.Spec PyProof.Rows L2
variable {X:Cx}{pos p:Pos}{x:Str}{d:D}{e o i:Expr}{ta tb td tk:T3}{F:List (Str × List Str)}
end L3
namespace L2
open PySem PySem.Spec PyProof.Rows
def LU(h:Heap)(e:Addr)(cls:Vl)(dx tb:Option Addr)(F:Vl):Prop:=
 ∃oe vs,h.get? e=some oe/\oe.cls=cls/\oe.dict=dx/\oe.data=.fields vs/\1<vs.size/\vs[1]?=some (tb.elim Value.none Value.ref)/\∀T,tb=some T->T≠e/\∃oT ts,h.get? T=some oT/\oT.data=.fields ts/\3<ts.size/\ts[3]?=some F
def OR(h:Heap)(e:Addr)(cls:Vl)(dx tb:Option Addr):Prop:=LU h e cls dx tb Value.none
theorem BW{h base:Heap}:∀{l:List Env} {b:Addr},h.FunFrames base l->b∈vw l->∃o,h.get? b=some o/\∀vs,o.data≠.fields vs
 | [],b,_,hb=>by cases hb
 | env::r,b,hF,hb=>by
  obtain⟨_,⟨L,o,hL,_,ho,hd⟩,hr⟩:=hF;have e:vw (env::r)=L::vw r:=by unfold vw;rw[fT,hL]
  rw[e]at hb;rcases cZ.mp hb with z|z
  .rw[z];exact⟨o,ho,hd⟩
  .exact BW hr z
def Dd{h base:Heap}{l:List Env}{b:Addr}{o:Obj}{vs:Array Vl}(hF:h.FunFrames base l)(ho:h.get? b=some o)(hd:o.data=.fields vs):b∉vw l:=λhb=>by obtain⟨o',Wg,hn⟩:=BW hF hb;rw[ho]at Wg;cases Wg;exact hn vs hd
variable {M:Model}{A:Ar}{s:Sd}{base:Heap}{env:Env}{outer:List Env}{L e:Addr}{cls:Vl}{dx:Option Addr}{Q:Unit→Sd→Prop}
section
variable {E:Vl→Sd→Prop}
def NO{WS:Vl}{XY:Bool}{oe:Obj}{vs:Array Vl}{Wj:Env}(hcf:Wj.frame=some L)(Xz:A.frames=some (env::outer))(hF:s.heap.FunFrames base (env::outer))(hL:env.frame=some L)(ho:s.heap.get? e=some oe)(hd:oe.data=.fields vs)(h1:1<vs.size) (k:∀(h':Heap) (T:Addr),s.heap.get? T=none->(∀b o,s.heap.get? b=some o->b∉vw (env::outer)->b≠e->h'.get? b=some o)->(∀b o,s.heap.get? b=some o->b∈vw (env::outer)->∃sl,h'.get? b=some {o with slots:=sl})->
   (∃oe',h'.get? e=some oe'/\oe'.cls=oe.cls/\oe'.dict=oe.dict/\oe'.data=.fields (vs.setIfInBounds 1 (.ref T)))->(∃oT ts,h'.get? T=some oT/\oT.data=.fields ts/\3<ts.size/\ts[3]?=some (rawInt ↑L))->Q () {s with heap:=h'}):
  wpAny M A (do
   let a<-PySem.frameOf Wj;let pl<-entryPlaceOf L XY;let b<-EntryCells.newEntry WS a Value.none (rawInt ↑L) Value.none pl
   setField (Value.ref e) 1 b) Q E s:=by
 have ne:=Dd hF ho hd;unfold PySem.frameOf;refine cR (cR (wpAny_frameEnvs Xz (cR ?_)));have ed:List.dropWhile (λx=>x.frame != Wj.frame) (env::outer)=env::outer:=by rw[List.dropWhile_cons,cV (by rw[hL,hcf];simp)]
 rw[ed];unfold frameObject;refine cR (wpAny_readyFrames_fun hF λWl hs=>?_);obtain⟨z1,z2,z3⟩:=hs;rw[hL];refine cY (cY ?_);refine cR (wpAny_entryPlaceOf λpl hp=>?_);refine cR ?_;unfold EntryCells.newEntry newFields;have VC:([WS,Value.ref L,Value.none,rawInt ↑L,Value.none]++if pl.isEmpty=true then List.replicate 6 Value.none else pl).length=11:=by rw[cU];rcases hp with rfl|⟨_,_,_,_,_,_,_,rfl⟩<;>rfl
 have hfl:([WS,Value.ref L,Value.none,rawInt ↑L,Value.none]++if pl.isEmpty=true then List.replicate 6 Value.none else pl)[3]?=some (rawInt ↑L):=rfl;generalize ([WS,Value.ref L,Value.none,rawInt ↑L,Value.none]++if pl.isEmpty=true then List.replicate 6 Value.none else pl)=fs at VC hfl ⊢;refine fP ?_ (by
  show fs.toArray.size<=_;rw[dh,VC];decide)
 have e1:Wl.get? e=some oe:=by rw[z2 e ne];exact ho
 have e2:(Wl.push {cls:=.type "traceback",data:=.fields fs.toArray}).get? e=some oe:=cW _ e1;refine gZ e2 hd h1 ?_;have tn:s.heap.get? Wl.objs.size=none:=gD (by rw[z1];exact c9 _);have te:Wl.objs.size≠e:=λz=>by rw[z,ho]at tn;cases tn
 obtain⟨oc,od,YG,Wv⟩:=oe;obtain rfl:YG=.fields vs:=hd;have up:∀b,e≠b->((Wl.push {cls:=.type "traceback",data:=.fields fs.toArray}).update e (Obj.mapFields λx=>x.setIfInBounds 1 (.ref Wl.objs.size))).get? b=(Wl.push {cls:=.type "traceback",data:=.fields fs.toArray}).get? b:=λb z=>fV _ _ z;refine k _ Wl.objs.size tn (λb o hb nf ne'=>?_) (λb o hb hf=>?_) ⟨_,fv _ e2 rfl,rfl,rfl,rfl⟩ ⟨_,fs.toArray,(up _ (dG te)).trans (dC _ rfl),rfl,by rw[dh,VC];decide,by rw[iA];exact hfl⟩
 .rw[up b (dG ne')];exact cW _ (by rw[z2 b nf];exact hb)
 .obtain⟨sl,q⟩:=z3 b o hb;refine⟨sl,?_⟩;rw[up b (λz=>ne (z ▸ hf))];exact cW _ q
def Q1{E₁:Vl->Sd->Prop}{tb:Option Addr}{F:Vl}{Wj:Env}(hcf:Wj.frame=some L)(Xz:A.frames=some (env::outer))(hF:s.heap.FunFrames base (env::outer))(hL:env.frame=some L)(hx:LU s.heap e cls dx tb F)(hFL:(F==rawInt ↑L)=false) (k:∀(h':Heap) (T:Addr),s.heap.get? T=none->(∀b o,s.heap.get? b=some o->b∉vw (env::outer)->b≠e->tb≠some b->h'.get? b=some o)->(∀b o,s.heap.get? b=some o->b∈vw (env::outer)->∃sl,h'.get? b=some {o with slots:=sl})->
   (∀b,h'.get? b=none->s.heap.get? b=none)->LU h' e cls dx (some T) (rawInt ↑L)->Q () {s with heap:=h'}):wpAny M A (noteFrame (.ref e) Wj) Q E₁ s:=by
 obtain⟨oe,vs,ho,hc,Xp,hd,h1,hv,hT⟩:=hx;have ne:=Dd hF ho hd;unfold noteFrame;rw[hcf];refine cR (eW ho hd hv ?_);have VB:∀(s1:Sd) (oe1:Obj),s1.gens=s.gens->s1.drawn=s.drawn->s1.toks=s.toks->s1.os=s.os->s1.heap.FunFrames base (env::outer)->s1.heap.get? e=some oe1->oe1.cls=cls->oe1.dict=dx->oe1.data=.fields vs->(∀b o,s.heap.get? b=some o->b∉vw (env::outer)->b≠e->tb≠some b->s1.heap.get? b=some o)->
   (∀b o,s.heap.get? b=some o->b∈vw (env::outer)->s1.heap.get? b=some o)->(∀b,s1.heap.get? b=none↔s.heap.get? b=none)->∀(WS:Vl) (XY:Bool),wpAny M A (do
   let a<-PySem.frameOf Wj;let pl<-entryPlaceOf L XY;let b<-EntryCells.newEntry WS a Value.none (rawInt ↑L) Value.none pl
   setField (Value.ref e) 1 b) Q E₁ s1:=by
  intro s1 oe1 g1 g2 g3 g4 hF1 ho1 hc1 hdx1 hd1 kb kf kn WS XY;refine NO hcf Xz hF1 hL ho1 hd1 h1 λh' T tn k1 k2 ⟨oe',he',YF,hdxe,hde⟩ ⟨oT,ts,WL,Xd,h3,h3v⟩=>?_;have te:T≠e:=λz=>by rw[z,ho1]at tn;cases tn
  have:=k h' T ((kn T).mp tn) (λb o hb nf nb nt=>k1 b o (kb b o hb nf nb nt) nf nb) (λb o hb hf=>k2 b o (kf b o hb hf) hf) (λb hb=>?_) ⟨oe',vs.setIfInBounds 1 (.ref T),he',YF.trans hc1,hdxe.trans hdx1,hde,by rw[jB];exact h1,by rw[h9 h1];rfl,λT' eT=>?_⟩
  .show Q () {heap:=_,gens:=s1.gens,drawn:=s1.drawn,toks:=s1.toks,os:=s1.os};rw[g1,g2,g3,g4];exact this
  .refine(kn b).mp ?_;cases q:s1.heap.get? b with
   | none=>rfl
   | some o=>
    by_cases z:b=e
    .rw[z,he']at hb;cases hb
    .by_cases zf:b∈vw (env::outer)
     .obtain⟨sl,q2⟩:=k2 b o q zf;rw[q2]at hb;cases hb
     .rw[k1 b o q zf z]at hb;cases hb
  .cases eT;exact⟨te,oT,ts,WL,Xd,h3,h3v⟩
 cases tb with
 | none=>rw[cV (show ¬((none:Option Addr).elim Value.none Value.ref != Value.none)=true by decide+kernel)];exact VB s oe rfl rfl rfl rfl hF ho hc Xp hd (λb o hb _ _ _=>hb) (λb o hb _=>hb) (λb=>.rfl) _ _
 | some T=>
  obtain⟨nTe,oT,ts,WL,Xd,h3,hn⟩:=hT T rfl;rw[cX (show((some T:Option Addr).elim Value.none Value.ref != Value.none)=true by rfl)];refine cR (eW WL Xd hn ?_);rw[cV (by rw[hFL];exact df)];refine cR (gZ WL Xd h3 ?_);have up:∀b,T≠b->(s.heap.update T (Obj.mapFields λx=>x.setIfInBounds 3 .none)).get? b=s.heap.get? b:=λb z=>fV _ _ z;have nf:∀b o,s.heap.get? b=some o->(∀vs,o.data≠.fields vs)->T≠b:=λb o hb hn z=>by rw[<-z,WL]at hb;cases hb;exact hn ts Xd
  have sz:∀b,(s.heap.update T (Obj.mapFields λx=>x.setIfInBounds 3 .none)).get? b=none↔s.heap.get? b=none:=λb=>by
   by_cases z:T=b
   .rw[<-z];obtain⟨oc,od,YG,Wv⟩:=oT;obtain rfl:YG=.fields ts:=Xd;rw[fv _ WL rfl,WL];exact⟨(λq=>by cases q),(λq=>by cases q)⟩
   .rw[up b z]
  exact VB {s with heap:=s.heap.update T (Obj.mapFields λx=>x.setIfInBounds 3 .none)} oe rfl rfl rfl rfl (me (λb o hb hn=>⟨o,(up b (nf b o hb hn)).trans hb,rfl⟩) hF) ((up e nTe).trans ho) hc Xp hd
   (λb o hb _ _ nt=>(up b λz=>nt (by rw[z])).trans hb) (λb o hb hf=>by
    obtain⟨o',Wg,hn⟩:=BW hF hf;rw[hb]at Wg;cases Wg;exact(up b (nf b o hb hn)).trans hb) sz _ _
def KU{T:Addr}{F:Vl}(x:Option Addr)(hx:LU s.heap e cls dx (some T) F)(k:∀h':Heap,(∀b,T≠b->h'.get? b=s.heap.get? b)->(∀b,h'.get? b=none↔s.heap.get? b=none)->LU h' e cls dx (some T) (x.elim .none λf=>rawInt f)->Q () {s with heap:=h'}):wpAny M A (setFlight (.ref e) x) Q E s:=by
 obtain⟨oe,vs,ho,hc,Xp,hd,h1,hv,hT⟩:=hx;obtain⟨nTe,oT,ts,WL,Xd,h3,hn⟩:=hT T rfl;unfold setFlight;refine cR (eW ho hd hv ?_);rw[cX (by rfl)];refine gZ WL Xd h3 ?_;obtain⟨oc,od,YG,Wv⟩:=oT;obtain rfl:YG=.fields ts:=Xd;have up:∀b,T≠b->(s.heap.update T (Obj.mapFields λy=>y.setIfInBounds 3 (x.elim .none λf=>rawInt f))).get? b=s.heap.get? b:=λb z=>fV _ _ z;refine k _ up (λb=>?_) ⟨oe,vs,(up e nTe).trans ho,hc,Xp,hd,h1,hv,λT' eT=>?_⟩
 .by_cases z:T=b
  .rw[<-z,fv _ WL rfl,WL];exact⟨(λq=>by cases q),(λq=>by cases q)⟩
  .rw[up b z]
 .cases eT;exact⟨nTe,_,ts.setIfInBounds 3 (x.elim .none λf=>rawInt f),fv _ WL rfl,rfl,by rw[jB];exact h3,by rw[h9 h3]⟩
def IB{E₁ E₂:Vl->Sd->Prop}{tb:Option Addr}(Xz:A.frames=some (env::outer))(hF:s.heap.FunFrames base (env::outer))(hL:env.frame=some L)(hx:OR s.heap e cls dx tb) (k:∀(h':Heap) (T:Addr),s.heap.get? T=none->(∀b o,s.heap.get? b=some o->b∉vw (env::outer)->b≠e->tb≠some b->h'.get? b=some o)->(∀b o,s.heap.get? b=some o->b∈vw (env::outer)->∃sl,h'.get? b=some {o with slots:=sl})->
   OR h' e cls dx (some T)->Q () {s with heap:=h'}):wpAny M A (noteFrame (.ref e) env) (λ_ s₂=>wpAny M A (setFlight (.ref e) none) Q E₂ s₂) E₁ s:=by
 refine Q1 hL Xz hF hL hx (dB.mpr λz=>by have:=fg.mp z;cases this) λh' T tn k1 k2 _ x'=>?_;refine KU none x' λh2 up _ x2=>k h2 T tn (λb o hb nf nb nt=>?_) (λb o hb hf=>?_) x2
 .have tb:T≠b:=λz=>by rw[z,hb]at tn;cases tn
  exact(up b tb).trans (k1 b o hb nf nb nt)
 .have tb:T≠b:=λz=>by rw[z,hb]at tn;cases tn
  obtain⟨sl,q⟩:=k2 b o hb hf;exact⟨sl,(up b tb).trans q⟩
def MJ{tb:Option Addr}(Xz:A.frames=some (env::outer))(hF:s.heap.FunFrames base (env::outer))(hL:env.frame=some L)(hx:OR s.heap e cls dx tb) (k:∀(h':Heap) (T:Addr),s.heap.get? T=none->(∀b o,s.heap.get? b=some o->b∉vw (env::outer)->b≠e->tb≠some b->h'.get? b=some o)->(∀b o,s.heap.get? b=some o->b∈vw (env::outer)->∃sl,h'.get? b=some {o with slots:=sl})->
   OR h' e cls dx (some T)->Q () {s with heap:=h'}):wpAny M A (leaving env (.ref e)) Q E s:=cR (IB Xz hF hL hx k)
end
def Bv(P:Pg)(w:Wo):JZ:=λouter H s E ev s'=>Fs λe C dx H' tb=>ev=.ref e/\E (.ref C) dx H'/\s'.os=s.os/\AllBare s'.gens/\Un (vw outer) [] H H' s.heap s'.heap/\xK P w H' s'.heap/\
 OR s'.heap e (.ref C) dx (some tb)/\s.heap.get? e=none/\s.heap.get? tb=none/\H' e=none/\H' tb=none
def xC{P:Pg}{w:Wo}{H:Hp}{h:Heap}{a:Addr}{o:HO}(x:sf P w H h a o):∃ob,h.get? a=some ob:=by
 cases o with
 | lst xs=>obtain⟨_,_,_,_,e⟩:=x;exact⟨_,e⟩
 | tup xs=>obtain⟨_,_,_,o,e,_⟩:=x;exact⟨_,e⟩
 | dK kvs=>obtain⟨_,_,_,_,o,_,_,e,_⟩:=x;exact⟨_,e⟩
 | dT kvs=>obtain⟨_,_,_,_,o,_,_,e,_⟩:=x;exact⟨_,e⟩
 | set S n=>obtain⟨o,_,_,_,e,_⟩:=x;exact⟨_,e⟩
 | ins C dx fs=>obtain⟨_,_,_,e,_⟩:=x;exact⟨_,e⟩
 | own y=>exact x
 | xd fs=>obtain⟨_,⟨_,_,_,e,_⟩,_⟩:=x;exact⟨_,e⟩
 | rng lo hi=>obtain⟨_,_,_,e⟩:=x;exact⟨_,e⟩
 | frz ob u=>obtain⟨e,_⟩:=x;exact⟨_,e⟩
 | tbl ps=>exact⟨_,x⟩
 | met f y=>exact⟨_,x⟩
 | ext φ=>obtain⟨_,e,_⟩:=x;exact e
def y9{P:Pg}{w:Wo}{H:Hp}{h:Heap}{T:Addr}(mE:xK P w H h)(tn:h.get? T=none):H T=none:=by
 cases z:H T with
 | none=>rfl
 | some o=>obtain⟨ob,hob⟩:=xC (mE T o z);rw[hob]at tn;cases tn
variable {P:Pg}{w:Wo}{K:pX}{mg:Str→Option Vl}{N:List Str}{qual:Str}{scope:Scope}{f:Addr}{cd:Vl}{s0:Sd}{H0:Hp}
section
variable {E:XK}
def FQ{fs ex:List Addr}{H H':Hp}{h h':Heap}(u:Un fs ex H H' h h')(hex:ex=[]){b:Addr}(hb:h'.get? b=none):h.get? b=none:=by
 cases q:h.get? b with
 | none=>rfl
 | some o=>obtain⟨o',e⟩:=u.there b o q (by rw[hex];simp);rw[e]at hb;cases hb
def Ln{Vw:List (Addr×Obj)}{σ:St}{H:Hp}{s:Sd}{e C T:Addr}{tb dx:Option Addr}{h':Heap}(I:Inv (uE (Bv P w) P w K mg base N qual scope f cd A outer s0 H0 E) Vw σ H s)(he:s0.heap.get? e=none)(Wk:∀T,tb=some T->s0.heap.get? T=none/\H T=none)(hn:H e=none)(q:E (.ref C) dx H)(hT:s0.heap.get? T=none/\H T=none) (k1:∀b o,s.heap.get? b=some o->b∉vw (envOfC qual scope s0.heap.objs.size f cd::outer)->b≠e->tb≠some b->h'.get? b=some o) (k2:∀b o,s.heap.get? b=some o->b∈vw (envOfC qual scope s0.heap.objs.size f cd::outer)->∃sl,h'.get? b=some {o with slots:=sl}) (x':OR h' e (.ref C) dx (some T)):
  Bv P w outer H0 s0 E (.ref e) {s with heap:=h'}:=by
 have Wn:=I.ni;have VM:∀b o,H b=some o->∀u,s.heap.get? b=some u->h'.get? b=some u:=λb o hb u hu=>k1 b u hu (λz=>by rw[Wn b z]at hb;cases hb) (λz=>by rw[z,hn]at hb;cases hb) (λz=>by rw[(Wk b z).2]at hb;cases hb);have oldf:∀b o,s0.heap.get? b=some o->b∉vw [envOfC qual scope s0.heap.objs.size f cd]:=λb o hb z=>by
  have:b=s0.heap.objs.size:=by have hz:b∈[s0.heap.objs.size]:=z;exact dg.mp hz
  rw[this]at hb;exact absurd (dq hb) (eV _)
 have fr:∀b,b∈vw (envOfC qual scope s0.heap.objs.size f cd::outer)->b∈vw [envOfC qual scope s0.heap.objs.size f cd]\/b∈vw outer:=λb hb=>by
  have hb:b∈s0.heap.objs.size::vw outer:=hb;rcases cZ.mp hb with z|z
  .exact .inl (by rw[z];exact dH)
  .exact .inr z
 have VZ:Un (vw outer) [] H0 H s0.heap s.heap:=I.base;refine⟨e,C,dx,H,T,rfl,q,I.os,I.bare,⟨λb o hb h0 nf ne=>?_,λb o hb h0 hf ne=>?_,VZ.free,λb o hb ne=>?_,VZ.mZ,VZ.mU,VZ.ng⟩,λb o hb=>?_,x',he,hT.1,hn,hT.2⟩
 .have hs:=VZ.keep b o hb h0 nf ne;refine k1 b o hs (λz=>?_) (λz=>by rw[z,he]at hb;cases hb) λz=>by rw[(Wk b z).1]at hb;cases hb
  rcases fr b z with z|z
  .exact oldf b o hb z
  .exact nf z
 .obtain⟨sl,hs⟩:=VZ.slot b o hb h0 hf ne;have:b∈vw (envOfC qual scope s0.heap.objs.size f cd::outer):=dA _ hf;obtain⟨W1,h2⟩:=k2 b _ hs this;exact⟨W1,h2⟩
 .obtain⟨o',hs⟩:=VZ.there b o hb ne;by_cases z:b∈vw (envOfC qual scope s0.heap.objs.size f cd::outer)
  .obtain⟨sl,h2⟩:=k2 b o' hs z;exact⟨_,h2⟩
  .exact⟨o',k1 b o' hs z (λz=>by rw[z,he]at hb;cases hb) λz=>by rw[(Wk b z).1]at hb;cases hb⟩
 .refine(I.mE b o hb).mS (λb' u Wu hu=>?_) (λ_ q=>q) λ_ _ q=>q;rcases Wu with z|z
  .subst z;exact VM b' o hb u hu
  .exact VM b' _ z u hu
def Sy{Vw:List (Addr×Obj)}{σ:St}{H:Hp}{s:Sd}{e C:Addr}{tb dx:Option Addr}(I:Inv (uE (Bv P w) P w K mg base N qual scope f cd A outer s0 H0 E) Vw σ H s)(hx:OR s.heap e (.ref C) dx tb)(he:s0.heap.get? e=none)(hT:∀T,tb=some T->s0.heap.get? T=none/\H T=none)(hn:H e=none)(q:E (.ref C) dx H):
  (uE (Bv P w) P w K mg base N qual scope f cd A outer s0 H0 E).xe (.ref e) s:=
 MJ (base:=base) (outer:=outer) I.ok.frames I.stack rfl hx λh' T tn k1 k2 x'=>Ln I he hT hn q ⟨FQ (show Un (vw outer) [] H0 H s0.heap s.heap from I.base) rfl tn,y9 I.mE tn⟩ k1 k2 x'
end
section
variable {E:XK}
end
def MF(d:Addr)(f:Str)(v:V)(h:Heap):Prop:=∃u,h.Ns1 d (λy=>if y=f then some u else none)/\qm v u
end L2
namespace L3
open PySem PySem.Spec PyProof.Rows L2
abbrev XR:=Addr->Option (Str×D)->Mp->Prop
abbrev Gg:=List D->Mp->DK->XR->Prop
def SL(K:pX)(H:Hp)(dx:Option Addr)(y:Option (Str×D)):Prop:=(dx=none/\y=none)\/AD λd f z v=>dx=some d/\y=some (f,z)/\H d=some (.ext (MF d f v))/\rm K H z v
def Ti(K:pX)(R:XR)(E:XK):Prop:=∀C dx H M y,HM K H M->SL K H dx y->R C y M->E (.ref C) dx H
def UF(K:pX)(sp:Gg):Sp:=λvs H Q' E=>AD λds M Q R=>pP K H ds vs/\HM K H M/\sp ds M Q R/\Up K H Q' Q/\Ti K R E
abbrev QF(P:Pg)(w:Wo)(K:pX)(mg:Str->Option Vl)(base:Heap)(k:Nat)(f:Addr)(fd:FuncData)(ps:List Str)(sp:Gg):Prop:=wC P w K mg base (Bv P w) k f fd ps (UF K sp)
variable {X:Cx}{x:Str}{p pos np VE:Pos}{e:Expr}{es:List Expr}{t:wN}{k:Nat}{f C:Addr}{fd:FuncData}{ps:List Str}{sp:Gg}{R:XR}{E:XK}{P:Pg}{w:Wo}{K:pX}{mg:Str→Option Vl}{base:Heap}{N:List Str}{qual:Str}{scope:Scope}{cd:Vl}{A:Ar}{outer:List Env}{s0:Sd}{H0:Hp}{ta:wN}
def Sk{x qual:Str}{st:Stmt}{f:Addr}{fd:FuncData}{N ps:List Str}{k:Nat}{sp:Gg}(F:OS K x qual st f fd)(S:se N ps (pL st))(len:∀ds M Q R,sp ds M Q R->ds.length=ps.length) (VT:∀(VG:Vl) (A:Ar) (outer:List Env) (s:Sd) (H:Hp) (E:XK) (R:XR),rC k (A.deeper (envOfC qual (pL st) s.heap.objs.size f VG))->Ti K R E->
   ∃t,GH (uE (Bv P w) P w K mg base N qual (pL st) f VG A outer s H E) (rj st) t/\∀ds M Q,sp ds M Q R->t {nx:=λ_ M'=>∃Vz,pY Vz M'/\Q .mz Vz,rt:=λd M'=>∃Vz,pY Vz M'/\Q d Vz} (wq N ds) M):QF P w K mg base (k+1) f fd ps sp:=by
 obtain⟨oc,od,kV,We,pm,an,VG,ct,Wv,rfl,lk,WA⟩:=F.ex;refine KY lk WA S (λvs H Q E h=>?_) λA outer s H vs Q' E hr h=>?_
 .obtain⟨ds,M,Q,R,hd,_,hs,_⟩:=h;rw[<-hd.length];exact len ds M Q R hs
 .obtain⟨ds,M,Q,R,hd,hm,hs,k,hR⟩:=h;obtain⟨t,ht,hb⟩:=VT VG A outer s H E R hr hR;exact⟨_,ht,wq N ds,M,_,CW hd,hm,hb ds M Q hs,λσ' H' δ' M' _ x2 x3 _ ⟨Vz,y1,y2⟩=>k .mz H' .mz Vz .mz (x2.sub y1) x3 y2,λv H' d M' x1 x2 x3 ⟨Vz,y1,y2⟩=>k v H' d Vz x1 (x2.sub y1) x3 y2,λ_ _ _ _ _ _ _ _ z=>z,λ_ _ _ _ _ _ _ _ z=>z⟩
end L3
namespace L2
open PySem PySem.Spec PyProof.Rows
def TKept(H H':Hp):Prop:=(∀b xs,H b=some (.tup xs)->H' b=some (.tup xs))/\∀b o u,H b=some (.frz o u)->H' b=some (.frz o u)
def UU(X:Cx)(Vw:List (Addr×Obj))(σ:St)(J:Hp->Prop)(E:XK)(ev:Vl)(s':Sd):Prop:=Ay λH s=>J H/\Inv X Vw σ H s/\Bv X.prog X.w X.stack H s E ev s'
def Tu(X:Cx)(Vw:List (Addr×Obj))(σ:St)(J:Hp->Prop)(E:XK)(ev:Vl)(s':Sd):Prop:=RO λa C dx H' tb H1 s1=>ev=.ref a/\E (.ref C) dx H'/\Inv X Vw σ H' s'/\OR s'.heap a (.ref C) dx (some tb)/\H' a=none/\H' tb=none/\J H1/\TKept H1 H'/\Inv X Vw σ H1 s1/\s1.heap.get? a=none
def RF{X:Cx}{M:Model}{E₁ E₂:Vl->Sd->Prop}{Vw:List (Addr×Obj)}{σ:St}{J:Hp->Prop}{E:XK}{ev:Vl}{s':Sd}{outer:List Env}{L:Addr}(h:UU X Vw σ J E ev s')(VS:X.stack=X.env::outer)(hL:X.env.frame=some L):
  wpAny M X.A (noteFrame ev X.env) (λ_ s₂=>wpAny M X.A (setFlight ev none) (λ_ s₃=>Tu X Vw σ J E ev s₃) E₂ s₂) E₁ s':=by
 obtain⟨H,s,jH,I,e,C,dx,H',tb,rfl,q,os,bare,un,mE,x,he,ht,ne,nt⟩:=h;obtain⟨hh,g,d,t,Yo⟩:=s';obtain rfl:Yo=s.os:=os;have I':=I.call (h':=hh) (g':=g) (d':=d) (t':=t) (ch:=[]) un mE bare (λb z=>absurd z (by simp));have hF:=I'.stack;have Wn:=I'.ni;have Xz:=I.ok.frames;rw[VS]at hF Xz;refine IB (base:=X.base) (outer:=outer) Xz hF hL x λh' T tn k1 k2 x'=>?_;have VM:∀b o,H' b=some o->∀u,hh.get? b=some u->h'.get? b=some u:=λb o hb u hu=>k1 b u hu (λz=>by rw[Wn b (by rw[VS];exact z)]at hb;cases hb) (λz=>by rw[z,ne]at hb;cases hb) (λz=>by cases z;rw[nt]at hb;cases hb);have un':Un (vw X.stack) [] H H' s.heap h':=by
  refine⟨λb o hb h0 nf nx=>?_,λb o hb h0 hf nx=>?_,un.free,λb o hb nx=>?_,un.mZ,un.mU,un.ng⟩
  .exact k1 b o (un.keep b o hb h0 nf nx) (λz=>nf (by rw[VS];exact z)) (λz=>by rw[z,he]at hb;cases hb) λz=>by cases z;rw[ht]at hb;cases hb
  .obtain⟨sl,hs⟩:=un.slot b o hb h0 hf nx;obtain⟨W1,h2⟩:=k2 b _ hs (by rw[<-VS];exact hf);exact⟨W1,h2⟩
  .obtain⟨o',hs⟩:=un.there b o hb nx;by_cases z:b∈vw (X.env::outer)
   .obtain⟨sl,h2⟩:=k2 b o' hs z;exact⟨_,h2⟩
   .exact⟨o',k1 b o' hs z (λz=>by rw[z,he]at hb;cases hb) λz=>by cases z;rw[ht]at hb;cases hb⟩
 have Yt:xK X.prog X.w H' h':=λb o hb=>(mE b o hb).mS (λb' u Wu hu=>by
  rcases Wu with z|z
  .subst z;exact VM b' o hb u hu
  .exact VM b' _ z u hu) (λ_ q=>q) λ_ _ q=>q
 have I3:Inv X Vw σ H' {heap:=h',gens:=g,drawn:=d,toks:=t,os:=s.os}:=Inv.call (s:=s) (ch:=[]) I un' Yt bare (λb z=>absurd z (by simp));refine⟨e,C,dx,H',T,H,s,rfl,q,I3,x',ne,?_,jH,⟨un.mZ,un.mU⟩,I,he⟩;cases z:H' T with
 | none=>rfl
 | some o=>obtain⟨ob,hob⟩:=xC (mE T o z);have tn:hh.get? T=none:=tn;rw[hob]at tn;cases tn
variable {X:Cx}{Vw:List (Addr × Obj)}{σ σ':St}{H H1:Hp}{s s1:Sd}{ev:Vl}{E':Vl→Sd→Prop}{a:Addr}
def Inv.adopt{o:HO}(I:Inv X Vw σ H s)(I1:Inv X Vw σ' H1 s1)(n1:s1.heap.get? a=none)(hn:H a=none)(ok:sf X.prog X.w (upd H a o) s.heap a o):Inv X Vw σ (upd H a o) s:=by
 have ne:∀b ob,s1.heap.get? b=some ob->b≠a:=λb ob e z=>by rw[z,n1]at e;cases e
 have nh:∀b ob,H b=some ob->b≠a:=λb ob e z=>by rw[z,hn]at e;cases e
 refine⟨I.ok,I.os,I.bare,⟨I.base.keep,I.base.slot,λb o' e h0 hb=>?_,I.base.there,λb xs e=>?_,λb o' u e=>?_,λb ps e=>?_⟩,I.loc,I.cell,?_,λx c e=>?_,λp hp=>?_,λb ob e=>?_,I.len⟩
 .obtain⟨o2,e2⟩:=I1.base.there b o' e hb;rw[pH (ne b o2 e2)];exact I.base.free b o' e h0 hb
 .have:=I.base.mZ b xs e;rw[pH (nh b _ this)];exact this
 .have:=I.base.mU b o' u e;rw[pH (nh b _ this)];exact this
 .obtain⟨more,this⟩:=I.base.ng b ps e;exact⟨more,by rw[pH (nh b _ this)];exact this⟩
 .obtain⟨m,⟨o2,_,_,e2,_⟩,_⟩:=I1.loc;rw[pH (ne _ o2 e2)];exact I.free
 .obtain⟨v,o2,e2,_⟩:=I1.cell x c e;rw[pH (ne _ o2 e2)];exact I.mK x c e
 .obtain⟨e1,e2,e3,e4,e5⟩:=I.pin p hp;exact⟨e1,by rw[pH (ne _ _ (I1.pin p hp).1)];exact e2,e3,e4,e5⟩
 .by_cases z:b=a
  .subst z;rw[pM]at e;cases e;exact ok
  .rw[pH z]at e;exact(I.mE b ob e).mS (λ_ _ _ q=>q) (λb' q=>by rw[pH (nh b' _ q)];exact q) λb' xs q=>by rw[pH (nh b' _ q)];exact q
def Inv.locs{h':Heap}{m':Str->Option Vl}(I:Inv X Vw σ H s)(hn:h'.Ns X.env.locals m')(hs:Heap.SameBut X.env.locals s.heap h')(hl:σ'.length=X.N.length) (hm:∀m,s.heap.Ns X.env.locals m->(∀(i:Nat) (x:Str) (v:V),X.N[i]?=some x->σ[i]?=some (some v)->Qb X.env.scope x->∃u,qm v u/\Tj X.env s.heap m x u)->∀(i:Nat) (x:Str) (v:V),X.N[i]?=some x->σ'[i]?=some (some v)->Qb X.env.scope x->∃u,qm v u/\((X.env.kindOf x=some .local/\m' x=some u)\/((X.env.kindOf x=some .cell\/X.env.kindOf x=some .free)/\∃c,X.env.cells.lookup x=some c/\s.heap.IsCell c (some u)))):Inv X Vw σ' H {s with heap:=h'}:=by
 obtain⟨m,hn0,hl0⟩:=id I.loc;obtain⟨oL,_,_,hoL,_⟩:=id hn0;have oC:=I.oC;refine⟨I.ok,I.os,I.bare,⟨λb o e n hb hx=>?_,λb o e n hb hx=>?_,I.base.free,λb o e hx=>?_,I.base.mZ,I.base.mU,I.base.ng⟩,⟨_,hn,λj y v' e1 e2 e3=>?_⟩,λy c e=>?_,I.free,I.mK,λp hp=>?_,λb ob e=>?_,hl⟩
 .exact(hs.2 b (dE (dF (dq e) I.ok.above))).trans (I.base.keep b o e n hb hx)
 .obtain⟨sl,e1⟩:=I.base.slot b o e n hb hx;exact⟨sl,(hs.2 b (dE (dF (dq e) I.ok.above))).trans e1⟩
 .obtain⟨o',e1⟩:=I.base.there b o e hx;exact⟨o',(hs.2 b (dE (dF (dq e) I.ok.above))).trans e1⟩
 .obtain⟨u,r,q⟩:=hm m hn0 hl0 j y v' e1 e2 e3;refine⟨u,r,?_⟩;rcases q with q|⟨k,c,e,z⟩
  .exact .inl q
  .exact .inr ⟨k,c,e,z.sameBut hs (oC y c e)⟩
 .obtain⟨w',z⟩:=I.cell y c e;exact⟨w',z.sameBut hs (oC y c e)⟩
 .obtain⟨e,n,ne,nf,d⟩:=I.pin p hp;exact⟨(hs.2 p.1 ne).trans e,n,ne,nf,d⟩
 .refine(I.mE b ob e).mS (λc w' hc q=>(hs.2 c ?_).trans q) (λ_ q=>q) λ_ _ q=>q
  rintro rfl
  rcases hc with hc|hc
  .rw[<-hc,I.free]at e;cases e
  .rw[I.free]at hc;cases hc
def xI{M:Model}{A:Ar}{E:Vl->Sd->Prop}{i:Nat}{n:Str}{pos:Pos}{Q:Unit->Sd->Prop}(I:Inv X Vw σ H s)(hN:X.N.Nodup)(hi:X.N[i]?=some n)(hk:X.env.scope.names.lookup n=some .local) (h:∀s',Inv X Vw (σ.set i none) H s'->Q () s'):wpAny M A (do
   bindName X.env n Value.none
   unbindBehindTheSuite X.env n pos) Q E s:=by
 have hiσ:i<σ.length:=by rw[I.len];exact(cT.mp hi).1
 refine cR (wpAny_bindName (wF (v:=.mz) I hN hi (.inl hk) rfl (λs1 I1=>?_) (.inr hk)));have Yk:(X.env.scope.kind==.class||(X.env.scope.kind==.module&&X.env.locals != X.env.globals))=false:=by rw[I.ok.kind];rfl
 obtain⟨m,hn,hl⟩:=id I1.loc;obtain⟨u,ru,lk⟩:=hl i n .mz hi (by rw[eF hiσ]) (.inl hk);have em:m n=some u:=by
  rcases lk with⟨_,e⟩|⟨k,_⟩
  .exact e
  .have Yu:X.env.kindOf n=some .local:=hk;rw[Yu]at k;rcases k with k|k<;>cases k
 unfold unbindBehindTheSuite;refine iu (wpAny_unbindName_local hk hn em Yk λh' u' W9 hs=>h _ ?_);refine I1.locs W9 hs (by simpa using I.len) λm2 VO hl2 j y v' e1 e2 e3=>?_;have hj:j≠i:=λz=>by subst z;rw[eF hiσ]at e2;cases e2
 rw[eK (dG hj)]at e2;obtain⟨u2,r2,q2⟩:=hl j y v' e1 (by rw[eK (dG hj)];exact e2) e3;refine⟨u2,r2,?_⟩;rcases q2 with⟨k,e⟩|q2
 .refine .inl ⟨k,?_⟩;have:y≠n:=λe=>hj (Bf hN e1 (e ▸ hi));simp[this,e]
 .exact .inr q2
def Cx.marked(X:Cx)(ev:Vl)(E:Vl->Sd->Prop):Cx:={X with A:=X.A.mark (some ev),calm:=false,xe:=E}
def Inv.mark(I:Inv X Vw σ H s):Inv (X.marked ev E') Vw σ H s:=
 ⟨⟨I.ok.mod,I.ok.kind,I.ok.glob,I.ok.blt,I.ok.above,I.ok.inj,I.ok.has,I.ok.oa,(λz=>by cases z),I.ok.frames,I.ok.oh,I.ok.oE,I.ok.bs,I.ok.nJ,I.ok.nA,I.ok.nF,I.ok.m7,I.ok.nP⟩,I.os,I.bare,I.base,I.loc,I.cell,I.free,I.mK,I.pin,I.mE,I.len⟩
def Inv.unmark(ok:X.Ok)(I:Inv (X.marked ev E') Vw σ H s):Inv X Vw σ H s:=⟨ok,I.os,I.bare,I.base,I.loc,I.cell,I.free,I.mK,I.pin,I.mE,I.len⟩
def SP.unmark(ok:X.Ok){D:DT}{f:Flow}(h:SP (X.marked ev E') Vw D f s):SP X Vw D f s:=by
 cases f with
 | next=>obtain⟨a,b,I,q⟩:=h;exact⟨a,b,I.unmark ok,q⟩
 | brk=>obtain⟨a,b,I,q⟩:=h;exact⟨a,b,I.unmark ok,q⟩
 | cont=>obtain⟨a,b,I,q⟩:=h;exact⟨a,b,I.unmark ok,q⟩
 | ret v=>obtain⟨a,b,c,I,q⟩:=h;exact⟨a,b,c,I.unmark ok,q⟩
def BK{M:Model}{h:Heap}{a:Addr}{o:Obj}(ho:h.get? a=some o):W.Looks M h (typeOf (.ref a)) o.cls:=by intro A Q E s k q;unfold typeOf;exact cR (wpAny_load (k a o ho) (cY q))
def E6{M:Model}{A:Ar}{E:Vl->Sd->Prop}{a C T:Addr}{Q:Unit->Sd->Prop}{dx:Option Addr}(x:OR s.heap a (.ref C) dx (some T))(h:∀h':Heap,(∀b,h'.get? b=s.heap.get? b)->Q () {s with heap:=h'}):wpAny M A (setFlight (.ref a) none) Q E s:=by
 obtain⟨oe,vs,ho,hc,_,hd,h1,hv,hT⟩:=x;obtain⟨nTe,oT,ts,WL,Xd,h3,hn⟩:=hT T rfl;unfold setFlight;refine cR (eW ho hd hv ?_);rw[cX (by rfl)];refine gZ WL Xd h3 (h _ λb=>?_);by_cases z:T=b
 .subst z;obtain⟨oc,od,YG,Wv⟩:=oT;obtain rfl:YG=.fields ts:=Xd;rw[fv _ WL rfl,WL];show some (Obj.mk oc od (.fields (ts.setIfInBounds 3 .none)) Wv)=_;have:ts.setIfInBounds 3 .none=ts:=by
   apply Array.ext
   .simp
   .intro i h1 h2;rw[Array.getElem_setIfInBounds];split
    .rename_i e;subst e;rw[Array.getElem?_eq_getElem h3]at hn;exact(de hn).symm
    .rfl
  rw[this]
 .exact fV _ _ z
def Qq(X:Cx)(e:Expr)(t:St->Hp->VK->(Hp->Prop)->XK->Prop):Prop:=∀(Vw:List (Addr×Obj)) (s:Sd) (σ:St) (H:Hp) (Q:VK) (J:Hp->Prop) (E:XK),Inv X Vw σ H s->t σ H Q J E->wpAny (model X.prog X.w) X.A (eval e X.env) (EP X Vw σ Q) (UU X Vw σ J E) s
def Va(X:Cx)(st:Stmt)(t:DT->St->Hp->(Hp->Prop)->XK->Prop):Prop:=∀(Vw:List (Addr×Obj)) (s:Sd) (σ:St) (H:Hp) (D:DT) (J:Hp->Prop) (E:XK),Inv X Vw σ H s->t D σ H J E->wpAny (model X.prog X.w) X.A (exec st X.env) (SP X Vw D) (UU X Vw σ J E) s
def Nd{X:Cx}{i:Nat}{x:Str}{e:Expr}{te:St->Hp->VK->(Hp->Prop)->XK->Prop}{pos VF:Pos}(hN:X.N.Nodup)(hi:X.N[i]?=some x)(hx:JX X.env.scope x)(he:Qq X e te)(hs:swapsWith e (some (.Name x VF)) pos.line X.env=pure false:=by rfl)(hf:JW X x:=by first|exact .inl rfl|exact .inr rfl|assumption):
  Va X (.Assign [.Name x VF] e pos) (λD σ H J E=>te σ H (λv H'=>D.nx (σ.set i (some v)) H') J E):=by
 intro Vw s σ H D J E I h;refine kT (rQ (he Vw s σ H _ J E I h) λv s1 zz=>x5 zz λy H1 I1 r1 q1=>?_) hs;exact wF I1 hN hi hx r1 (λs2 I2=>⟨_,H1,I2,q1⟩) hf
variable {k:Nat}{f C:Addr}{fd:FuncData}{ps:List Str}{sp:Sp}{Wq:List V}{ds:List Vl}{m:Str}{p pos VA:Pos}{e o:Expr}{es:List Expr}{t:TA}
section
variable {x:Str}
def Mz(F:wC X.prog X.w X.K X.mg X.base (Bv X.prog X.w) k f fd ps sp)(hr:rC k X.A)(hg:Gl X x)(hm:X.mg x=some (.ref f))(hk:W.keepIn X.K (.ref f)=true)(hb:ui X.K fd ps ds)(hd:qc Wq ds) (ha:PA (X.nG λ_ _=>False) (e::es) t) (VQ:yX x:=by decide) (he:AB X e es:=by rfl) (VN:B0 X pos es:=by rfl):
  Qq X (.Call (.Name x p) (e::es) [] pos) (λσ H Q J E=>t σ H λvs H1=>J H1/\sp (vs++Wq) H1 Q E):=by
 intro Vw s σ H Q J E I h;refine fZ (wn I hg hm ?_ VQ);refine iC (h₀:=X.base) I.ok.mod.nX hk (dZ (ha pos Vw s σ H _ I.nG h) (λus s1 ⟨vs,H1,I1,r,jH,q⟩=>⟨I1.mV,?_⟩) λ_ _ z=>z.elim) he VN;have I1:=I1.xeOf;have r2:qc (vs++Wq) (us++ds):=r.append hd;have hl:(us++ds).length=ps.length:=by rw[<-r2.length];exact F.len _ _ _ _ q
 refine hG (gc (F.run X.A X.stack s1 H1 ⟨us,[]⟩ (us++ds) (vs++Wq) Q E hr I1.nN (hb s1 us I1.mV hl) r2 q) λr s' hq=>?_);cases r with
 | error e=>exact⟨H1,s1,jH,I1,hq⟩
 | ok fl=>
  cases fl with
  | ret u=>exact I1.after hq
  | next=>exact False.elim hq
  | brk=>exact False.elim hq
  | cont=>exact False.elim hq
end
structure Le(K:pX)(C:Addr):Prop where
 hd:(W.clsIn K C).isSome=true
 ga:W.findIn K (.ref C) "__getattribute__"=some (some (.builtin "BaseException.__getattribute__"))
 gt:W.findIn K (.ref C) "__getattr__"=some none
 ha:W.findIn K (.ref C) "__class__"=some (some (.builtin "object.__class__"))
 hn:W.specialIn K (.builtin "object.__class__") "__get__"=some (some (.builtin "getset_descriptor.__get__"))
 htk:W.takesIn K (.builtin "object.__class__")=some true
 hm:W.mroIn K C (.type "object")=some true
 hb:W.mroIn K C (.type "BaseException")=some true
def MS:builtinKind "BaseException.__getattribute__"=some Manifest.AttrKind.slot:=by decide+kernel
def Mq:splitId "BaseException.__getattribute__"=some ("BaseException","__getattribute__"):=by decide+kernel
variable {prog:Pg}{w:Wo}{A:Ar}{E:Vl→Sd→Prop}{K:pX}{ox:Obj}
section
variable {x:Addr}
def LL{Yd:Vl}{Q:Unit->Sd->Prop}{M:Model}(c:Le K C)(X:K.In s.heap)(hx:s.heap.get? x=some ox)(hc:ox.cls=.ref C)(hq:Q () s):wpAny M A (checkBuiltinCall "BaseException.__getattribute__" {pos:=[Value.ref x,Yd]}) Q E s:=by
 unfold checkBuiltinCall;simp only[MS,Mq];unfold isInstance;refine cR (cR ?_);refine(BK hx).at ?_;rw[hc];refine(W.looks_mroIn X c.hb).at ?_;rw[cV (by decide)];have ha:=F.args_bexc_ga (Value.ref x) Yd;unfold argsOk at ha;have:∀t:Sem Unit,t=pure ()->wpAny M A t Q E s:=λt z=>by rw[z];exact cY hq
 exact this _ ha
end
end L2
namespace L3
open PySem PySem.Spec PyProof.Rows L2
theorem _root_.L2.TKept.ext{K:pX}{H H':Hp}(h:TKept H H'):qx K H H':=⟨λa xs q=>by
 rcases q with(q|⟨u,q⟩)|q
 .exact .inl (.inl (h.1 a xs q))
 .exact .inl (.inr ⟨u,h.2 a u _ q⟩)
 .exact .inr q,λa o xs q=>h.2 a o _ q⟩
abbrev RI:=uB->Mp->DK->XR->Prop
def Vr(K:pX)(t:RI):St->Hp->VK->(Hp->Prop)->XK->Prop:=λσ H Q' J E=>AD λδ M Q R=>yf K H σ δ/\HM K H M/\t δ M Q R/\(∀v H' d M',rm K H' d v->HM K H' M'->qx K H H'->Q d M'->Q' v H')/\(∀H1,qx K H H1->J H1)/\Ti K R E
def UY(X:Cx)(e:Expr)(t:RI):Prop:=Qq X e (Vr X.K t)
def Qq.mono{X:Cx}{e:Expr}{t t':St->Hp->VK->(Hp->Prop)->XK->Prop}(h:Qq X e t)(m:∀σ H Q J E,t' σ H Q J E->t σ H Q J E):Qq X e t':=λVw s σ H Q J E I q=>h Vw s σ H Q J E I (m σ H Q J E q)
variable {X:Cx}{x:Str}{p pos np VE:Pos}{e:Expr}{es:List Expr}{t:wN}{k:Nat}{f C:Addr}{fd:FuncData}{ps:List Str}{sp:Gg}
def My(F:QF X.prog X.w X.K X.mg X.base k f fd ps sp)(hr:rC k X.A)(hg:Gl X x)(hm:X.mg x=some (.ref f))(hk:W.keepIn X.K (.ref f)=true)(hb:ui X.K fd ps [])(ha:A3 (X.nG λ_ _=>False) (e::es) t) (VQ:yX x:=by decide) (he:AB X e es:=by rfl) (VN:B0 X pos es:=by rfl):
  UY X (.Call (.Name x p) (e::es) [] pos) (λδ M Q R=>t δ M λds M1=>sp ds M1 Q R):=Qq.mono (Mz F hr hg hm hk hb .nil ha VQ he VN) λσ H Q' J E ⟨δ,M,Q,R,hs,hm,ht,k,kJ,kR⟩=>
 ⟨δ,M,_,hs,hm,ht,λvs H1 ds M1 hd Vy e1 q1=>⟨kJ H1 e1,ds,M1,Q,R,by rw[eR];exact hd,Vy,q1,vd e1 k,kR⟩⟩
variable {b₀:Stmt}{WY:List Stmt}{cn n:Str}{cnp W6 VA YH:Pos}{Cc L:Addr}{outer:List Env}{i ix:Nat}{te:RI}{th:xq}
def yf.unset{K:pX}{H:Hp}{σ:St}{δ:uB}{i:Nat}(h:yf K H σ δ):yf K H (σ.set i none) (δ.set i none):=λj e q=>by
 by_cases hj:j=i
 .subst hj;by_cases hl:j<δ.length
  .rw[eF hl]at q;cases q
  .rw[gx (by simpa using hl)]at q;cases q
 .rw[eK (dG hj)]at q ⊢;exact h j e q
end L3
namespace L2
open PySem PySem.Spec PyProof.Rows
def Bi(es:Array DictEntry):Bool:=es.toList.all λe=>match e.key with|.str _ _=>true|_=>false
def BV{es:Array DictEntry}(h:Bi es=true):StrKeys es:=λe he=>by
 have:=eY.mp h e (j7.mpr he);cases z:e.key with
 | str n t=>exact⟨n,t,rfl⟩
 | _=>rw[z]at this;cases this
abbrev KW:List Vl:=[.type "ValueError",.type "Exception",.type "BaseException",.type "object"]
def OW{K:pX}{t:Vl}{C:Addr}{cd:ClassData}{b:Bool}(q0:W.subIn K (.ref C) (.type "BaseException")=some true)(q1:W.clsIn K C=some cd)(q2:W.typeIn K (.ref C)=some (.type "type"))(s:W.subIn K t (.ref C)=some b):W.exmOne K t (.ref C)=some b:=by unfold W.exmOne;rw[q0,cX (by rfl)];unfold W.kitCls;simp only;rw[q1,q2,cX (by rfl)];exact s
end L2
namespace L3
open PySem PySem.Spec PyProof.Rows L2
end L3
namespace L2
open PySem PySem.Spec PyProof.Rows
theorem BY(self:Vl):∀own:List Addr,refuseLoop self "__setattr__" (own.map Value.ref++KW)=pure ()
 | []=>jC.passes self
 | c::r=>by show refuseLoop self "__setattr__" (.ref c::(r.map Value.ref++KW))=pure ();rw[refuseLoop_ref];exact BY self r
variable {prog:Pg}{w:Wo}{A:Ar}{s:Sd}{K:pX}{x C:Addr}{ox:Obj}{own:List Addr}{name:Str}{v:Vl}
section
variable {E:Vl→Sd→Prop}{cd:ClassData}
def MQ{Q:Unit->Sd->Prop}(X:K.In s.heap)(I:W.InstAt s.heap x ox C none)(hs:W.findIn K (.ref C) "__setattr__"=some (some (.builtin "object.__setattr__")))(hc:W.clsIn K C=some cd)(hm:cd.mro=own.map Value.ref++KW)(ht:W.takerIn K C name=some none)(hd:cd.hasDict=true) (h:∀h' d t,(∀b o,b≠x->s.heap.get? b=some o->h'.get? b=some o)->h'.get? x=some {ox with dict:=some d}->s.heap.get? d=none->d≠x->h'.Ns1 d (λy=>if y=name then some v else none)->Q () {s with heap:=h',toks:=t}):wpAny (model prog w) A (setAttr (.ref x) name v) Q E s:=by
 refine W.set_plain X I hs ?_;have SF:=jC;have ne:cd.mro.isEmpty=false:=by rw[hm];cases own<;>rfl
 have has:cd.mro.contains (.type "object")=true:=by
  rw[hm,List.contains_eq_any_beq,lP];have:KW.any (Value.type "object"==·)=true:=by decide+kernel
  rw[this,jD]
 have sub:W.Looks (model prog w) s.heap (isInstance (.ref x) (.type "object")) true:=I.type.andThen (W.looks_mroIn X (by unfold W.mroIn;rw[hc,lJ,cV (by rw[ne];decide),has]));refine hU SF.slot.plain SF.entry (@PySem.W.check_slot (model prog w) _ _ {s with toks:=s.toks+1} "object.__setattr__" "object" "__setattr__" (.ref x) [.str name s.toks,v] [] _ SF.kind SF.split sub (SF.args (.ref x) (.str name s.toks) v) ?_);obtain⟨attr,ha,hr⟩:=Option.bind_eq_some_iff.mp ht;have Yx:W.Looks (model prog w) s.heap (mroOf (.ref C)) cd.mro:=(kh X hc).andThen .now;have L3':W.Looks (model prog w) s.heap (Builtin.ObjectAttr.storeTaker? attr) none:=by
  cases attr with
  | none=>exact .now
  | some a=>
   obtain⟨b,hb,hr⟩:=iq.mp hr;refine(W.looks_takesIn X hb).andThen ?_;cases b
   .exact .now
   .cases hr
 rw[W.osa_eq,refuse_eq];refine cR (cR (I.type.here (s:={s with toks:=s.toks+1}) (cR (Yx.here (s:={s with toks:=s.toks+1}) ?_))));rw[hm,BY];refine cY (cR (I.type.here (s:={s with toks:=s.toks+1}) (cR ((iS X ha).here (s:={s with toks:=s.toks+1}) (cR (L3'.here (s:={s with toks:=s.toks+1}) ?_))))));obtain⟨hx,Yc,hn,Xp⟩:=I;obtain⟨oc,odi,oda,Wv⟩:=ox;dsimp only at Yc Xp;subst Yc;cases odi with
 | some _=>exact Xp.elim
 | none=>
  refine cR (cY (cR (cR (wpAny_loadPart hx (cR (lV (s:={s with toks:=s.toks+1}) (kh X hc) ?_))))));rw[hd];rw[cV (by decide)];obtain⟨hh,g,dr,tk,os⟩:=s;dsimp only at hx h ⊢;rw[cV (by simp[typeHasDict])];split
  .cases hn
  .have y1:(hh.push W.emptyDict).get? x=some ⟨.ref C,none,oda,Wv⟩:=cW _ hx;have nx:x≠hh.objs.size:=λz=>eV _ (z ▸ dq hx);refine cR (wpAny_alloc' (cR (wpAny_update' y1 (cY ?_))));have e0:((hh.push W.emptyDict).update x λo=>{o with dict:=some hh.objs.size}).Ns hh.objs.size (λ_=>none):=⟨W.emptyDict,#[],_,(kx _ _ _ _ nx.symm).trans (dC hh rfl),rfl,λe he=>absurd he (by simp),λ_=>rfl⟩;refine cR (cY (cR (wpAny_nsSet1 (kW e0) λh' n1 sb=>?_)));obtain⟨oD,esD,epD,g1,g2,g3⟩:=n1.count (Within.cons name v Within.nil);refine cR (lw g1 (g2 ▸ ly (dU g3 (by rw[dI,dN];decide))) (cY (h h' hh.objs.size _ (λb o hb z=>?_) ?_ (gD (c9 _)) nx.symm n1)))
   .exact(sb.2 b λy=>eV _ (y ▸ dq z)).trans ((kx _ _ _ _ hb).trans (cW _ z))
   .refine(sb.2 x nx).trans (fv _ y1 ?_);have fr:=(Heap.get?_some_iff.mp hx).2;cases oda with
    | _=>first|rfl|exact fr
end
variable {nm q:Str}{bs bm WZ:List Vl}{hdct:Bool}{sn:List Str}{sub:List Vl}{ab:Bool}{col:Option Bool}{dd:Option Addr}{k0 k1 k2 k3 k5:Option Vl}{B Bn newId nid V5 yS:String}{bmN:List Vl}{h:Heap}{g:Array GenState}{d:Drawn}{t:Nat}{os:OsState}
section
variable {E:Vl→Sd→Prop}{N:Addr}
abbrev Ob(C t:Addr):Obj:={cls:=.ref C,data:=.fields #[.ref t,.none,.none,.none,.bool false,.none]}
def zX(Fn:ExcBaseFacts Bn newId yS bmN)(hBn:WZ.contains (.type Bn)=true)(F:ExcBaseFacts B nid V5 WZ)(T:OwnTail h WZ bm){mN:Str->Option Vl}{us:List Vl}{fI:Addr}{oI:Obj}{Q:PySem.Fin->Sd->Prop} (hC:h.get? C=some (excClassObj nm q C N bs bm hdct sn sub ab col dd k0 k1 k2 k3 k5 newId)) (hn:h.Ns N mN) (hi:mN "__init__"=some (.ref fI)) (hf:h.get? fI=some oI) (hfc:oI.cls=.type "function") (VC:us.length<=sizeLine) (hq:∀h' e,Heap.MadeExcOf h h' e (.ref C) us->wpAny (model prog w) A (call (.ref fI) (.ref e::us)) (λr s'=>r=.none/\Q (.done (.ret (.ref e))) s') E ⟨h',g,d,t,os⟩):
  wpAny (model prog w) A (Builtin.«type.__call__» ⟨.ref C::us,[]⟩) Q E ⟨h,g,d,t,os⟩:=by
 repeat (first|with_reducible refine gW hC ?_|with_reducible refine wpAny_madeBy_exc hC ?_|wp_step)
 refine codeAny_call_builtin_code (ii _ Fn.quiet) (wpAny_check_new_subU Fn hBn T hC (codeAny_exc_new_subU Fn hBn F T hC ?_ VC));have kp:∀b o,h.get? b=some o->((h.push {cls:=.type "tuple",data:=.seq us.toArray}).push (Ob C h.objs.size)).get? b=some o:=λb o z=>cW _ (cW _ z);have gE:((h.push {cls:=.type "tuple",data:=.seq us.toArray}).push (Ob C h.objs.size)).get? (h.objs.size+1)=some (Ob C h.objs.size):=by heap_get
 have hC2:=kp _ _ hC;have Ym:((h.push {cls:=.type "tuple",data:=.seq us.toArray}).push (Ob C h.objs.size)).Ns N mN:=let⟨o,es,ep,e,r⟩:=hn;⟨o,es,ep,kp _ _ e,r⟩;have cC:(Value.ref C::bm).contains (.ref C)=true:=by rw[ik,eE,gY]
 have T2:=T.keeps kp;show wpAny _ _ _ _ _ _;unfold isInstance
 repeat (first|with_reducible refine gW gE ?_|(with_reducible refine ky hC2 ?_;rw[cC])|wp_step)
 show wpAny _ _ (typeLookup (.ref C) _) _ _ _;refine wpAny_typeLookup_tail hC2 Ym T2 F.mroIs F.init.lookup ?_;rw[hi];refine d9 (cR ?_);unfold bindSpecial;refine cR (jx (T:="function") ⟨_,kp _ _ hf,hfc⟩ ?_);rw[cX (by decide)];refine cY (cR (dZ (hq _ (h.objs.size+1) ⟨kp,gD (gR _),h.objs.size,gE,gD (c9 _),cW _ (Heap.get?_push_at rfl rfl)⟩) (λr s' hr=>?_) λ_ _ z=>z));obtain⟨rfl,hQ⟩:=hr
 wp_walk
 exact hQ
def GN(Fn:ExcBaseFacts Bn newId yS bmN)(hBn:WZ.contains (.type Bn)=true)(F:ExcBaseFacts B nid V5 WZ)(T:OwnTail h WZ bm){mN:Str->Option Vl}{us:List Vl}{fI:Addr}{oI:Obj}{Q:Vl->Sd->Prop} (hC:h.get? C=some (excClassObj nm q C N bs bm hdct sn sub ab col dd k0 k1 k2 k3 k5 newId)) (hn:h.Ns N mN) (hi:mN "__init__"=some (.ref fI)) (hf:h.get? fI=some oI) (hfc:oI.cls=.type "function") (VC:us.length<=sizeLine) (hq:∀h' e,Heap.MadeExcOf h h' e (.ref C) us->wpAny (model prog w) (A.under (.builtin "type.__call__" ⟨.ref C::us,[]⟩)) (call (.ref fI) (.ref e::us)) (λr s'=>r=.none/\Q (.ref e) s') E ⟨h',g,d,t,os⟩):
  wpAny (model prog w) A (call (.ref C) us) Q E ⟨h,g,d,t,os⟩:=by
 have f1:=tc_lookup;have f2:=tc_bind (.ref C);have hT:(⟨h,g,d,t,os⟩:Sd).TypeIs (.ref C) "type":=⟨_,hC,rfl⟩;refine hG (jN ?_);show wpAny _ _ (callAny (.ref C) _) _ _ _
 repeat (any_goals(first|assumption|with_reducible refine gW hC ?_|wp_step))
 exact⟨rfl,codeAny_call_builtin_at (ii _ (by decide+kernel)) entry_typeCall (wpAny_check_type_call_sub hC (zX Fn hBn F T hC hn hi hf hfc VC hq))⟩
end
variable {M:Model}{env:Env}
section
variable {E:Vl→Sd→Prop}{N:Addr}
def Ht(h:Heap)(e C:Addr)(dx:Option Addr):Prop:=Ay λt sl=>h.get? e=some ⟨.ref C,dx,.fields #[.ref t,.none,.none,.none,.bool false,.none],sl⟩
def FM{x:Sem Vl}{Q:Flow->Sd->Prop}(VU:bm.contains (.type "BaseException")=true)(hh:A.handled=none) (h:wpAny M A x (λv s₁=>∃e dx,v=.ref e/\s₁.heap.get? C=some (excClassObj nm q C N bs bm hdct sn sub ab col dd k0 k1 k2 k3 k5 newId)/\Ht s₁.heap e C dx/\E (.ref e) s₁) E s):
  wpAny M A (raiseStmt env (some x) none) Q E s:=by
 have cB:(Value.ref C::bm).contains (.type "BaseException")=true:=by rw[ik,VU,jD]
 unfold raiseStmt;refine cR (dZ h (λv s₁ ⟨e,dx,ev,hC,⟨t,sl,he⟩,hE⟩=>?_) λ_ _ z=>z);subst ev;obtain⟨hp,g,d,tk,os⟩:=s₁
 repeat (first|with_reducible refine gW he ?_|with_reducible refine gW hC ?_|(with_reducible refine ky hC ?_;rw[cB])|wp_step)
 exact wpAny_raiseNew_none hh hE
def Ge(Fn:ExcBaseFacts Bn newId yS bmN)(hBn:WZ.contains (.type Bn)=true)(F:ExcBaseFacts B nid V5 WZ){mN:Str->Option Vl}{fI:Addr}{x:Str}{np VE pos:Pos}{args:List Expr}{Q:Flow->Sd->Prop} (VU:bm.contains (.type "BaseException")=true) (hh:A.handled=none) (VP:(backTo VE (starEach args env)).any (·.1)=false) (hi:mN "__init__"=some (.ref fI)) (h:wpAny (model prog w) A (eval (.Name x np) env) (λf s₁=>f=.ref C/\wpAny (model prog w) A (evalArgs (.ref C) true (backTo VE (starEach args env)) []) (λa s₂=>a.kw=[]/\a.pos.length<=sizeLine/\s₂.heap.get? C=some (excClassObj nm q C N bs bm hdct sn sub ab col dd k0 k1 k2 k3 k5 newId)/\s₂.heap.Ns N mN/\OwnTail s₂.heap WZ bm/\(∃oI,s₂.heap.get? fI=some oI/\oI.cls=.type "function")/\
    ∀h' e,Heap.MadeExcOf s₂.heap h' e (.ref C) a.pos->wpAny (model prog w) (A.under (.builtin "type.__call__" ⟨.ref C::a.pos,[]⟩)) (call (.ref fI) (.ref e::a.pos))
     (λr s'=>r=.none/\∃dx,s'.heap.get? C=some (excClassObj nm q C N bs bm hdct sn sub ab col dd k0 k1 k2 k3 k5 newId)/\Ht s'.heap e C dx/\E (.ref e) s') E {s₂ with heap:=h'}) E s₁) E s):
  wpAny (model prog w) A (exec (.Raise (some (.Call (.Name x np) args [] VE)) none pos) env) Q E s:=by
 rw[arm_exec_Raise];refine cR (gK (FM (C:=C) (nm:=nm) (q:=q) (N:=N) (bs:=bs) (bm:=bm) (hdct:=hdct) (sn:=sn) (sub:=sub) (ab:=ab) (col:=col) (dd:=dd) (k0:=k0) (k1:=k1) (k2:=k2) (k3:=k3) (k5:=k5) (newId:=newId) VU hh ?_));refine cR (dZ (wpAny_Call_ofName (dZ h (λf s₁ ⟨ef,h₁⟩=>?_) λ_ _ z=>z)) (λv s₃ h₃=>cR (gK (cY h₃))) λ_ _ z=>z);subst ef;unfold callWith;refine cR (d9 (dZ h₁ (λa s₂ h₂=>cR (gK ?_)) λ_ _ z=>z));obtain⟨VA,akw⟩:=a;obtain⟨hkw,VC,hC,hn,T,⟨oI,hf,hfc⟩,h₂⟩:=h₂;obtain rfl:akw=[]:=hkw;obtain⟨hp,g,d,tk,os⟩:=s₂;simp only[VP];refine cR (wpAny_keeperOf_exc hC (cR (GN Fn hBn F T hC hn hi hf hfc VC λh' e hm=>dZ (h₂ h' e hm) (λr s' ⟨z,dx,c1,c2,c3⟩=>⟨z,cR (d9 (wpAny_point (cY ⟨e,dx,rfl,c1,c2,c3⟩)))⟩) λ_ _ z=>z)))
end
def x0(a C:Addr)(h:Heap):Prop:=Ht h a C none
def x1(a C d:Addr)(h:Heap):Prop:=Ht h a C (some d)
structure xW(K:pX)(C:Addr)(f:Str):Prop where
 sa:W.findIn K (.ref C) "__setattr__"=some (some (.builtin "object.__setattr__"))
 cd:∃cd own,W.clsIn K C=some cd/\cd.mro=List.map Value.ref own++KW/\cd.hasDict=true
 tk:W.takerIn K C f=some none
variable {X:Cx}{Vw:List (Addr × Obj)}{σ σ':St}{H H1:Hp}{s1:Sd}{a:Addr}
section
variable {f:Str}
def Fi{A:Ar}{E:Vl->Sd->Prop}{y:V}{u:Vl}{Q:Unit->Sd->Prop}(I:Inv X Vw σ H s)(e:H a=some (.ext (x0 a C)))(ry:qm y u)(st:xW X.K C f)(h:∀d s',H d=none->d≠a->Inv X Vw σ (upd (upd H a (.ext (x1 a C d))) d (.ext (MF d f y))) s'->Q () s'):wpAny (model X.prog X.w) A (setAttr (.ref a) f u) Q E s:=by obtain⟨⟨t,sl,ho⟩,_,_⟩:=I.mE a _ e;obtain⟨cd,own,c1,c2,c3⟩:=st.cd;refine MQ I.mV ⟨ho,rfl,rfl,trivial⟩ st.sa c1 c2 st.tk c3 λh' d tk k1 k2 dn da n1=>h d _ (y9 I.mE dn) da ?_;have I2:=I.write (t':=tk) (x:=a) (e:=a) (o:=.ext (x1 a C d)) (by rw[e];exact True.intro) (.inl rfl) k1 ⟨_,k2⟩ ⟨⟨t,sl,k2⟩,⟨_,k2⟩,λh1 h2 ⟨t',W1,z⟩ kk=>⟨t',W1,kk _ z⟩⟩;refine I2.adopt I dn (by rw[pH da];exact y9 I.mE dn) ⟨⟨u,n1,ry⟩,?_,λh1 h2 ⟨u,n,r⟩ kk=>⟨u,n.at kk,r⟩⟩;obtain⟨o,_,_,z,_⟩:=n1;exact⟨o,z⟩
def Inv.drop{φ:Heap->Prop}(I:Inv X Vw σ H s)(ea:H a=some (.ext φ)):Inv X Vw σ (λb=>if b=a then none else H b) s:=by
 have less:∀b,H b=none->(if b=a then none else H b)=none:=λb e=>by split<;>first|rfl|exact e
 have keep:∀b o,H b=some o->(∀φ,o≠.ext φ)->(if b=a then none else H b)=some o:=λb o e n=>by
  rw[cV]
  .exact e
  .intro z;rw[z,ea]at e;exact n φ (de e).symm
 refine⟨I.ok,I.os,I.bare,⟨I.base.keep,I.base.slot,λb o e h0 hb=>less b (I.base.free b o e h0 hb),I.base.there,λb xs e=>keep b _ (I.base.mZ b xs e) (λ_ z=>nomatch z),λb o u e=>keep b _ (I.base.mU b o u e) (λ_ z=>nomatch z),λb ps e=>?_⟩,I.loc,I.cell,less _ I.free,λx c e=>less _ (I.mK x c e),λp hp=>⟨(I.pin p hp).1,less _ (I.pin p hp).2.1,(I.pin p hp).2.2⟩,λb ob e=>?_,I.len⟩
 .obtain⟨more,z⟩:=I.base.ng b ps e;exact⟨more,keep b _ z (λ_ z=>nomatch z)⟩
 .have e':H b=some ob:=by
   by_cases z:b=a
   .rw[cX z]at e;cases e
   .rw[cV z]at e;exact e
  exact(I.mE b ob e').mS (λ_ _ _ q=>q) (λb' q=>keep b' _ q (λ_ z=>nomatch z)) λb' xs q=>keep b' _ q (λ_ z=>nomatch z)
end
def Lu(K:pX)(ta tv:TE)(f:Str):TS:=λD σ H=>tv σ H λy H1=>ta σ H1 λx H2=>∃a C,x=.ref a/\H2 a=some (.ext (x0 a C))/\xW K C f/\∀d,H2 d=none->d≠a->D.nx σ (upd (upd H2 a (.ext (x1 a C d))) d (.ext (MF d f y)))
def NJ{X:Cx}{o value:Expr}{f:Str}{pos VF:Pos}{ta tv:TE}(ha:PE X o ta)(hv:PE X value tv)(hs:swapsWith value (some (.Attribute o f VF)) pos.line X.env=pure false:=by rfl):PS X (.Assign [.Attribute o f VF] value pos) (Lu X.K ta tv f):=by intro Vw s σ H D I h;refine iB (rQ (hv Vw s σ H _ I h) λu s1 zz=>x5 zz λy H1 I1 ry q=>rQ (ha Vw s1 σ H1 _ I1 q) λov s2 zz=>?_) hs;obtain⟨x,H2,I2,rx,a,C,ex,ea,st,q2⟩:=zz;subst ex;obtain rfl:ov=Value.ref a:=rx;exact Fi I2 ea ry st λd s3 dn da I3=>⟨σ,_,I3,q2 d dn da⟩
def vD(K:pX)(f:Str):Sp:=λvs H Q _=>Ck λe C y=>vs=[.ref e,y]/\H e=some (.ext (x0 e C))/\xW K C f/\∀d,H d=none->d≠e->Q .mz (upd (upd H e (.ext (x1 e C d))) d (.ext (MF d f y)))
variable {qual:Str}{scope:Scope}{outer:List Env}{s0:Sd}{H0:Hp}{P:Pg}{mg:Str→Option Vl}{base:Heap}
section
def Lr{x qual y1 y2 fl:Str}{st:Stmt}{f:Addr}{fd:FuncData}(F:OS K x qual st f fd)(S:se [y1,y2] [y1,y2] (pL st)) (hb:∀(VG:Vl) (A:Ar) (outer:List Env) (s:Sd) (H:Hp) (E:XK),BE (uE (Bv P w) P w K mg base [y1,y2] qual (pL st) f VG A outer s H E) (rj st) (Lu K (Ex 0) (Ex 1) fl)):wC P w K mg base (Bv P w) 1 f fd [y1,y2] (vD K fl):=by
 obtain⟨oc,od,kV,We,pm,an,VG,ct,Wv,rfl,lk,WA⟩:=F.ex;refine KY lk WA S (λvs H Q E h=>?_) λA outer s H vs Q' E hr h=>⟨_,hb VG A outer s H E,?_⟩
 .obtain⟨e,C,y,rfl,_⟩:=h;rfl
 .obtain⟨e,C,y,rfl,h1,h2,q⟩:=h;exact⟨y,rfl,.ref e,rfl,e,C,rfl,h1,h2,q⟩
def HK(K:pX)(C fI:Addr):Prop:=
 ∃nm q N bs bm WZ hdct sn sub ab col dd k0 k1 k2 k3 k5,∃B Bn newId nid V5 yS:String,∃bmN,∃mN:Str->Option Vl,ExcBaseFacts Bn newId yS bmN/\WZ.contains (Value.type Bn)=true/\ExcBaseFacts B nid V5 WZ/\bm.contains (Value.type "BaseException")=true/\mN "__init__"=some (.ref fI)/\
  ∀h:Heap,K.In h->h.get? C=some (excClassObj nm q C N bs bm hdct sn sub ab col dd k0 k1 k2 k3 k5 newId)/\h.Ns N mN/\OwnTail h WZ bm/\∃oI,h.get? fI=some oI/\oI.cls=.type "function"
variable {N:List Str}{f:Addr}{cd:Vl}{E:XK}
def Je{X:Cx}(hX:X=uE (Bv P w) P w K mg base N qual scope f cd A outer s0 H0 E){C fI:Addr}{fdI:FuncData}{ps:List Str}{fl:Str}{k:Nat}{x:Str}{np VE pos:Pos}{e:Expr}{ta:TA}(hC:HK X.K C fI)(F:wC X.prog X.w X.K X.mg X.base (Bv X.prog X.w) k fI fdI ps (vD X.K fl))(hr:rC (k+1) X.A)(hb:ui X.K fdI ps [])(st:xW X.K C fl) (hg:Gl X x) (hm:X.mg x=some (.ref C)) (ha:PA X [e] ta) (hs:starEach [e] X.env=[(false,eval e X.env)]:=by rfl) (VQ:yX x:=by decide):
  PS X (.Raise (some (.Call (.Name x np) [e] [] VE)) none pos) (λ_ σ H=>ta σ H λvs H1=>∃y,vs=[y]/\∀d,H1 d=none->E (.ref C) (some d) (upd H1 d (.ext (MF d fl y)))):=by
 intro Vw s σ H D I h;obtain⟨nm,q,N',bs,bm,WZ,hdct,sn,sub,ab,col,dd,k0,k1,k2,k3,k5,B,Bn,newId,nid,V5,yS,bmN,mN,f1,f2,f3,f4,f5,Xu⟩:=hC;have hcalm:X.A.handled=none:=I.ok.hd (by rw[hX];rfl);refine Ge (nm:=nm) (q:=q) (N:=N') (bs:=bs) (hdct:=hdct) (sn:=sn) (sub:=sub) (ab:=ab) (col:=col) (dd:=dd) (k0:=k0) (k1:=k1) (k2:=k2) (k3:=k3) (k5:=k5) f1 f2 f3 f4 hcalm (by rw[hs];rfl) f5 (wn I hg hm ⟨rfl,?_⟩ VQ);rw[hs];refine evalArgs_kwB rfl ?_;have Xb:=ha VE Vw s σ H _ I h;rw[hs]at Xb;refine rQ Xb λus s1 zz=>?_;obtain⟨vs,H1,I1,r1,y,ey,q1⟩:=zz;subst ey;obtain⟨u,rfl,ru⟩:=wA r1;refine wpAny_evalAll_nil ?_;obtain⟨c1,c2,c3,c4⟩:=Xu s1.heap I1.mV;refine⟨rfl,by show 1<=sizeLine;rw[dI];decide,c1,c2,c3,c4,λh' e' md=>?_⟩;obtain⟨mk,mn,t,mt,_⟩:=md;have hn:H1 e'=none:=y9 I1.mE mn;have I2:Inv X Vw σ H1 {s1 with heap:=h'}:=I1.kept (t':=s1.toks) mk;have I3:Inv X Vw σ (upd H1 e' (.ext (x0 e' C))) {s1 with heap:=h'}:=I2.adopt I1 mn hn ⟨⟨t,_,mt⟩,⟨_,mt⟩,λh1 h2 ⟨t',W1,z⟩ kk=>⟨t',W1,kk _ z⟩⟩;have r2:qc [V.ref e',y] [Value.ref e',u]:=.cons rfl (.cons ru .nil);have W2:vD X.K fl [V.ref e',y] (upd H1 e' (.ext (x0 e' C))) (λv H2=>v=.mz/\∃d,d≠e'/\H1 d=none/\H2=upd (upd H1 e' (.ext (x1 e' C d))) d (.ext (MF d fl y))) (λ_ _ _=>False):=⟨e',C,y,rfl,pM,st,λd dn da=>⟨rfl,d,da,by rw[pH da]at dn;exact dn,by rw[Np]⟩⟩;have hl:([Value.ref e',u]:List Vl).length=ps.length:=by rw[<-r2.length];exact F.len _ _ _ _ W2
 refine hG (gc (F.run _ X.stack _ _ ⟨[Value.ref e',u],[]⟩ [Value.ref e',u] _ _ _ (hr.make C [u] []) (I3.nN.make C [u] []) (hb _ [Value.ref e',u] I3.mV hl) r2 W2) λr s' Xf=>?_);cases r with
 | error ev=>obtain⟨_,_,_,_,_,_,z,_⟩:=Xf;exact z.elim
 | ok fw=>
  cases fw with
  | ret uv=>
   obtain⟨v,H',I4,rv,ev,d,da,dn,eH⟩:=I3.after Xf;subst ev eH;obtain⟨⟨t',W1,md⟩,_,_⟩:=I4.mE e' _ (by rw[pH (dG da)];exact pM);have I5:Inv X Vw σ (upd H1 d (.ext (MF d fl y))) _:=(funext λb=>by
    by_cases z:b=e'
    .subst z;rw[cX rfl,pH (dG da),hn]
    .rw[cV z];by_cases z2:b=d
     .subst z2;rw[pM,pM]
     .rw[pH z2,pH z2,pH z]:(λb=>if b=e' then none else upd (upd H1 e' (.ext (x1 e' C d))) d (.ext (MF d fl y)) b)=upd H1 d (.ext (MF d fl y))) ▸ I4.drop (a:=e') (φ:=x1 e' C d) (by rw[pH (dG da)];exact pM)
   refine⟨rv,some d,(Xu s'.heap I4.mV).1,⟨t',W1,md⟩,?_⟩;subst hX;have VZ:Un (vw outer) [] H0 H1 s0.heap s1.heap:=I1.base;exact Sy I5 (tb:=none) ⟨_,_,md,rfl,rfl,rfl,(by show 1<6;decide),rfl,λT z=>by cases z⟩ (FQ VZ rfl mn) (λT z=>by cases z) (by rw[pH (dG da)];exact hn) (q1 d dn)
  | next=>exact False.elim Xf
  | brk=>exact False.elim Xf
  | cont=>exact False.elim Xf
end
end L2
namespace L3
open PySem PySem.Spec PyProof.Rows L2
variable {P:Pg}{w:Wo}{K:pX}{mg:Str→Option Vl}{base:Heap}{N:List Str}{qual:Str}{scope:Scope}{f:Addr}{cd:Vl}{A:Ar}{outer:List Env}{s0:Sd}{H0:Hp}{E:XK}{x:Str}{np VE pos:Pos}{e:Expr}{C fI:Addr}{fdI:FuncData}{ps:List Str}{fl:Str}{k:Nat}{R:XR}{ta:wN}
def Nw(C:Addr)(R:XR)(f:Str)(ta:wN):xq:=λ_ δ M=>ta δ M λds M1=>∃z,ds=[z]/\R C (some (f,z)) M1
def IY(hC:HK K C fI)(F:wC P w K mg base (Bv P w) k fI fdI ps (vD K fl))(hr:rC (k+1) (uE (Bv P w) P w K mg base N qual scope f cd A outer s0 H0 E).A)(hb:ui K fdI ps [])(st:xW K C fl)(_:W.findIn K (.ref C) "__init__"=some (some (.ref fI)))(hg:Gl (uE (Bv P w) P w K mg base N qual scope f cd A outer s0 H0 E) x)(hm:mg x=some (.ref C))(hR:Ti K R E)(ha:A3 (uE (Bv P w) P w K mg base N qual scope f cd A outer s0 H0 E) [e] ta) (hs:starEach [e] (uE (Bv P w) P w K mg base N qual scope f cd A outer s0 H0 E).env=[(false,eval e (uE (Bv P w) P w K mg base N qual scope f cd A outer s0 H0 E).env)]:=by rfl) (VQ:yX x:=by decide):
  S3 (uE (Bv P w) P w K mg base N qual scope f cd A outer s0 H0 E) (.Raise (some (.Call (.Name x np) [e] [] VE)) none pos) (Nw C R fl ta):=
 PS.mono (Je rfl hC F hr hb st hg hm ha hs VQ) λD' σ H ⟨δ,M,D,hs,hm,ht,_⟩=>⟨δ,M,_,hs,hm,ht,λvs H1 ds M1 hd Vy e1 q1=>by
  obtain⟨z,rfl,r⟩:=q1;obtain⟨v,rfl,hv⟩:=rq hd;exact⟨v,rfl,λd dn=>hR C (some d) _ M1 _ (Vy.add dn) (.inr ⟨d,fl,z,v,rfl,rfl,pM,hv.mono (.new dn)⟩) r⟩⟩
variable {X:Cx}{b₀:Stmt}{WY:List Stmt}{cn:Str}{cnp W6 epos:Pos}{Cc L:Addr}{te:RI}{th:xq}
end L3
namespace L2
open PySem PySem.Spec PyProof.Rows
def KQ{K:pX}{C C2 N fI:Addr}{nm q:Str}{bs sub:List Vl}{hdct ab:Bool}{sn:List Str}{col:Option Bool}{dd od1 od2 dd2:Option Addr}{k0 k1 k2 k3 k5:Option Vl}{oc1 oc2 c0:Vl}{es1 es2:Array DictEntry}{ep1 ep2:Nat}{sl1 sl2 T7:Array (Option Vl)}{cd2:ClassData}{oI:Obj} (l1:K.lookup C=some (excClassObj nm q C N bs (.ref C2::KW) hdct sn sub ab col dd k0 k1 k2 k3 k5 "ValueError.__new__")) (n1:K.lookup N=some ⟨oc1,od1,.dict es1 ep1,sl1⟩) (s1:Bi es1=true) (i1:nsFind es1 "__init__"=some (.ref fI)) (l2:K.lookup C2=some ⟨c0,dd2,.cls cd2,T7⟩) (n2:K.lookup cd2.ns=some ⟨oc2,od2,.dict es2 ep2,sl2⟩) (s2:Bi es2=true) (i2:nsFind es2 "__init__"=none) (l3:K.lookup fI=some oI) (hf:W.isFn K (.ref fI)=true):HK K C fI:=by
 have hc:oI.cls=.type "function":=by have hf:=fg.mp hf;unfold W.typeIn at hf;simp only at hf;rw[l3]at hf;exact de hf
 refine⟨nm,q,N,bs,.ref C2::KW,KW,hdct,sn,sub,ab,col,dd,k0,k1,k2,k3,k5,"ValueError","ValueError","ValueError.__new__","ValueError.__new__","ValueError.__init__","ValueError.__init__",KW,λn=>nsFind es1 n,ke,by decide+kernel,ke,?_,i1,λh X=>⟨X C _ l1,⟨_,es1,ep1,X N _ n1,rfl,BV s1,λ_=>rfl⟩,.own (X C2 _ l2) ⟨_,es2,ep2,X _ _ n2,rfl,BV s2,λ_=>rfl⟩ i2 .base,oI,X fI _ l3,hc⟩⟩;rw[ik];have:KW.contains (.type "BaseException")=true:=by decide+kernel
 rw[this,jD]
def IX{K:pX}{C C2 N:Addr}{nm q f:Str}{bs sub:List Vl}{ab:Bool}{sn:List Str}{col:Option Bool}{dd:Option Addr}{k0 k1 k2 k3 k5:Option Vl}(l1:K.lookup C=some (excClassObj nm q C N bs (.ref C2::KW) true sn sub ab col dd k0 k1 k2 k3 k5 "ValueError.__new__"))(sa:W.findIn K (.ref C) "__setattr__"=some (some (.builtin "object.__setattr__")))(tk:W.findIn K (.ref C) f=some none):xW K C f:=by refine⟨sa,⟨_,[C,C2],by unfold W.clsIn;rw[l1],rfl,rfl⟩,?_⟩;unfold W.takerIn;rw[tk];rfl
end L2
namespace L3
open PySem PySem.Spec PyProof.Rows L2
variable {X:Cx}{pos VA:Pos}{o e:Expr}{es:List Expr}{ta:T3}{t:wN}
structure FA where
 f:Addr
 d:FuncData
 p:List Str
structure DG(K:pX)(st:Stmt)(py qual:Str)(ps:List Str)(x:FA):Prop where
 pe:x.p=ps
 fn:OS K py qual st x.f x.d
 b:ui K x.d x.p []
 ty:W.isFn K (.ref x.f)=true
structure TG(K:pX)(mg:Str->Option Vl)(st:Stmt)(py:Str)(ps:List Str)(x:FA):Prop extends DG K st py py ps x where
 mg:mg py=some (.ref x.f)
structure MG(K:pX)(C:Addr)(st:Stmt)(py qual:Str)(ps:List Str)(x:FA):Prop extends DG K st py qual ps x where
 at_:W.findIn K (.ref C) py=some (some (.ref x.f))
structure CG(K:pX)(mg:Str->Option Vl)(nm:Str)(C:Addr):Prop extends Cls K C where
 mg:mg nm=some (.ref C)
def DG.kp{K:pX}{st:Stmt}{py qual:Str}{ps:List Str}{x:FA}(h:DG K st py qual ps x):W.keepIn K (.ref x.f)=true:=h.fn.kp
def MG.mR{K:pX}{C:Addr}{st:Stmt}{py qual:Str}{ps:List Str}{x:FA}(h:MG K C st py qual ps x):uU K C py x.f:=⟨h.at_,h.ty,h.toDG.kp⟩
def yw(K:pX)(C:Addr)(fs:List Str):Prop:=∀f,fs.contains f=true->tE K C f
def sr{K:pX}{C:Addr}:yw K C []:=λf h=>by simp at h
def pz{K:pX}{C:Addr}{g:Str}{fs:List Str}(h:W.findIn K (.ref C) g=some none)(r:yw K C fs):yw K C (g::fs):=λf q=>by
 rw[ik,gO]at q;rcases q with q|q
 .rw[eq_of_beq q];exact h
 .exact r f q
abbrev Fq(P:Pg)(w:Wo)(K:pX)(mg:Str->Option Vl)(base:Heap)(k:Nat)(x:FA)(sp:qJ):Prop:=RK P w K mg base k x.f x.d x.p sp
abbrev UG(P:Pg)(w:Wo)(K:pX)(mg:Str->Option Vl)(base:Heap)(k:Nat)(x:FA)(sp:Gg):Prop:=QF P w K mg base k x.f x.d x.p sp
def Rv(N P:List Str)(sc:Scope):Bool:=sc.kind==.function&&(!sc.isCoroutine&&(!sc.isGenerator&&(decide N.Nodup&&(decide (N.take P.length=P)&&((P.all λx=>sc.names.lookup x==some .local||sc.names.lookup x==some .cell)&&sc.names.all λy=>!(y.2==.free))))))
def Vn{N P:List Str}{sc:Scope}(h:Rv N P sc=true):se N P sc:=by
 unfold Rv at h;simp only[dP,gC,fg,d6]at h;obtain⟨h1,h2,h3,h4,h5,h6,h7⟩:=h;refine⟨h1,h2,h3,h4,h5,λx hx=>?_,λy hy e=>?_⟩
 .have:=eY.mp h6 x hx
  simpa using this
 .have:=eY.mp h7 y hy;rw[e]at this;simp at this
variable {P:Pg}{w:Wo}{K:pX}{mg:Str→Option Vl}{base:Heap}
def Uy{x qual:Str}{st:Stmt}{fa:FA}{N ps:List Str}{k:Nat}{sp:qJ}(F:DG K st x qual ps fa)(S:se N ps (pL st))(len:∀ds M Q,sp ds M Q->ds.length=ps.length) (VT:∀(VG:Vl) (A:Ar) (outer:List Env) (s:Sd) (H:Hp) (E:XK),rC k (A.deeper (envOfC qual (pL st) s.heap.objs.size fa.f VG))->
   ∃t,GH (uE MI P w K mg base N qual (pL st) fa.f VG A outer s H E).nZ (rj st) t/\∀ds M Q,sp ds M Q->t {nx:=λ_ M'=>∃Vz,pY Vz M'/\Q .mz Vz,rt:=λd M'=>∃Vz,pY Vz M'/\Q d Vz} (wq N ds) M):Fq P w K mg base (k+1) fa sp:=by
 unfold Fq;rw[F.pe];exact SM F.fn S len VT
def SQ{x qual:Str}{st:Stmt}{fa:FA}{N ps:List Str}{k:Nat}{sp:Gg}(F:DG K st x qual ps fa)(S:se N ps (pL st))(len:∀ds M Q R,sp ds M Q R->ds.length=ps.length) (VT:∀(VG:Vl) (A:Ar) (outer:List Env) (s:Sd) (H:Hp) (E:XK) (R:XR),rC k (A.deeper (envOfC qual (pL st) s.heap.objs.size fa.f VG))->Ti K R E->
   ∃t,GH (uE (Bv P w) P w K mg base N qual (pL st) fa.f VG A outer s H E) (rj st) t/\∀ds M Q,sp ds M Q R->t {nx:=λ_ M'=>∃Vz,pY Vz M'/\Q .mz Vz,rt:=λd M'=>∃Vz,pY Vz M'/\Q d Vz} (wq N ds) M):UG P w K mg base (k+1) fa sp:=by
 unfold UG;rw[F.pe];exact Sk F.fn S len VT
variable {k n:Nat}{f C:Addr}{fa:FA}{st:Stmt}{qual:Str}{ps:List Str}{sp:qJ}{x m:Str}{p:Pos}
def oY(F:Fq X.prog X.w X.K X.mg X.base k fa sp)(hr:rC n X.A)(T:TG X.K X.mg st x ps fa)(ha:A3 X (e::es) t)(hn:k<=n:=by first|decide|omega)(hg:Gl X x:=by rfl)
  (VQ:yX x:=by decide) (he:AB X e es:=by rfl) (VN:B0 X pos es:=by rfl):
  E3 X (.Call (.Name x p) (e::es) [] pos) (CV sp t):=Oj F (hr.mono hn) hg T.mg T.toDG.kp T.b ha VQ he VN
def uL(F:Fq X.prog X.w X.K X.mg X.base k fa sp)(hr:rC n X.A)(c:CG X.K X.mg x C)(i:Mk X.K C fa.f)(T:DG X.K st m qual ps fa)(ha:A3 X (e::es) t)(hn:k+1<=n:=by first|decide|omega)(hg:Gl X x:=by rfl)
  (VQ:yX x:=by decide) (he:AB X e es:=by rfl) (VN:B0 X pos es:=by rfl):
  E3 X (.Call (.Name x p) (e::es) [] pos) (PL C sp t):=NY c.toCls i F (hr.mono hn) hg c.mg T.b ha VQ he VN
def pI{pl:Sem Bool}(he:E3 X o ta)(c:Cls X.K C)(T:MG X.K C st m qual ps fa)(F:Fq X.prog X.w X.K X.mg X.base k fa sp)(hr:rC n X.A)(ha:A3 X (e::es) t)(hn:k<=n:=by first|decide|omega)
  (VS:AB X e es:=by rfl) (VN:B0 X pos es:=by rfl)
  (ht:eval (.Call (.Attribute o m VA) (e::es) [] pos) X.env=(do
   let ov<-eval o X.env
   standAt VA.atName
   let(f,first)<-holding [ov] (getMethod ov m pl)
   callWith pos f first (backTo pos (starEach (e::es) X.env)) (backToKw pos (keywordEach [] X.env))):=by rfl):
  E3 X (.Call (.Attribute o m VA) (e::es) [] pos) (zU m (λD s=>D=C/\s=sp) ta t):=
 Dq (R:=λD s=>D=C/\s=sp) he (λD s ⟨e1,e2⟩=>by subst e1 e2;exact⟨c,_,_,_,T.mR,F,T.b⟩) (hr.mono hn) ha VS VN ht
def xE{pl:Sem Bool}(he:E3 X o ta)(c:Cls X.K C)(T:MG X.K C st m qual ps fa)(F:Fq X.prog X.w X.K X.mg X.base k fa sp)(hr:rC n X.A)(hn:k<=n:=by first|decide|omega)
  (ht:eval (.Call (.Attribute o m VA) [] [] pos) X.env=(do
   let ov<-eval o X.env
   standAt VA.atName
   let(f,first)<-holding [ov] (getMethod ov m pl)
   callWith pos f first (backTo pos (starEach [] X.env)) (backToKw pos (keywordEach [] X.env))):=by rfl):
  E3 X (.Call (.Attribute o m VA) [] [] pos) (zU m (λD s=>D=C/\s=sp) ta xf):=
 Bg (R:=λD s=>D=C/\s=sp) he (λD s ⟨e1,e2⟩=>by subst e1 e2;exact⟨c,_,_,_,T.mR,F,T.b⟩) (hr.mono hn) ht
def yd{pl:Sem Bool}(cm:Ka X.K C m fa.f)(F:Fq X.prog X.w X.K X.mg X.base k fa sp)(hr:rC n X.A)(c:CG X.K X.mg x C)(T:DG X.K st m qual ps fa)(ha:A3 X (e::es) t)(hn:k<=n:=by first|decide|omega)(hg:Gl X x:=by rfl)
  (VQ:yX x:=by decide) (VS:AB X e es:=by rfl) (VN:B0 X pos es:=by rfl)
  (ht:eval (.Call (.Attribute (.Name x p) m VA) (e::es) [] pos) X.env=(do
   let ov<-eval (.Name x p) X.env
   standAt VA.atName
   let(f,first)<-holding [ov] (getMethod ov m pl)
   callWith pos f first (backTo pos (starEach (e::es) X.env)) (backToKw pos (keywordEach [] X.env))):=by rfl):
  E3 X (.Call (.Attribute (.Name x p) m VA) (e::es) [] pos) (CV sp t):=NA cm F (hr.mono hn) hg c.mg T.kp T.b ha VQ VS VN ht
variable {h:Heap}{py:Str}{od an:Option Addr}{sl:Array (Option Vl)}{kv dc pm cd ct:Vl}
def Ij{fd:FuncData}{oc:Vl}(l:K.lookup f=some ⟨oc,od,.func fd,sl⟩):W.keepIn K (.ref f)=true:=by unfold W.keepIn;simp only;rw[l]
def Oy{fd:FuncData}(l:K.lookup f=some ⟨.type "function",od,.func fd,sl⟩):W.isFn K (.ref f)=true:=by unfold W.isFn W.typeIn;simp only;rw[l];rfl
abbrev mF(py qual:Str)(st:Stmt)(ps:List Str):Prop:=∀(kV We pm:Vl) (an:Option Addr) (VG ct:Vl) (us:List Vl),us.length=ps.length->bindArgs (W.fnOf py qual (tL st) (rj st) (pL st) .none kV We pm an VG ct) ⟨us,[]⟩=pure (ps.zip us)
def Pe(l:K.lookup f=some ⟨.type "function",od,.func (W.fnOf py qual (tL st) (rj st) (pL st) .none kv dc pm an cd ct),sl⟩)(k:W.codeIn K cd qual=true)(hb:mF py qual st ps):
  DG K st py qual ps ⟨f,W.fnOf py qual (tL st) (rj st) (pL st) .none kv dc pm an cd ct,ps⟩:=⟨rfl,La l k (Ij l),(La l k (Ij l)).binds hb,Oy l⟩
def pV(X:K.In h)(G:h.Ns mainGlobals mg)(a:W.nsIn K mainGlobals py=some (some (.ref f)))(l:K.lookup f=some ⟨.type "function",od,.func (W.fnOf py py (tL st) (rj st) (pL st) .none kv dc pm an cd ct),sl⟩)(k:W.codeIn K cd py=true)(hb:mF py py st ps):
  TG K mg st py ps ⟨f,W.fnOf py py (tL st) (rj st) (pL st) .none kv dc pm an cd ct,ps⟩:=⟨Pe l k hb,W.mg_of X G a⟩
def pJ(a:W.findIn K (.ref C) py=some (some (.ref f)))(l:K.lookup f=some ⟨.type "function",od,.func (W.fnOf py qual (tL st) (rj st) (pL st) .none kv dc pm an cd ct),sl⟩)(k:W.codeIn K cd qual=true)(hb:mF py qual st ps):
  MG K C st py qual ps ⟨f,W.fnOf py qual (tL st) (rj st) (pL st) .none kv dc pm an cd ct,ps⟩:=⟨Pe l k hb,a⟩
def vB(X:K.In h)(G:h.Ns mainGlobals mg)(a:W.nsIn K mainGlobals py=some (some (.ref C)))(h1:W.plainGet K C Str.empty=true)(h2:W.hasDictIn K C=true)(h3:W.plainOver K C=true)(h4:W.findIn K (.ref C) "__setattr__"=some (some (.builtin "object.__setattr__"))):CG K mg py C:=⟨⟨h1,h2,h3,h4⟩,W.mg_of X G a⟩
def Tb(h1:(W.clsIn K C).isSome=true)(h2:W.findIn K (.ref C) "__getattribute__"=some (some (.builtin "BaseException.__getattribute__")))(h3:W.findIn K (.ref C) "__getattr__"=some none)(h4:W.findIn K (.ref C) "__class__"=some (some (.builtin "object.__class__"))) (h5:W.specialIn K (.builtin "object.__class__") "__get__"=some (some (.builtin "getset_descriptor.__get__"))) (h6:W.takesIn K (.builtin "object.__class__")=some true) (h7:W.mroIn K C (.type "object")=some true) (h8:W.mroIn K C (.type "BaseException")=some true):Le K C:=⟨h1,h2,h3,h4,h5,h6,h7,h8⟩
def O7{x:Str}{a:Addr}{es:List DictEntry}{ep:Nat}{T:List (Str×List Str)}(h:mg x=some (.ref a))(s:(a==sysModules)=false)(l:K.lookup a=some ⟨.type "dict",none,.dict es.toArray ep,#[]⟩) (r:KTD.Rows (λ(ss:List Str) v=>∃t,v=Value.ref t/\ux K (λ_=>none) t (ss.map V.str)) es T):KA K mg x T:=⟨a,_,_,_,h,s,l,⟨rfl,rfl,rfl⟩,rfl,by simpa using r⟩
def Kn{P:Pg}{w:Wo}{base:Heap}{x qual y1 y2 fl:Str}{st:Stmt}{fa:FA}(F:DG K st x qual [y1,y2] fa)(S:se [y1,y2] [y1,y2] (pL st)) (hb:∀(VG:Vl) (A:Ar) (outer:List Env) (s:Sd) (H:Hp) (E:XK),BE (uE (Bv P w) P w K mg base [y1,y2] qual (pL st) fa.f VG A outer s H E) (rj st) (Lu K (Ex 0) (Ex 1) fl)):wC P w K mg base (Bv P w) 1 fa.f fa.d fa.p (vD K fl):=by
 rw[F.pe];exact Lr F.fn S hb
def SU(ds:List D)(M:Mp)(Q:DK):Prop:=match ds with
 | [.ref a]=>(oA M a).elim False λes=>(Fk es).elim False λbs=>Q (.bl (bs.any id)) M
 | _=>False
def Q4(hc:X.calm=true):C3 X (.builtin "any") SU:=by
 intro Vw s σ H vs us Q' I rv h;obtain⟨ds,M,Q,hd,hm,q,k⟩:=h;unfold SU at q;split at q
 .rename_i a;obtain⟨v,rfl,hv⟩:=rq hd;obtain⟨es,e0,q⟩:=qF q;obtain⟨bs,e1,q⟩:=qF q;cases hv.mq;obtain⟨u,rfl,ru⟩:=wA rv;cases ru;obtain⟨xs,h1,h2,_⟩:=pW hm e0;obtain⟨its,r,pl,hz⟩:=I.list h1;have YD:=DI e1 h2 r;subst YD;have VV:a≠s.heap.objs.size:=by obtain⟨o,_,e,_⟩:=pl;exact dE (dq e)
  refine call_any_walk (gB pl.isList ?_);refine⟨s.heap.objs.size,_,_,_,_,_,λi=>(bs[i]?).getD false,rfl,j9 (A:=X.A.in1) (I.ok.hd hc) _ a VV (bs.map Value.bool).toArray,⟨⟨_,dC _ rfl,rfl,rfl⟩,?_⟩,λi v s' Q E hP hQ=>?_,λh' tk hk=>?_⟩
  .obtain⟨o,n,e,c,d,q⟩:=pl;exact⟨o,cW _ e,c,n,q⟩
  .simp only[iA,dw]at hP;cases e2:bs[i]? with
   | none=>rw[e2]at hP;cases hP
   | some b=>rw[e2]at hP;cases hP;have hQ:Q ((bs[i]?).getD false) s':=hQ;rw[e2]at hQ;exact eZ hQ
  .have ea:(List.range (bs.map Value.bool).toArray.size).any (λi=>(bs[i]?).getD false)=bs.any id:=by
    rw[dh,cQ];rw[gf,gp,gp];constructor
    .rintro ⟨i,hi,z⟩
     have Xw:=gk.mp hi;rw[cS Xw]at z;exact⟨_,hW Xw,z⟩
    .rintro ⟨b,hb,z⟩
     obtain⟨i,hi,e⟩:=fM hb;refine⟨i,gk.mpr hi,?_⟩;rw[cS hi,e];exact z
   rw[ea];refine⟨.bl (bs.any id),H,?_,rfl,k _ _ _ _ .bl hm .refl q⟩;exact I.kept (h':=h') (t':=tk) λb o e=>hk b o (by simpa using dE (dq e)) (cW _ e)
 .exact q.elim
def Rr:bootBuiltins "any"=some (.builtin "any"):=by decide+kernel
end L3
namespace L2
open PySem PySem.Spec PyProof.Rows
def JH(a C d:Addr)(h:Heap):Prop:=Ay λoe vs=>h.get? a=some oe/\oe.cls=.ref C/\oe.data=.fields vs/\oe.dict=some d
structure NX(K:pX)(C:Addr)(f:Str):Prop where
 ci:Le K C
 hh:W.hasDictIn K C=true
 tk:W.findIn K (.ref C) f=some none
def L'{h:Heap}{d:Addr}{m:Str->Option Vl}{f:Str}{u:Vl}(x:h.Ns1 d m)(e:m f=some u):∃od,h.get? d=some od/\W.lookIn f od=some (some u):=by obtain⟨o,es,ep,e1,e2,_,_,e3⟩:=x;refine⟨o,e1,?_⟩;have e3:=e3 f;rw[e]at e3;unfold nsFind findBy at e3;rw[<-kG]at e3;obtain⟨en,h1,h2⟩:=iq.mp e3;unfold W.lookIn;rw[e2];dsimp only;rw[h1];exact eL (λz=>some (some z)) h2
variable {prog:Pg}{w:Wo}{A:Ar}{E:Vl→Sd→Prop}{s:Sd}{K:pX}{x C:Addr}{ox od:Obj}{f:Str}{v:Vl}
def Kp{tk:Tok}{Q:PySem.Fin->Sd->Prop}(X:K.In s.heap)(I:W.InstAt s.heap x ox C (some od))(hf:W.findObj K C (some od) f=some (.value v))(h:Q (.done (.ret v)) s):wpAny (model prog w) A (Builtin.«object.__getattribute__» {pos:=[.ref x,.str f tk]}) Q E s:=by have L0:=I.type (M:=model prog w);unfold Builtin.«object.__getattribute__» slotArgs;refine cR ?_;rw[cV (by simp)];dsimp only;rw[cV (by simp)];refine cY ?_;dsimp only;refine cR ?_;unfold Builtin.ObjectAttr.attrName;refine cY (cR (L0.at (cR ((W.looks_find X I hf).at ?_))));exact cY h
def NP{Yl:Bool}{Q:Vl->Sd->Prop}(c:NX K C f)(X:K.In s.heap)(I:W.InstAt s.heap x ox C (some od))(hl:W.lookIn f od=some (some v))(hv:W.handedIn v=true)(h:Q v {s with toks:=s.toks+1}):wpAny (model prog w) A (getAttr (.ref x) f Yl) Q E s:=by have L0:=I.type (M:=model prog w);unfold getAttr getAttrBy;refine cR (wpAny_mkText (d9 (cR (L0.at (cR ((iS X c.ci.ga).at ?_))))));dsimp only;rw[cV (by simp)];unfold getAttrByItsOwn;refine cR ?_;unfold hookBefore;rw[cX (by rfl)];refine(iS X c.ci.gt).at (cR (km (d9 ?_)));unfold callGetattribute;rw[cV (by simp;intro _;rfl)];unfold boundAndCalled;refine cR ?_;rw[j4.ga.bind (.ref x)];refine cY ?_;refine hG (hU j4.ga.plain F.entry_bexc_ga (LL c.ci X I.at_ I.cls ?_));exact Kp X I (W.findObj_own c.hh c.tk rfl hl) (W.handed_on hv h)
variable {X:Cx}{e:Expr}{pos:Pos}{ta:TE}
def Me:V->Bool
 | .str _=>true
 | .int _=>true
 | .bl _=>true
 | .mz=>true
 | _=>false
def EM{v:V}{u:Vl}(r:qm v u)(p:Me v=true):W.handedIn u=true:=by
 cases v<;>first
  | (cases r;rfl)
  | (obtain⟨t,rfl⟩:=r;rfl)
  | cases p
def LA(K:pX)(ta:TE)(f:Str):TE:=λσ H Q=>ta σ H λx H1=>AD λa C d v=>x=.ref a/\H1 a=some (.ext (JH a C d))/\H1 d=some (.ext (MF d f v))/\NX K C f/\Me v=true/\Q v H1
def OO(he:PE X e ta)(hb:attributeBase e f X.env (eval e X.env)=eval e X.env):PE X (.Attribute e f pos) (LA X.K ta f):=by intro Vw s σ H Q I h;refine HW hb (rQ (he Vw s σ H _ I h) λu s1 zz=>?_);obtain⟨x,H1,I1,rx,a,C,d,v,ex,ea,ed,c,p,q⟩:=zz;subst ex;obtain rfl:u=Value.ref a:=rx;obtain⟨⟨oe,vs,e1,e2,e3,e4⟩,_,_⟩:=I1.mE a _ ea;obtain⟨⟨u,n1,r⟩,_,_⟩:=I1.mE d _ ed;obtain⟨od,g1,g2⟩:=L' n1 (cX rfl);exact NP (ox:=oe) c I1.mV ⟨e1,e2,by unfold W.notCls;rw[e3],by rw[e4];exact g1⟩ g2 (EM r p) ⟨v,H1,I1.tok _,r,q⟩
def Od{P:Pg}{w:Wo}{H:Hp}{h:Heap}{a C d:Addr}(x:JH a C d h):sf P w H h a (.ext (JH a C d)):=by refine⟨x,?_,λh1 h2 ⟨oe,vs,e1,e2,e3,e4⟩ k=>⟨oe,vs,k oe e1,e2,e3,e4⟩⟩;obtain⟨oe,_,e,_⟩:=x;exact⟨oe,e⟩
def Oc{X:Cx}{st b₀:Stmt}{WY:List Stmt}{cn n:Str}{cnp W6 pos:Pos}{Cc L:Addr}{outer:List Env}{i:Nat}{t:DT->St->Hp->(Hp->Prop)->XK->Prop}{th:TS}(hb:Va X st t)(VS:X.stack=X.env::outer)(hL:X.env.frame=some L)(hg:Gl X cn)(hm:X.mg cn=some (.ref Cc)) (hN:X.N.Nodup) (hi:X.N[i]?=some n) (hk:X.env.scope.names.lookup n=some .local) (hs:∀ev E',BE (X.marked ev E') (b₀::WY) th) (VQ:yX cn:=by decide):
  PS X (.Try [st] [.ExceptHandler (some (.Name cn cnp)) (some n) (b₀::WY) W6] [] [] pos) (λD σ H=>∃(J:Hp->Prop) (E:XK),t D σ H J E/\∀C dx H1 H',J H1->TKept H1 H'->E (.ref C) dx H'->∃d,dx=some d/\W.exmOne X.K (.ref C) (.ref Cc)=some true/\
   ∀a,H' a=none->th {nx:=λσ' H2=>D.nx (σ'.set i none) H2,rt:=D.rt,bk:=λσ' H2=>D.bk (σ'.set i none) H2,ct:=λσ' H2=>D.ct (σ'.set i none) H2} (σ.set i (some (.ref a))) (upd H' a (.ext (JH a C d)))):=by
 intro Vw s σ H D I ⟨J,E,h,hh⟩;refine wpAny_Try_except (dZ (Q:=λf s'=>SP X Vw D f s') (jt (rQ (hb Vw s σ H D J E I h) λf s1 q=>?_)) (λf s1 q=>?_) λev s1 x=>?_)
 .cases f with
  | next=>exact gM q
  | brk=>exact q
  | cont=>exact q
  | ret v=>exact q
 .cases f with
  | next=>exact gM q
  | brk=>exact q
  | cont=>exact q
  | ret v=>exact q
 .refine dZ (RF x VS hL) (λ_ s2 y=>rQ y λ_ s3 z=>?_) λ_ _ z=>z;obtain⟨a,C,dx,H',tb,H1,s1,rfl,q,I3,x3,na,nt,jH,tk,I1,n1⟩:=z;obtain⟨d,rfl,Vy,h1⟩:=hh C dx H1 H' jH tk q;refine wpAny_handleBy_cons (codeAny_handlers_test (wn (X:=X.marked (.ref a) λ_ _=>False) I3.mark hg hm ?_ VQ)) (by intro z;cases z);obtain⟨oe,vs,ho,hc,Xp,hd,_⟩:=id x3;refine W.exm_one I3.mV (BK ho) (by rw[hc];exact Vy) _ _ _ _ (λ_ _ z=>z) ?_;refine codeAny_handlers_suite_as (E6 x3 λh' hh'=>?_);have I4:Inv X Vw σ H' {s3 with heap:=h'}:=I3.kept (t':=s3.toks) λb u z=>by rw[hh' b];exact z
  have I5:Inv X Vw σ (upd H' a (.ext (JH a C d))) {s3 with heap:=h'}:=I4.adopt I1 n1 na (Od ⟨oe,vs,by show h'.get? a=_;rw[hh' a];exact ho,hc,hd,Xp⟩);refine wF (v:=.ref a) I5 hN hi (.inl hk) rfl (λs6 I6=>?_) (.inr hk);refine dZ (hs (.ref a) _ Vw _ _ _ _ I6.mark (h1 a na)) (λf s7 q7=>?_) λ_ _ z=>z;have q7:=SP.unmark I.ok q7;cases f with
  | next=>obtain⟨σ',H2,I7,q⟩:=q7;exact xI I7 hN hi hk λs8 I8=>⟨_,H2,I8,q⟩
  | brk=>obtain⟨σ',H2,I7,q⟩:=q7;exact xI I7 hN hi hk λs8 I8=>⟨_,H2,I8,q⟩
  | cont=>obtain⟨σ',H2,I7,q⟩:=q7;exact xI I7 hN hi hk λs8 I8=>⟨_,H2,I8,q⟩
  | ret v=>obtain⟨y,σ',H2,I7,r,q⟩:=q7;exact xI I7 hN hi hk λs8 I8=>⟨y,_,H2,I8,r,q⟩
end L2
namespace L3
open PySem PySem.Spec PyProof.Rows L2
variable {X:Cx}{cn n x:Str}{e:Expr}{cnp W6 pos VA YH p1 p2 p3 p4:Pos}{Cc L:Addr}{outer:List Env}{i ix:Nat}{te:RI}{fl:Str}
def Sb(K:pX)(ix i:Nat)(Cc:Addr)(fl:Str)(te:RI):xq:=λD δ M=>∃R,te δ M (λd M1=>D.nx (δ.set ix (some d)) M1) R/\∀C y M',R C y M'->W.exmOne K (.ref C) (.ref Cc)=some true/\NX K C fl/\∃z,y=some (fl,.str z)/\D.nx ((δ.set ix (some (.str z))).set i none) M'
def O0(he:UY X e te)(VS:X.stack=X.env::outer)(hL:X.env.frame=some L)(hg:Gl X cn)(hm:X.mg cn=some (.ref Cc))(hN:X.N.Nodup)(XS:X.N[ix]?=some x)(hx:X.env.scope.names.lookup x=some .local)(hi:X.N[i]?=some n)(hk:X.env.scope.names.lookup n=some .local)(VV:ix≠i) (hd:yX n:=by decide) (WA:(n==("__classdict__":Str))=false:=by decide) (hab:attributeBase (.Name n p2) fl X.env (eval (.Name n p2) X.env)=eval (.Name n p2) X.env:=by rfl) (hsw2:swapsWith (.Attribute (.Name n p2) fl p3) (some (.Name x p1)) p4.line X.env=pure false:=by rfl)
  (VQ:yX cn:=by decide) (W4:swapsWith e (some (.Name x YH)) VA.line X.env=pure false:=by rfl):
  S3 X (.Try [.Assign [.Name x YH] e VA] [.ExceptHandler (some (.Name cn cnp)) (some n) [.Assign [.Name x p1] (.Attribute (.Name n p2) fl p3) p4] W6] [] [] pos) (Sb X.K ix i Cc fl te):=
 PS.ny (Oc (th:=NT (LA X.K (Ex i) fl) (Io ix)) (Nd hN XS (.inl hx) he W4 (.inr hx)) VS hL hg hm hN hi hk (λev E'=>DH (Kj (X:=X.marked ev E') (te:=LA X.K (Ex i) fl) hN XS (.inl hx) (OO (X:=X.marked ev E') (KS (X:=X.marked ev E') hi (.inl hk) hd WA) hab) hsw2 (.inr hx))) VQ) λD' σ H hl ⟨δ,M,D,hs,hm,⟨R,ht,hh⟩,k1,k2,k3,k4⟩=>by
  refine⟨λH1=>qx X.K H H1,λcv d H'=>∃C M' y,cv=.ref C/\HM X.K H' M'/\SL X.K H' d y/\R C y M',⟨δ,M,_,R,hs,hm,ht,λv H1 d M1 hd Vy e1 q1=>?_,λ_ z=>z,λC dx H' M' y h1 h0 h2=>⟨C,M',y,rfl,h1,h0,h2⟩⟩,λC dx H1 H' jH tk ⟨C',M',y,ec,W5,Xp,r⟩=>?_⟩
  .exact k1 _ H1 _ M1 ((hs.mono e1).set hd (by rw[hl];exact(cT.mp XS).1)) Vy e1 (by simp) q1
  .cases ec;obtain⟨r1,c,z,ey,q⟩:=hh C y M' r;rcases Xp with⟨_,z⟩|⟨d,f,z',v,ed,ez,hd,hv⟩
   .rw[ey]at z;cases z
   .rw[ey]at ez;cases ez;have hiσ:i<σ.length:=by rw[hl];exact(cT.mp hi).1
    refine⟨d,ed,r1,λa na=>⟨.ref a,by rw[eF hiσ],a,C,d,v,rfl,pM,?_,c,?_,?_⟩⟩
    .rw[pH]
     .exact hd
     .intro z;rw[z,na]at hd;cases hd
    .rw[hv.str_inv];rfl
    .have e1:qx X.K H H':=jH.trans (L2.TKept.ext tk);have e2:qx X.K H' (upd H' a (.ext (JH a C d))):=.new na;have s1:=(hs.mono (e1.trans e2)).set (i:=ix) (hv.mono e2) (by rw[hl];exact(cT.mp XS).1);have s2:=s1.unset (i:=i);refine k1 _ _ _ M' ?_ (W5.add na) (e1.trans e2) (by simp) q;rw[List.set_comm _ _ VV.symm,iI];exact s2
end L3
namespace L2
open PySem PySem.Spec PyProof.Rows
variable {prog:Pg}{w:Wo}{A:Ar}{E:Vl→Sd→Prop}{s:Sd}
theorem CP{it t:Addr}{Vx:Array Vl}(VV:t≠it):∀(n i:Nat) (s:Sd) (Q:List Vl->Sd->Prop),s.heap.IsListIter it t i->s.heap.IsList t Vx->i+n<=Vx.size->
  (∀h',h'.IsListIter it t (i+n)->Heap.SameBut it s.heap h'->Q ((Vx.toList.drop i).take n) {s with heap:=h'})->wpAny (model prog w) A (draw (.ref it) n) Q E s
 | 0,i,s,Q,hit,_,_,hQ=>by show wpAny _ _ (pure []) Q E s;exact cY (by simpa using hQ s.heap hit (Heap.SameBut.refl ..))
 | n+1,i,s,Q,hit,ht,YI,hQ=>by
  have VL:i<Vx.size:=by omega
  show wpAny _ _ (pyNext (.ref it)>>=_) Q E s;refine cR (jS hit ht (x:=Vx[i]) (by simp[VL]) λh₁ YJ hs₁=>?_);refine cR (d9 (CP VV n (i+1) _ _ YJ (ht.extBut hs₁.extBut VV) (by omega) λh₂ hit₂ hs₂=>cY ?_));have hd:Vx.toList.drop i=Vx[i]::Vx.toList.drop (i+1):=by simp[gF,VL]
  have:=hQ h₂ (by rw[show i+(n+1)=i+1+n by omega];exact hit₂) (hs₁.trans hs₂);rw[hd,List.take_succ_cons]at this;exact this
def zB{t:Addr}{Vx:Array Vl}{Q:List Vl->Sd->Prop}(hh:A.handled=none)(ht:s.heap.IsList t Vx) (hQ:∀h',Heap.ExtBut s.heap.objs.size s.heap h'->Q Vx.toList {s with heap:=h'}):wpAny (model prog w) A (unpackItems (.ref t) Vx.size none) Q E s:=by
 have VL:t≠s.heap.objs.size:=by obtain⟨o,ho,_⟩:=ht;exact dE (dq ho)
 unfold unpackItems;refine cR ?_
 .unfold notIterableAtAll;refine cR (iF ht.typeIs slot_list_iter.lookup ?_);refine cY ?_;simp only[jc,jw];refine cR (d9 (gB ht ?_));refine cR (d9 (CP VL Vx.size 0 _ _ ⟨_,dC _ rfl,rfl,rfl⟩ (ht.push _) (by omega) λh₁ YJ hs₁=>?_));have Wh:List.take Vx.size (List.drop 0 Vx.toList)=Vx.toList:=by rw[iU];exact gS (by simp)
  rw[Wh];rw[cV (by simp)];have ht₁:h₁.IsList t Vx:=(ht.push _).extBut hs₁.extBut VL;refine cR (d9 (jV hh YJ ht₁ (by simp) λh₂ he₂=>?_));simp only[Option.isSome_none,jc,jw];refine cY (hQ h₂ λb o hb e=>he₂ b o hb (hs₁.extBut b o hb (cW _ e)))
def yC{env:Env}{VX:List Expr}{x1}{pos:Pos}{t:Addr}{Vx:Array Vl}{Q:Unit->Sd->Prop}(hh:A.handled=none)(ht:s.heap.IsList t Vx) (hn:(assignEach VX env).length=Vx.size) (hstar:(assignEach VX env).findIdx? (·.1)=none) (h:∀h',Heap.ExtBut s.heap.objs.size s.heap h'->wpAny (model prog w) A (assignInOrder ((assignEach VX env).map (·.2)) Vx.toList) Q E {s with heap:=h'}):
  wpAny (model prog w) A (assign (.Tuple VX x1 pos) env (.ref t)) Q E s:=by
 rw[arm_assign_Tuple];refine cR (gK ?_);unfold unpack;rw[hn,hstar];exact cR (d9 (zB hh ht h))
end L2
namespace L3
open PySem PySem.Spec PyProof.Rows L2
variable {X:Cx}{pos:Pos}
def PR(n:Nat)(t:Cn):B1:=λd δ M Q=>match d with|.ref a=>(oA M a).elim False λds=>ds.length=n/\t ds δ M Q|_=>False
def MR{es:List Expr}{k:Nat}{t:Cn}{n:Nat}(hc:X.calm=true)(h:SW X es t)(hn:(assignEach es X.env).length=n:=by rfl)(VS:(assignEach es X.env).findIdx? (·.1)=none:=by rfl):G3 X (.Tuple es k pos) (PR n t):=by
 intro Vw s σ H v u Q' I r ⟨d,δ,M,Q,hd,hs,hm,ht,kq⟩;cases d with
 | ref a=>
  obtain⟨ds,e,hl,ht⟩:=qF ht;cases hd.mq;cases r;obtain⟨xs,h1,h2,_⟩:=pW hm e;obtain⟨its,rv,pl,hz⟩:=I.list h1;have hx:xs.length=n:=by rw[<-hl];exact h2.length.symm
  refine yC (I.ok.hd hc) pl.isList (by simp[hn,<-hx,rv.length]) VS λh' hx=>?_;have I1:Inv X Vw σ H {s with heap:=h'}:=I.kept (t':=s.toks) λb o e=>hx b o (dE (dq e)) e;exact h Vw _ σ H xs _ Q' I1 (by simpa using rv) ⟨ds,δ,M,Q,h2,hs,hm,ht,kq⟩
 | _=>exact ht.elim
end L3
namespace L3
open PySem PySem.Spec PyProof.Rows L2
def MD(i:Nat){X:Cx}{pos:Pos}{x:Str}(h1:X.N[i]?=some x:=by rfl)(h2:Qb X.env.scope x:=by first|exact Or.inl rfl|exact Or.inr (Or.inl rfl)|exact Or.inr (Or.inr rfl))(h3:yX x:=by decide)(h4:(x==("__classdict__":Str))=false:=by decide):E3 X (.Name x pos) (v3 i):=Qm i (pv i h1 h2 h3 h4)
variable {X:Cx}{pos:Pos}
def Vh{N:List Str}(h:decide N.Nodup=true):N.Nodup:=fK h
def oZ(i:Nat){x:Str}{e:Expr}{te:T3}{VF:Pos}{ps:List Str}{sc:Scope}(S:se X.N ps sc)(he:E3 X e te)(hi:X.N[i]?=some x:=by rfl)(hx:JX X.env.scope x:=by first|exact Or.inl rfl|exact Or.inr rfl)(W4:swapsWith e (some (.Name x VF)) pos.line X.env=pure false:=by rfl)(hf:JW X x:=by first|exact .inl rfl|exact .inr rfl|assumption):S3 X (.Assign [.Name x VF] e pos) (FR te (tN i)):=RG S.nd hi hx he W4 hf
def qI(i:Nat){x:Str}{ps:List Str}{sc:Scope}(S:se X.N ps sc)(hi:X.N[i]?=some x:=by rfl)(hx:JX X.env.scope x:=by first|exact Or.inl rfl|exact Or.inr rfl)(hf:JW X x:=by first|exact .inl rfl|exact .inr rfl|assumption):G3 X (.Name x pos) (tN i):=IE S.nd hi hx hf
def qe(i:Nat){x:Str}(hN:decide X.N.Nodup=true:=by kernel_rfl)(hi:X.N[i]?=some x:=by rfl)(hx:JX X.env.scope x:=by first|exact Or.inl rfl|exact Or.inr rfl)(hf:JW X x:=by first|exact .inl rfl|exact .inr rfl|assumption):G3 X (.Name x pos) (tN i):=IE (Vh hN) hi hx hf
abbrev Sc(n:Nat)(N:List Str)(s:Stmt):=se N (N.take n) (pL s)
def sk{n:Nat}{N:List Str}{s:Stmt}(h:Rv N (N.take n) (pL s)=true:=by decide+kernel):Sc n N s:=Vn h
def pO{X:Cx}{e0:Expr}{t0:T3}(h0:E3 X e0 t0)(g0:starEach [e0] X.env=(false,eval e0 X.env)::starEach [] X.env:=by rfl):A3 X [e0] (uG t0 xf):=(pF h0 rO g0)
def rJ{X:Cx}{e0 e1:Expr}{t0 t1:T3}(h0:E3 X e0 t0)(h1:E3 X e1 t1)(g0:starEach [e0,e1] X.env=(false,eval e0 X.env)::starEach [e1] X.env:=by rfl)(g1:starEach [e1] X.env=(false,eval e1 X.env)::starEach [] X.env:=by rfl):A3 X [e0,e1] (uG t0 (uG t1 xf)):=(pF h0 (pF h1 rO g1) g0)
def qP{X:Cx}{e0 e1 e2:Expr}{t0 t1 t2:T3}(h0:E3 X e0 t0)(h1:E3 X e1 t1)(h2:E3 X e2 t2)(g0:starEach [e0,e1,e2] X.env=(false,eval e0 X.env)::starEach [e1,e2] X.env:=by rfl)(g1:starEach [e1,e2] X.env=(false,eval e1 X.env)::starEach [e2] X.env:=by rfl)(g2:starEach [e2] X.env=(false,eval e2 X.env)::starEach [] X.env:=by rfl):A3 X [e0,e1,e2] (uG t0 (uG t1 (uG t2 xf))):=(pF h0 (pF h1 (pF h2 rO g2) g1) g0)
abbrev v0:=@MD 0
abbrev U1:=@MD 1
abbrev U2:=@MD 2
abbrev U3:=@MD 3
abbrev v5:=@MD 5
abbrev v4:=@MD 4
abbrev v6:=@MD 6
abbrev v7:=@MD 7
abbrev v8:=@MD 8
abbrev v9:=@MD 9
variable {P:Pg}{w:Wo}{K:pX}{mg:Str→Option Vl}{base:Heap}
def fq{x qual:Str}{st:Stmt}{fa:FA}{N ps:List Str}{k:Nat}{sp:qJ}(F:DG K st x qual ps fa)(S:se N ps (pL st)) (hb:∀{VG:Vl} {A:Ar} {outer:List Env} {s:Sd} {H:Hp} {E:XK},rC k (A.deeper (envOfC qual (pL st) s.heap.objs.size fa.f VG))->(A.deeper (envOfC qual (pL st) s.heap.objs.size fa.f VG)).units+9<cLine->
   ∃t,GH (uE MI P w K mg base N qual (pL st) fa.f VG A outer s H E).nZ (rj st) t/\∀ds M Q,sp ds M Q->t {nx:=λ_ M'=>∃Vz,pY Vz M'/\Q .mz Vz,rt:=λd M'=>∃Vz,pY Vz M'/\Q d Vz} (wq N ds) M) (len:∀ds M Q,sp ds M Q->ds.length=ps.length:=by walk_at "l"):Fq P w K mg base (k+1) fa sp:=Uy F S len λ_ _ _ _ _ _ h=>hb h (U4 h)
def xu{X:Cx}{scope:Scope}{ix:List (Option Nat)}{N':List Str}(h:GI X.env.scope X.N scope ix N'=true:=by kernel_rfl):rH X scope ix N':=Ta h
end L3
namespace Z
open PySem PySem.Spec PyProof.Rows L2 L3
def qG(i:Nat):Stmt:=PySem.Challenge.pw_callboard_k26_whole_nobody_is_twice.main.body.getD i (.Pass ⟨0,0,0,0⟩)
abbrev tm(i j:Nat):Stmt:=NH (qG i) j
def Ba:Sc 3 ["board","caller","target","wishes"] (qG 5):=sk
def su:Sc 3 ["board","caller","target","free","members","place","in_turn"] (qG 6):=sk
def uw:Sc 3 ["board","caller","target","phones"] (qG 7):=sk
def zm:Sc 2 ["wanted","target"] (qG 8):=sk
def vE:Sc 4 ["board","caller","target","way","come_to","steps","fits","wanted"] (qG 9):=sk
def yk:Sc 2 ["board","phone"] (qG 11):=sk
def vK:Sc 3 ["board","phone","target","word"] (qG 12):=sk
def LS:Sc 3 ["word","phone","calls"] (qG 13):=sk
def sP:Sc 4 ["board","word","phone","numbers","calls","due"] (qG 14):=sk
def yg:Sc 3 ["board","word","number"] (qG 15):=sk
def AL:Sc 2 ["board","deed","word"] (qG 16):=sk
def sU:Sc 3 ["board","number","steps","last","target","fits"] (qG 17):=sk
def ua:Sc 4 ["board","number","target","phones","members","place"] (qG 18):=sk
def xk:Sc 3 ["board","number","target","talk","members"] (qG 19):=sk
def xb:Sc 3 ["board","number","end","word"] (qG 20):=sk
def vH:Sc 2 ["board","number","call","told","end","steps","last"] (qG 21):=sk
def yy:Sc 3 ["board","phone","target","number"] (qG 22):=sk
def AZ:Sc 3 ["board","phone","number","call"] (qG 23):=sk
def xQ:Sc 2 ["board","call","wishes"] (qG 24):=sk
def BZ:Sc 3 ["board","number","fits","wish"] (qG 25):=sk
def sF:Sc 1 ["board","number","call","fits"] (qG 26):=sk
def sv:Sc 2 ["board","deed","word","phone","number","call","kept","others"] (qG 27):=sk
def LY:Sc 2 ["board","deed","word"] (qG 28):=sk
def Gn:Sc 2 ["board","deed","word","begun"] (qG 29):=sk
def zC:Sc 1 ["answers"] (qG 31):=sk
def Ff:Sc 2 ["call","word"] (qG 33):=sk
def Cy:Sc 2 ["call","phone"] (qG 34):=sk
def xj:Sc 2 ["call","event","word"] (qG 35):=sk
def G8:Sc 3 ["board","caller","target"] (qG 38):=sk
def AV:Sc 1 ["told","word"] (qG 49):=sk
def Nt:Sc 2 ["holds","words"] (qG 64):=sk
def Hi:Sc 1 ["text"] (qG 65):=sk
def Cv:Sc 1 ["things"] (qG 66):=sk
def Dt:Sc 3 ["chosen","known","most"] (qG 67):=sk
def tj:Sc 1 ["phones","name","lines","rank"] (qG 68):=sk
def tq:Sc 2 ["groups","phone_names","name","manner","members"] (qG 69):=sk
def Cm:Sc 4 ["kind","part","phone_names","names"] (qG 70):=sk
def sR:Sc 3 ["wish","phone_names","names","form","parts","kind","part"] (qG 71):=sk
def ul:Sc 3 ["wishes","phone_names","names","on","wish"] (qG 72):=sk
def vi:Sc 3 ["phones","groups","wishes","phone_names","names"] (qG 73):=sk
def JG:Sc 2 ["_law_script","_law_k"] (qG 76):=sk
def FV:Sc 3 ["_law_cell","_law_factor","_law_many"] (qG 77):=sk
def tF:Sc 2 ["_law_seed","_law_which","_law_letters","_law_size","_law_place","_law_rest","_law_letter"] (qG 78):=sk
def xn:Sc 3 ["_law_row","_law_cell","_law_most","_law_first","_law_size"] (qG 79):=sk
def uf:Sc 2 ["_law_seed","_law_most","_law_phones_here","_law_k","_law_lines"] (qG 80):=sk
def ud:Sc 2 ["_law_seed","_law_own","_law_groups_here","_law_g","_law_manner"] (qG 81):=sk
def sm:Sc 3 ["_law_cell","_law_own","_law_names_here","_law_a","_law_place","_law_b","_law_c","_law_pick","_law_first"] (qG 82):=sk
def rK:Sc 2 ["_law_script","_law_most","_law_seed","_law_phones_here","_law_own","_law_groups_here","_law_names_here","_law_wishes","_law_k","_law_cell"] (qG 83):=sk
def Co:Sc 1 ["_law_call"] (qG 84):=sk
def Ak:Sc 2 ["_law_board","_law_states"] (qG 85):=sk
def qV:Sc 4 ["_law_board","_law_cell","_law_word_here","_law_states","_law_some_here","_law_k","_law_people_here","_law_a","_law_m"] (qG 86):=sk
def uc:Sc 4 ["_law_cell","_law_own","_law_names_here","_law_many","_law_a","_law_b","_law_k","_law_m","_law_some_here"] (qG 87):=sk
def qW:Sc 4 ["_law_board","_law_cell","_law_own","_law_names_here","_law_word_here","_law_states","_law_found","_law_a"] (qG 88):=sk
def uZ:Sc 2 ["_law_script","_law_most","_law_phones_here","_law_groups_here","_law_wishes"] (qG 89):=sk
def yL:Sc 1 ["_law_board","_law_own"] (qG 90):=sk
def wV:Sc 2 ["_law_board","_law_deed_here","_law_told","e"] (qG 91):=sk
def B6:Sc 1 ["_law_some_here"] (qG 92):=sk
def vm:Sc 2 ["_law_call","_law_own","_law_words","_law_good"] (qG 93):=sk
def qK:Sc 3 ["_law_board","_law_phone","_law_lines","_law_bound","_law_calling","_law_inside","_law_waiting","_law_call"] (qG 94):=sk
def vR:Sc 1 ["_law_script","_law_board","_law_own","_law_names_here","_law_cell","_law_call","_law_phone","_law_lines","_law_rank"] (qG 95):=sk
def Bt:Sc 2 ["self","word"] (tm 3 0):=sk
def Ci:Sc 3 ["self","plan","hour"] (tm 36 0):=sk
def DS:Sc 4 ["self","phones","groups","wishes"] (tm 74 0):=sk
def zG:Sc 2 ["self","phone"] (tm 36 3):=sk
def F2:Sc 2 ["self","told"] (tm 40 0):=sk
def Dp:Sc 2 ["self","told"] (tm 41 0):=sk
def Au:Sc 2 ["self","told"] (tm 42 0):=sk
def CC:Sc 2 ["self","told"] (tm 44 0):=sk
def Bp:Sc 2 ["self","told"] (tm 46 0):=sk
def Er:Sc 2 ["self","told"] (tm 47 0):=sk
def AS:Sc 2 ["self","told"] (tm 48 0):=sk
def xO:Sc 1 ["self"] (tm 74 2):=sk
def xm:Sc 2 ["self","event","word"] (tm 36 12):=sk
def DJ:Sc 2 ["self","told"] (tm 39 0):=sk
def Cp:Sc 1 ["self"] (tm 74 1):=sk
def zr:Sc 2 ["self","phone"] (tm 36 2):=sk
def DB:Sc 2 ["self","caller"] (tm 32 0):=sk
def x8:Sc 2 ["self","phone"] (tm 32 2):=sk
def xU:Sc 2 ["self","phone"] (tm 32 5):=sk
def xM:Sc 2 ["self","phone"] (tm 32 4):=sk
def zD:Sc 2 ["self","leg"] (tm 36 10):=sk
def xh:Sc 4 ["self","merged","kept","members","call"] (tm 36 11):=sk
def uJ:Sc 1 ["self","call"] (tm 36 9):=sk
def yi:Sc 2 ["self","phone"] (tm 32 8):=sk
def Bk:Sc 2 ["self","phone"] (tm 36 4):=sk
def zy:Sc 2 ["self","phone"] (tm 36 5):=sk
def B8:Sc 2 ["self","phone"] (tm 36 1):=sk
def Cd:Sc 2 ["self","phone"] (tm 74 3):=sk
def wk:Sc 2 ["self","phone"] (tm 32 7):=sk
def B2:Sc 2 ["self","phone"] (tm 32 6):=sk
def BQ:Sc 2 ["self","call"] (tm 39 4):=sk
def zk:Sc 2 ["self","call"] (tm 46 2):=sk
def EA:Sc 1 ["self"] (tm 39 1):=sk
def Cu:Sc 2 ["self","phone"] (tm 32 3):=sk
def FW:Sc 2 ["self","phone"] (tm 32 1):=sk
def DD:Sc 1 ["self"] (tm 40 1):=sk
def Ct:Sc 1 ["self"] (tm 41 1):=sk
def ze:Sc 1 ["self"] (tm 42 1):=sk
def Ce:Sc 1 ["self"] (tm 47 1):=sk
def As:Sc 1 ["self"] (tm 48 1):=sk
def Ga:Sc 4 ["self","board","caller","target"] (tm 40 2):=sk
def Ej:Sc 4 ["self","board","caller","target"] (tm 41 2):=sk
def BI:Sc 4 ["self","board","caller","target"] (tm 43 0):=sk
def Cg:Sc 4 ["self","board","caller","target"] (tm 44 2):=sk
def DQ:Sc 4 ["self","board","caller","target"] (tm 45 0):=sk
def Bc:Sc 4 ["self","board","caller","target"] (tm 46 1):=sk
def D9:Sc 4 ["self","board","caller","target"] (tm 47 2):=sk
def uO:Sc 4 ["self","board","caller","target","talk","members"] (tm 48 3):=sk
def BG:Sc 2 ["self","name"] (tm 74 6):=sk
def yu:Sc 2 ["self","name"] (tm 74 5):=sk
def yI:Sc 2 ["self","hour"] (tm 44 1):=sk
def yJ:Sc 1 ["self"] (tm 36 8):=sk
def yK:Sc 2 ["self","phone"] (tm 36 6):=sk
def uH:Sc 3 ["self","plan","members","rank"] (tm 48 2):=sk
def yp:Sc 3 ["self","caller","target"] (tm 36 7):=sk
def Ey:Sc 2 ["self","phone"] (tm 74 4):=sk
noncomputable def IV:List (Str×List Str):=[("bar",["phone","names"]),("shut",["name","phones"]),("always",["name","name"]),("night",["name","name","hour","hour"]),("busy",["name","name"]),("silent",["name","name","turns"]),("wait",["phone"]),("breaks",["phone"])]
set_option genInjectivity false in
structure Ad where
 (aP aQ aR aS aT Z aU aV aW aX aY aZ a0 a1 a2 aa a3 a4 a5 a6 a7 a8 a9 J L ab ba bb M bc m ac ad N bd be bf bg bh bi O i ae P bj bk bl bm bn bo bp bq br bs bt bu af bv bw ag H ah ai Q aj ak A al am an ao R k E bx S ap T aq U bz bA bB ar bC bD bE bF bG au q av l bH bI aw ax z ay az aA aB aC aD aE aF aG aH aI V bJ bK bL bM aJ aK:FA)
 (e c B r t X w n x u v o h b2 F:Addr)
structure Gl(K:pX)(mg:Str->Option Vl)(a:Ad):Prop where
 e:CG K mg "Call" a.e
 c:CG K mg "Board" a.c
 B:CG K mg "Wish" a.B
 r:CG K mg "Bar" a.r
 t:CG K mg "Shut" a.t
 X:CG K mg "Forward" a.X
 w:CG K mg "Always" a.w
 n:CG K mg "Night" a.n
 x:CG K mg "Busy" a.x
 u:CG K mg "Silent" a.u
 v:CG K mg "Wait" a.v
 o:CG K mg "Breaks" a.o
 h:CG K mg "Plan" a.h
 cP:mg "CallError"=some (.ref a.b2)
 bV:mg "NoDeed"=some (.ref a.F)
 aP:TG K mg (qG 5) "fitting" ["board","caller","target"] a.aP
 aQ:TG K mg (qG 6) "rung_phones" ["board","caller","target"] a.aQ
 aR:TG K mg (qG 7) "end_without_wish" ["board","caller","target"] a.aR
 aS:TG K mg (qG 8) "end_as_wanted" ["wanted","target"] a.aS
 aT:TG K mg (qG 9) "route" ["board","caller","target","way"] a.aT
 Z:TG K mg (qG 11) "word_for_idling" ["board","phone"] a.Z
 aU:TG K mg (qG 12) "word_for_call" ["board","phone","target"] a.aU
 aV:TG K mg (qG 13) "suits" ["word","phone","calls"] a.aV
 aW:TG K mg (qG 14) "word_for_numbers" ["board","word","phone","numbers"] a.aW
 aX:TG K mg (qG 15) "word_for_switch" ["board","word","number"] a.aX
 aY:TG K mg (qG 16) "refusal" ["board","deed"] a.aY
 aZ:TG K mg (qG 17) "take_steps" ["board","number","steps"] a.aZ
 a0:TG K mg (qG 18) "start_ringing" ["board","number","target","phones"] a.a0
 a1:TG K mg (qG 19) "break_in" ["board","number","target"] a.a1
 a2:TG K mg (qG 20) "come_to_end" ["board","number","end"] a.a2
 aa:TG K mg (qG 21) "go_on" ["board","number"] a.aa
 a3:TG K mg (qG 22) "make_call" ["board","phone","target"] a.a3
 a4:TG K mg (qG 23) "hang_up" ["board","phone","number"] a.a4
 a5:TG K mg (qG 24) "due_wishes" ["board","call"] a.a5
 a6:TG K mg (qG 25) "send_on" ["board","number","fits"] a.a6
 a7:TG K mg (qG 26) "let_turn_pass" ["board"] a.a7
 a8:TG K mg (qG 27) "event_of" ["board","deed"] a.a8
 a9:TG K mg (qG 28) "act" ["board","deed"] a.a9
 J:TG K mg (qG 29) "do" ["board","deed"] a.J
 L:TG K mg (qG 31) "place_of_true" ["answers"] a.L
 ab:TG K mg (qG 33) "end_call" ["call","word"] a.ab
 ba:TG K mg (qG 34) "drop_phone" ["call","phone"] a.ba
 bb:TG K mg (qG 35) "change_call" ["call","event"] a.bb
 M:TG K mg (qG 38) "is_busy" ["board","caller","target"] a.M
 bc:TG K mg (qG 49) "wish_of" ["told"] a.bc
 m:TG K mg (qG 64) "need" ["holds","words"] a.m
 ac:TG K mg (qG 65) "is_name" ["text"] a.ac
 ad:TG K mg (qG 66) "all_unlike" ["things"] a.ad
 N:TG K mg (qG 67) "is_choice" ["chosen","known","most"] a.N
 bd:TG K mg (qG 68) "check_phones" ["phones"] a.bd
 be:TG K mg (qG 69) "check_groups" ["groups","phone_names"] a.be
 bf:TG K mg (qG 70) "part_holds" ["kind","part","phone_names","names"] a.bf
 bg:TG K mg (qG 71) "check_wish" ["wish","phone_names","names"] a.bg
 bh:TG K mg (qG 72) "check_wishes" ["wishes","phone_names","names"] a.bh
 bi:TG K mg (qG 73) "check_plan" ["phones","groups","wishes"] a.bi
 O:TG K mg (qG 76) "_law_at" ["_law_script","_law_k"] a.O
 i:TG K mg (qG 77) "_law_draw" ["_law_cell","_law_factor","_law_many"] a.i
 ae:TG K mg (qG 78) "_law_word" ["_law_seed","_law_which"] a.ae
 P:TG K mg (qG 79) "_law_some" ["_law_row","_law_cell","_law_most"] a.P
 bj:TG K mg (qG 80) "_law_phones" ["_law_seed","_law_most"] a.bj
 bk:TG K mg (qG 81) "_law_groups" ["_law_seed","_law_own"] a.bk
 bl:TG K mg (qG 82) "_law_wish" ["_law_cell","_law_own","_law_names_here"] a.bl
 bm:TG K mg (qG 83) "_law_plan" ["_law_script","_law_most"] a.bm
 bn:TG K mg (qG 84) "_law_people" ["_law_call"] a.bn
 bo:TG K mg (qG 85) "_law_of_state" ["_law_board","_law_states"] a.bo
 bp:TG K mg (qG 86) "_law_on_call" ["_law_board","_law_cell","_law_word_here","_law_states"] a.bp
 bq:TG K mg (qG 87) "_law_any" ["_law_cell","_law_own","_law_names_here","_law_many"] a.bq
 br:TG K mg (qG 88) "_law_deed" ["_law_board","_law_cell","_law_own","_law_names_here"] a.br
 bs:TG K mg (qG 89) "_law_made" ["_law_script","_law_most"] a.bs
 bt:TG K mg (qG 90) "_law_names" ["_law_board"] a.bt
 bu:TG K mg (qG 91) "_law_done" ["_law_board","_law_deed_here"] a.bu
 af:TG K mg (qG 92) "_law_unlike" ["_law_some_here"] a.af
 bv:TG K mg (qG 93) "_law_stands" ["_law_call","_law_own"] a.bv
 bw:TG K mg (qG 94) "_law_once" ["_law_board","_law_phone","_law_lines"] a.bw
 ag:TG K mg (qG 95) "law" ["_law_script"] a.ag
 H:MG K a.F (tm 3 0) "__init__" "NoDeed.__init__" ["self","word"] a.H
 ah:MG K a.c (tm 36 0) "__init__" "Board.__init__" ["self","plan","hour"] a.ah
 ai:MG K a.h (tm 74 0) "__init__" "Plan.__init__" ["self","phones","groups","wishes"] a.ai
 Q:MG K a.c (tm 36 3) "talk_of" "Board.talk_of" ["self","phone"] a.Q
 aj:MG K a.r (tm 40 0) "__init__" "Bar.__init__" ["self","told"] a.aj
 ak:MG K a.t (tm 41 0) "__init__" "Shut.__init__" ["self","told"] a.ak
 A:MG K a.X (tm 42 0) "__init__" "Forward.__init__" ["self","told"] a.A
 al:MG K a.n (tm 44 0) "__init__" "Night.__init__" ["self","told"] a.al
 am:MG K a.u (tm 46 0) "__init__" "Silent.__init__" ["self","told"] a.am
 an:MG K a.v (tm 47 0) "__init__" "Wait.__init__" ["self","told"] a.an
 ao:MG K a.o (tm 48 0) "__init__" "Breaks.__init__" ["self","told"] a.ao
 R:MG K a.h (tm 74 2) "phone_names" "Plan.phone_names" ["self"] a.R
 k:MG K a.c (tm 36 12) "apply" "Board.apply" ["self","event"] a.k
 E:MG K a.B (tm 39 0) "__init__" "Wish.__init__" ["self","told"] a.E
 bx:MG K a.h (tm 74 1) "names" "Plan.names" ["self"] a.bx
 S:MG K a.c (tm 36 2) "is_free" "Board.is_free" ["self","phone"] a.S
 ap:MG K a.e (tm 32 0) "__init__" "Call.__init__" ["self","caller"] a.ap
 T:MG K a.e (tm 32 2) "talks_with" "Call.talks_with" ["self","phone"] a.T
 aq:MG K a.e (tm 32 5) "waits_with" "Call.waits_with" ["self","phone"] a.aq
 U:MG K a.e (tm 32 4) "is_tried_by" "Call.is_tried_by" ["self","phone"] a.U
 bz:MG K a.c (tm 36 10) "add_leg" "Board.add_leg" ["self","leg"] a.bz
 bA:MG K a.c (tm 36 11) "merge" "Board.merge" ["self","merged","kept","members"] a.bA
 bB:MG K a.c (tm 36 9) "pass_turn" "Board.pass_turn" ["self"] a.bB
 ar:MG K a.e (tm 32 8) "other_than" "Call.other_than" ["self","phone"] a.ar
 bC:MG K a.c (tm 36 4) "bound" "Board.bound" ["self","phone"] a.bC
 bD:MG K a.c (tm 36 5) "calling" "Board.calling" ["self","phone"] a.bD
 bE:MG K a.c (tm 36 1) "used" "Board.used" ["self","phone"] a.bE
 bF:MG K a.h (tm 74 3) "lines" "Plan.lines" ["self","phone"] a.bF
 bG:MG K a.e (tm 32 7) "can_be_left_by" "Call.can_be_left_by" ["self","phone"] a.bG
 au:MG K a.e (tm 32 6) "pairs" "Call.pairs" ["self","phone"] a.au
 q:MG K a.B (tm 39 4) "is_due" "Wish.is_due" ["self","call"] a.q
 av:MG K a.u (tm 46 2) "is_due" "Silent.is_due" ["self","call"] a.av
 l:MG K a.B (tm 39 1) "told" "Wish.told" ["self"] a.l
 bH:MG K a.e (tm 32 3) "binds" "Call.binds" ["self","phone"] a.bH
 bI:MG K a.e (tm 32 1) "has" "Call.has" ["self","phone"] a.bI
 aw:MG K a.r (tm 40 1) "wants" "Bar.wants" ["self"] a.aw
 ax:MG K a.t (tm 41 1) "wants" "Shut.wants" ["self"] a.ax
 z:MG K a.X (tm 42 1) "wants" "Forward.wants" ["self"] a.z
 ay:MG K a.v (tm 47 1) "wants" "Wait.wants" ["self"] a.ay
 az:MG K a.o (tm 48 1) "wants" "Breaks.wants" ["self"] a.az
 aA:MG K a.r (tm 40 2) "fits" "Bar.fits" ["self","board","caller","target"] a.aA
 aB:MG K a.t (tm 41 2) "fits" "Shut.fits" ["self","board","caller","target"] a.aB
 aC:MG K a.w (tm 43 0) "fits" "Always.fits" ["self","board","caller","target"] a.aC
 aD:MG K a.n (tm 44 2) "fits" "Night.fits" ["self","board","caller","target"] a.aD
 aE:MG K a.x (tm 45 0) "fits" "Busy.fits" ["self","board","caller","target"] a.aE
 aF:MG K a.u (tm 46 1) "fits" "Silent.fits" ["self","board","caller","target"] a.aF
 aG:MG K a.v (tm 47 2) "fits" "Wait.fits" ["self","board","caller","target"] a.aG
 aH:MG K a.o (tm 48 3) "fits" "Breaks.fits" ["self","board","caller","target"] a.aH
 aI:MG K a.h (tm 74 6) "manner" "Plan.manner" ["self","name"] a.aI
 V:MG K a.h (tm 74 5) "phones_of" "Plan.phones_of" ["self","name"] a.V
 bJ:MG K a.n (tm 44 1) "has_hour" "Night.has_hour" ["self","hour"] a.bJ
 bK:MG K a.c (tm 36 8) "hour_now" "Board.hour_now" ["self"] a.bK
 bL:MG K a.c (tm 36 6) "waits_at" "Board.waits_at" ["self","phone"] a.bL
 bM:MG K a.o (tm 48 2) "outranks" "Breaks.outranks" ["self","plan","members"] a.bM
 aJ:MG K a.c (tm 36 7) "ringable" "Board.ringable" ["self","caller","target"] a.aJ
 aK:MG K a.h (tm 74 4) "rank" "Plan.rank" ["self","phone"] a.aK
 b3:HK K a.F a.H.f
 b4:xW K a.F "word"
 b5:NX K a.F "word"
 b6:W.exmOne K (.ref a.F) (.ref a.F)=some true
 b7:Mk K a.c a.ah.f
 b8:Mk K a.h a.ai.f
 b9:Mk K a.r a.aj.f
 ca:Mk K a.t a.ak.f
 cb:Mk K a.w a.A.f
 cc:Mk K a.n a.al.f
 cd:Mk K a.x a.A.f
 ce:Mk K a.u a.am.f
 cf:Mk K a.v a.an.f
 cg:Mk K a.o a.ao.f
 ch:Mk K a.e a.ap.f
 ci:uU K a.r "is_due" a.q.f
 cj:uU K a.t "is_due" a.q.f
 ck:uU K a.w "is_due" a.q.f
 cl:uU K a.n "is_due" a.q.f
 cm:uU K a.x "is_due" a.q.f
 cn:uU K a.v "is_due" a.q.f
 co:uU K a.o "is_due" a.q.f
 cp:uU K a.r "told" a.l.f
 cq:uU K a.t "told" a.l.f
 cr:uU K a.w "told" a.l.f
 cs:uU K a.n "told" a.l.f
 ct:uU K a.x "told" a.l.f
 cu:uU K a.u "told" a.l.f
 cv:uU K a.v "told" a.l.f
 cw:uU K a.o "told" a.l.f
 cx:uU K a.w "wants" a.z.f
 cy:uU K a.n "wants" a.z.f
 cz:uU K a.x "wants" a.z.f
 cA:uU K a.u "wants" a.z.f
 aL:Ka K a.B "__init__" a.E.f
 bW:Ka K a.X "__init__" a.A.f
 C:yw K a.c ["plan","hour","turn","calls","legs","nexts","on","log"]
 Y:yw K a.h ["phones","groups","wishes","on","phone_rows","group_rows"]
 bO:yw K a.r ["form","phone","targets"]
 bP:yw K a.t ["form","target","callers"]
 bQ:yw K a.w ["form","target","goal"]
 aM:yw K a.n ["form","target","goal","first","last"]
 bR:yw K a.x ["form","target","goal"]
 bN:yw K a.u ["form","target","goal","turns"]
 bX:yw K a.v ["form","phone"]
 bY:yw K a.o ["form","phone"]
 j:yw K a.e ["state","caller","way","at","members","holder","since","word"]
 g:mg "len"=none
 aN:mg "all"=none
 bS:mg "int"=none
 aO:mg "range"=none
 bT:mg "dict"=none
 y:mg "list"=none
 bZ:mg "set"=none
 cB:mg "min"=none
 I:mg "tuple"=none
 bU:mg "enumerate"=none
 cC:mg "zip"=none
 cD:mg "any"=none
 cE:KD K mg "MOST_PHONES" (.int 8)
 cF:KD K mg "MOST_LINES" (.int 3)
 cG:KD K mg "MOST_RANK" (.int 9)
 cH:KD K mg "MOST_GROUPS" (.int 3)
 cI:KD K mg "MANNERS" (.tup ((["all","turns"]:List Str).map D.str))
 cJ:KD K mg "MOST_MEMBERS" (.int 4)
 cK:KD K mg "MOST_WISHES" (.int 16)
 cL:KD K mg "MOST_SIGNS" (.int 6)
 cM:KD K mg "LETTERS" (.str "abcdefghijklmnopqrstuvwxyz")
 b0:KA K mg "FORMS" IV
 b1:KD K mg "MOST_LISTED" (.int 6)
 cN:KD K mg "LAST_HOUR" (.int 23)
 cO:KD K mg "MOST_TURNS" (.int 9)
noncomputable def draw(c f m:Int):Int:=(c % 2147483647+5)*f % 2147483629 / 89 % m
def qB{c f m:Int}(h:0<m):0<=draw c f m:=eM _ (by omega)
def qu{c f m:Int}(h:0<m):draw c f m<m:=eI _ h
def Iq:qJ:=λds M Q=>Ck λc f m=>ds=[.int c,.int f,.int m]/\0<m/\Q (.int (draw c f m)) M
noncomputable def tK:Str:="abcdefghijklmnopqrstuvwxyz"
noncomputable def tD(i:Int):Str:=⟨#[97+i.toNat]⟩
noncomputable def size(s:Int):Int:=1+s % 6
noncomputable def tH(s:Int):Int:=s / 6 % size s
noncomputable def wH(s v:Int):Str:=ye (tD (s / 36 % 26)) (tH s)++tD ((s / 936+v) % 26)++ye (tD (s / 36 % 26)) (size s - 1 - tH s)
def OL:qJ:=λds M Q=>Ay λs v=>ds=[.int s,.int v]/\Q (.str (wH s v)) M
noncomputable def cell(ns:List Int)(i:Int):Int:=if 0<=i/\i<ns.length then ns.getD i.toNat 0 else 0
def Sl:qJ:=λds M Q=>Ay λns i=>ds=[.rl (ns.map D.int),.int i]/\Q (.int (cell ns i)) M
def Fu(c:Int):0<size c:=by unfold size;have:=eM c (show(6:Int)≠0 by decide);omega
def HY(c:Int):size c<=6:=by unfold size;have:=eI c (show(0:Int)<6 by decide);omega
def FH(i n:Int):(ye (tD i) n).length=n.toNat:=by show((List.replicate n.toNat (tD i).cps).foldl (·++·) #[]:Array Nat).size=n.toNat;rw[Ib];show n.toNat*1=n.toNat;omega
def zJ:tK.length<=sizeLine:=by decide+kernel
variable {P:Pg}{w:Wo}{K:pX}{mg:Str→Option Vl}{base:Heap}{a:Ad}
def ql(G:Gl K mg a):Fq P w K mg base 1 a.i Iq:=by
 refine fq G.i.toDG FV (λr u=>⟨_,(oM (oR (pE (pE (pE (pE (pE (pE v0 oN) oN) U1) oN) oN) U2))),?_⟩)
 rintro ds M Q ⟨c,f,m,rfl,hm,q⟩
 refine⟨by decide,.inl ?_,by decide,⟨by decide,by decide⟩,hm,M,.refl,q⟩;have h1:0<=c % 2147483647:=eM _ (by decide);have h2:c % 2147483647<2147483647:=eI _ (by decide);exact⟨by omega,by omega⟩
def C9{i:Int}(h0:0<=i)(h1:i<26):vL tK.cps.toList i=some (97+i.toNat):=by
 obtain⟨n,rfl⟩:=dY h0;have hn:n<26:=by omega
 have key:∀n:_root_.Fin 26,vL tK.cps.toList ((n.val:Nat):Int)=some (97+n.val):=by decide+kernel
 exact key ⟨n,hn⟩
def HE(G:Gl K mg a):Fq P w K mg base 1 a.ae OL:=by
 refine fq G.ae.toDG tF (λr u=>⟨_,(oJ (oZ 2 tF oO)
 (oJ (oZ 3 tF (pE oN (pE v0 oN)))
 (oJ (oZ 4 tF (pE (pE v0 oN) U3))
 (oJ (oZ 5 tF (o9 U2 (pE (pE v0 oN) oN)))
 (oJ (oZ 6 tF (o9 U2 (pE (pE (pE v0 oN) U1) oN)))
 (oM (oR (pE (pE (pE v5 v4) v6) (pE v5 (pE (pE U3 oN) v4)))))))))),?_⟩)
 rintro ds M Q ⟨c,v,rfl,q⟩
 have hs:=Fu c;have hs6:=HY c;have hp0:0<=tH c:=eM _ (by omega);have XA:tH c<size c:=eI _ hs;have l1:=FH (c / 36 % 26) (tH c);have l2:=FH (c / 36 % 26) (size c - 1 - tH c);have hz:=dI;refine⟨by decide,⟨by decide,by decide⟩,hs,⟨by decide,by decide⟩,by decide,zJ,i' (C9 (eM _ (by decide)) (eI _ (by decide))) ?_⟩;refine⟨⟨by decide,by decide⟩,by decide,zJ,i' (C9 (eM _ (by decide)) (eI _ (by decide))) ?_⟩;refine⟨⟨?_,?_,?_⟩,?_,⟨?_,?_,?_⟩,?_,M,.refl,q⟩
 .show tH c<4096;omega
 .show -4096<tH c;omega
 .show(1:Nat)<4096;decide
 .show(ye (tD (c / 36 % 26)) (tH c)).length+1<=sizeLine;omega
 .show size c - 1 - tH c<4096;omega
 .show -4096<size c - 1 - tH c;omega
 .show(1:Nat)<4096;decide
 .show(ye (tD (c / 36 % 26)) (tH c)++tD ((c / 936+v) % 26)).length+(ye (tD (c / 36 % 26)) (size c - 1 - tH c)).length<=sizeLine;rw[PySem.size_cat];have:(tD ((c / 936+v) % 26)).length=1:=rfl;omega
def Mi(G:Gl K mg a):Fq P w K mg base 1 a.O Sl:=by
 refine fq G.O.toDG JG (λr u=>⟨_,(oJ (pq (E4 u oN U1 (pB pU rfl G.g pQ (pO v0)))
 (oM (oR (o9 v0 U1)))
 oX)
 (oM (oR oN))),?_⟩)
 rintro ds M Q ⟨ns,i,rfl,q⟩
 refine qg (λh0=>?_) (λh0=>?_)
 .have h0:0<=i:=fK h0;refine qg (λh1=>?_) (λh1=>?_)
  .have h1:i<((ns.map D.int).length:Int):=fK h1;rw[cQ]at h1;have hi:i.toNat<ns.length:=by omega
   have e:vL (ns.map D.int) i=some (D.int (ns.getD i.toNat 0)):=by
    obtain⟨n,rfl⟩:=dY h0;have hn:n<ns.length:=by omega
    refine uz ?_;rw[dw,cS hn];simp[hn]
   refine i' e ⟨M,.refl,?_⟩;have:cell ns i=ns.getD i.toNat 0:=by unfold cell;rw[cX ⟨h0,h1⟩]
   rw[<-this];exact q
  .have h1:¬i<((ns.map D.int).length:Int):=λz=>h1 (dO z);rw[cQ]at h1;refine⟨M,.refl,?_⟩;have:cell ns i=0:=by unfold cell;rw[cV (λz=>h1 z.2)]
   rw[<-this];exact q
 .have h0:¬0<=i:=λz=>h0 (dO z);refine⟨M,.refl,?_⟩;have:cell ns i=0:=by unfold cell;rw[cV (λz=>h0 z.1)]
  rw[<-this];exact q
inductive Wi where
 | bar (x:Str) (ns:List Str)|shut (x:Str) (ns:List Str)|always (x y:Str)|night (x y:Str) (f l:Int)|busy (x y:Str)|silent (x y:Str) (n:Int)|wait (x:Str)|breaks (x:Str)
abbrev names(ns:List Str):D:=.tup (ns.map D.str)
noncomputable def Wi.told:Wi->List D
 | .bar x ns=>[.str "bar",.str x,names ns]
 | .shut x ns=>[.str "shut",.str x,names ns]
 | .always x y=>[.str "always",.str x,.str y]
 | .night x y f l=>[.str "night",.str x,.str y,.int f,.int l]
 | .busy x y=>[.str "busy",.str x,.str y]
 | .silent x y n=>[.str "silent",.str x,.str y,.int n]
 | .wait x=>[.str "wait",.str x]
 | .breaks x=>[.str "breaks",.str x]
noncomputable def Wi.cls(a:Ad):Wi->Addr
 | .bar _ _=>a.r
 | .shut _ _=>a.t
 | .always _ _=>a.w
 | .night _ _ _ _=>a.n
 | .busy _ _=>a.x
 | .silent _ _ _=>a.u
 | .wait _=>a.v
 | .breaks _=>a.o
noncomputable def Wi.more:Wi->List (Str×D)
 | .bar x ns=>[("phone",.str x),("targets",names ns)]
 | .shut x ns=>[("target",.str x),("callers",names ns)]
 | .always x y=>[("target",.str x),("goal",.str y)]
 | .night x y f l=>[("target",.str x),("goal",.str y),("first",.int f),("last",.int l)]
 | .busy x y=>[("target",.str x),("goal",.str y)]
 | .silent x y n=>[("target",.str x),("goal",.str y),("turns",.int n)]
 | .wait x=>[("phone",.str x)]
 | .breaks x=>[("phone",.str x)]
noncomputable def Wi.nj(v:Wi):List (Str×D):=("form",.tup v.told)::v.more
abbrev BC(ns:List Str)(i:Int):Str:=ns.getD i.toNat Str.empty
noncomputable def ww(row:List Str)(c m:Int):Nat:=(1+draw c 40692 (if (row.length:Int)<m then(row.length:Int)else m)).toNat
noncomputable def Sf(row:List Str)(c:Int)(j:Nat):Str:=BC row ((draw c 69621 row.length+(0+(j:Nat))) % row.length)
noncomputable def vb(row:List Str)(c m:Int):List Str:=(List.range (ww row c m)).map (Sf row c)
def Of:qJ:=λds M Q=>AD λr c m row=>ds=[.ref r,.int c,.int m]/\oA M r=some (row.map D.str)/\row≠[]/\0<m/\row.length<=64/\Q (names (vb row c m)) M
def ID{row:List Str}(h:row≠[])(x:Int):vL (row.map D.str) (x % row.length)=some (D.str (BC row (x % row.length))):=by
 have hl:0<row.length:=eX.mpr h;have h0:0<=x % row.length:=eM _ (by omega);have h1:x % row.length<row.length:=eI _ (by omega);obtain⟨n,hn⟩:=dY h0;rw[hn]at h1 ⊢;have W9:n<row.length:=by omega
 refine uz ?_;rw[dw,cS W9];simp[BC,W9]
def xC(G:Gl K mg a):Fq P w K mg base 2 a.P Of:=by
 refine fq G.P.toDG xn (λr u=>⟨_,(oJ (oZ 3 xn (oY (ql G) r G.i (qP U1 oN (pB pU rfl G.g pQ (pO v0)))))
 (oJ (oZ 4 xn (pE oN (oY (ql G) r G.i (qP U1 oN (pB (PX rfl) rfl G.cB Rx (rJ U2 (pB pU rfl G.g pQ (pO v0))))))))
 (oM (oR (pR uh rfl G.I ug (pO (qh rfl (xu (ix:=[none,some 0,some 3]) (N':=["_law_j","_law_row","_law_first"])) (vC rfl G.aO (pO v4)) (qe 0) rB (o9 U1 (pE (pE U2 v0) (pB pU rfl G.g pQ (pO U1))))))))))),?_⟩)
 rintro ds M Q ⟨r,c,m,row,rfl,hl,VV,hm,h64,q⟩
 have VC:0<row.length:=eX.mpr VV;have hz:=dI;have el:((row.map D.str).length:Int)=row.length:=by rw[cQ]
 refine i' hl ⟨c,69621,_,rfl,by rw[el];omega,?_⟩;refine i' hl ⟨c,40692,_,rfl,by rw[el];split<;>omega,?_⟩;rw[el];have d0:=qB (c:=c) (f:=40692) (m:=if (row.length:Int)<m then(row.length:Int)else m) (by split<;>omega);have d1:=qu (c:=c) (f:=40692) (m:=if (row.length:Int)<m then(row.length:Int)else m) (by split<;>omega);have d2:draw c 40692 (if (row.length:Int)<m then(row.length:Int)else m)<row.length+1:=by refine Int.lt_of_lt_of_le d1 ?_;split<;>omega
 refine⟨rfl,⟨?_,?_⟩,qy (f:=λd=>match d with|.int j=>D.str (BC row ((draw c 69621 row.length+j) % row.length))|_=>.mz) trivial _ [] _ ?_ (λd hd k hk=>?_) λp hp=>?_⟩
 .show -(2 ^ 62)<=1+draw c 40692 (if (row.length:Int)<m then(row.length:Int)else m);omega
 .show 1+draw c 40692 (if (row.length:Int)<m then(row.length:Int)else m)<2 ^ 62;omega
 .rw[cQ,eA];show 0+ww row c m<=sizeLine;unfold ww;omega
 .obtain⟨j,_,rfl⟩:=dv.mp hd;refine i' hl ⟨by rw[el];omega,i' hl ?_⟩;rw[el];exact i' (ID VV _) hk
 .refine i' (x:=(vb row c m).map D.str) ?_ ⟨M,.new hp,q⟩;unfold oA;rw[pA];show some ([]++((List.range (ww row c m)).map λi=>D.int (0+(i:Nat))).map _)=_;rw[dS,dX];unfold vb;rw[dX];rfl
noncomputable def vF(c:Int)(own all:List Str):Wi:=
 let x:=BC own (draw c 16807 own.length);let pl:=draw c 39373 all.length;let y:=BC all pl;let z:=BC all ((pl+1+draw c 742938285 ((all.length:Int) - 1)) % all.length);let k:=draw c 1226874159 12
 if k=0 then .bar x (vb all c 3)
 else if k=1 then .shut y (vb own c 3)
 else if k=2 then .always y z
 else if k<5 then .night y z (draw c 22695477 24) ((draw c 22695477 24+1+draw c 48271 23) % 24)
 else if k<7 then .busy y z
 else if k<9 then .silent y z ([1,1,2,3,9].getD (draw c 950706376 5).toNat 0)
 else if k=9 then .wait x
 else .breaks x
def OK:qJ:=λds M Q=>Fs λc o n own all=>ds=[.int c,.ref o,.ref n]/\oA M o=some (own.map D.str)/\oA M n=some (all.map D.str)/\own≠[]/\2<=all.length/\own.length<=64/\all.length<=64/\Q (.tup (vF c own all).told) M
def G'{row:List Str}{x:Int}(h0:0<=x)(h1:x<row.length):vL (row.map D.str) x=some (D.str (BC row x)):=by
 obtain⟨n,rfl⟩:=dY h0;have W9:n<row.length:=by omega
 refine uz ?_;rw[dw,cS W9];simp[BC,W9]
def MU(G:Gl K mg a):Fq P w K mg base 3 a.bl OK:=by
 refine fq G.bl.toDG sm (λr u=>⟨_,(oJ (oZ 3 sm (o9 U1 (oY (ql G) r G.i (qP v0 oN (pB pU rfl G.g pQ (pO U1))))))
 (oJ (oZ 4 sm (oY (ql G) r G.i (qP v0 oN (pB pU rfl G.g pQ (pO U2)))))
 (oJ (oZ 5 sm (o9 U2 v4))
 (oJ (oZ 6 sm (o9 U2 (pE (pE (pE v4 oN) (oY (ql G) r G.i (qP v0 oN (pE (pB pU rfl G.g pQ (pO U2)) oN)))) (pB pU rfl G.g pQ (pO U2)))))
 (oJ (oZ 7 sm (oY (ql G) r G.i (qP v0 oN oN)))
 (oJ (pq (oV u v7 oN)
 (oM (oR (pk (qP oO U3 (oY (xC G) r G.P (qP U2 v0 oN))))))
 oX)
 (oJ (pq (oV u v7 oN)
 (oM (oR (pk (qP oO v5 (oY (xC G) r G.P (qP U1 v0 oN))))))
 oX)
 (oJ (pq (oV u v7 oN)
 (oM (oR (pk (qP oO v5 v6))))
 oX)
 (oJ (pq (oV u v7 oN)
 (oJ (oZ 8 sm (oY (ql G) r G.i (qP v0 oN oN)))
 (oM (oR (pk (pF oO (pF v5 (qP v6 v8 (pE (pE (pE v8 oN) (oY (ql G) r G.i (qP v0 oN oN))) oN))))))))
 oX)
 (oJ (pq (oV u v7 oN)
 (oM (oR (pk (qP oO v5 v6))))
 oX)
 (oJ (pq (oV u v7 oN)
 (oM (oR (pk (pF oO (qP v5 v6 (o9 (pk (pF oN (pF oN (qP oN oN oN)))) (oY (ql G) r G.i (qP v0 oN oN))))))))
 oX)
 (oJ (pq (oV u v7 oN)
 (oM (oR (pk (rJ oO U3))))
 oX)
 (oM (oR (pk (rJ oO U3)))))))))))))))),?_⟩)
 rintro ds M Q ⟨c,o,n,own,all,rfl,ho,hn,VV,h2,l1,l2,q⟩
 have VC:0<own.length:=eX.mpr VV;have hne2:all≠[]:=λz=>by rw[z]at h2;simp at h2
 have e1:((own.map D.str).length:Int)=own.length:=by rw[cQ]
 have e2:((all.map D.str).length:Int)=all.length:=by rw[cQ]
 have p1:(0:Int)<own.length:=by omega
 have p2:(0:Int)<all.length:=by omega
 have p3:(0:Int)<(all.length:Int) - 1:=by omega
 refine i' ho ⟨c,_,_,rfl,by rw[e1];exact p1,?_⟩;rw[e1];refine i' ho (i' (G' (qB p1) (qu p1)) ?_);refine i' hn ⟨c,_,_,rfl,by rw[e2];exact p2,?_⟩;rw[e2];refine i' hn (i' (G' (qB p2) (qu p2)) ?_);refine i' hn ⟨c,_,_,rfl,by rw[e2];exact p3,?_⟩;rw[e2];refine i' hn ⟨by rw[e2];exact p2,?_⟩;rw[e2];refine i' hn (i' (ID hne2 _) ?_);refine⟨c,_,_,rfl,by decide,?_⟩;have VB:∀t:List D,(vF c own all).told=t->∃Vz,pY Vz M/\Q (.tup t) Vz:=λt e=>⟨M,.refl,e ▸ q⟩;have k0:0<=draw c 1226874159 12:=qB (by decide);refine qg (λh=>?_) (λh=>?_)
 .have h:draw c 1226874159 12=0:=by simpa using h
  refine⟨n,c,3,all,rfl,hn,hne2,by decide,l2,oG rfl,VB _ ?_⟩;simp only[vF,cX h,Wi.told]
 have h:¬draw c 1226874159 12=0:=by simpa using h
 refine qg (λg=>?_) (λg=>?_)
 .have g:draw c 1226874159 12=1:=by simpa using g
  refine⟨o,c,3,own,rfl,ho,VV,by decide,l1,oG rfl,VB _ ?_⟩;simp only[vF,cV h,cX g,Wi.told]
 have g:¬draw c 1226874159 12=1:=by simpa using g
 refine qg (λi=>?_) (λi=>?_)
 .have i:draw c 1226874159 12=2:=by simpa using i
  refine⟨oG rfl,VB _ ?_⟩;simp only[vF,cV h,cV g,cX i,Wi.told]
 have i:¬draw c 1226874159 12=2:=by simpa using i
 refine qg (λj=>?_) (λj=>?_)
 .have j:draw c 1226874159 12<5:=fK j;refine⟨c,_,_,rfl,by decide,c,_,_,rfl,by decide,by decide,oG rfl,VB _ ?_⟩;simp only[vF,cV h,cV g,cV i,cX j,Wi.told]
 have j:¬draw c 1226874159 12<5:=λz=>j (dO z);refine qg (λl=>?_) (λl=>?_)
 .have l:draw c 1226874159 12<7:=fK l;refine⟨oG rfl,VB _ ?_⟩;simp only[vF,cV h,cV g,cV i,cV j,cX l,Wi.told]
 have l:¬draw c 1226874159 12<7:=λz=>l (dO z);refine qg (λm=>?_) (λm=>?_)
 .have m:draw c 1226874159 12<9:=fK m;have d0:0<=draw c 950706376 5:=qB (by decide);have d1:draw c 950706376 5<5:=qu (by decide);have e:vL [D.int 1,.int 1,.int 2,.int 3,.int 9] (draw c 950706376 5)=some (D.int ([1,1,2,3,9].getD (draw c 950706376 5).toNat 0)):=by
   obtain⟨t,ht⟩:=dY d0;rw[ht]at d1 ⊢;have:t<5:=by omega
   match t,this with
   | 0,_=>rfl
   | 1,_=>rfl
   | 2,_=>rfl
   | 3,_=>rfl
   | 4,_=>rfl
  refine⟨oG rfl,c,_,_,rfl,by decide,i' e ⟨oG rfl,VB _ ?_⟩⟩;simp only[vF,cV h,cV g,cV i,cV j,cV l,cX m,Wi.told]
 have m:¬draw c 1226874159 12<9:=λz=>m (dO z);refine qg (λr=>?_) (λr=>?_)
 .have r:draw c 1226874159 12=9:=by simpa using r
  refine⟨oG rfl,VB _ ?_⟩;simp only[vF,cV h,cV g,cV i,cV j,cV l,cV m,cX r,Wi.told]
 have r:¬draw c 1226874159 12=9:=by simpa using r
 refine⟨oG rfl,VB _ ?_⟩;simp only[vF,cV h,cV g,cV i,cV j,cV l,cV m,cV r,Wi.told]
def L8(K:pX):qJ:=λds M Q=>Ck λp d C=>ds=[.ref p,d]/\M p=some (.ins C [])/\tE K C "form"/\Q .mz (oU M p (.ins C [("form",d)]))
def J5(K:pX):qJ:=λds M Q=>Fs λp t x y C=>ds=[.ref p,.tup t]/\vL t 1=some x/\vL t 2=some y/\M p=some (.ins C [])/\tE K C "form"/\tE K C "target"/\tE K C "goal"/\Q .mz (oU M p (.ins C [("form",.tup t),("target",x),("goal",y)]))
def xF(a:Ad)(k:Wi->Prop):qJ:=λds M Q=>Ay λp v=>ds=[.ref p,.tup (Wi.told v)]/\k v/\M p=some (.ins (v.cls a) [])/\Q .mz (oU M p (.ins (v.cls a) v.nj))
def xt(G:Gl K mg a):Fq P w K mg base 1 a.E (L8 K):=by
 refine fq G.E.toDG DJ (λr u=>⟨_,(oM (pK v0 U1)),?_⟩)
 rintro ds M Q ⟨p,d,C,rfl,hp,na,q⟩
 exact oK hp ⟨na,by decide,_,.refl,q⟩
def yD(G:Gl K mg a):Fq P w K mg base 2 a.A (J5 K):=by
 refine fq G.A.toDG Au (λr u=>⟨_,(oJ (pf (yd G.aL (xt G) r G.B G.E.toDG (rJ v0 U1)))
 (oJ (pK v0 (o9 U1 oN))
 (oM (pK v0 (o9 U1 oN))))),?_⟩)
 rintro ds M Q ⟨p,t,x,y,C,rfl,e1,e2,hp,n1,n2,n3,q⟩
 refine⟨p,_,C,rfl,hp,n1,i' e1 (oK pA ⟨n2,by show 1<1000;decide,?_⟩)⟩;refine i' e2 (oK pA ⟨n3,by show 2<1000;decide,_,?_,q⟩);rw[rc,rc];exact .refl
def Q7(G:Gl K mg a):Fq P w K mg base 2 a.aj (xF a λv=>∃x ns,v=.bar x ns):=by
 refine fq G.aj.toDG F2 (λr u=>⟨_,(oJ (pf (yd G.aL (xt G) r G.B G.E.toDG (rJ v0 U1)))
 (oJ (pK v0 (o9 U1 oN))
 (oM (pK v0 (o9 U1 oN))))),?_⟩)
 rintro ds M Q ⟨p,v,rfl,⟨x,ns,rfl⟩,hp,q⟩
 refine⟨p,_,_,rfl,hp,(G.bO "form" rfl),oK pA ⟨(G.bO "phone" rfl),by show 1<1000;decide,?_⟩⟩;refine oK pA ⟨(G.bO "targets" rfl),by show 2<1000;decide,_,?_,q⟩;rw[rc,rc];exact .refl
def NQ(G:Gl K mg a):Fq P w K mg base 2 a.ak (xF a λv=>∃x ns,v=.shut x ns):=by
 refine fq G.ak.toDG Dp (λr u=>⟨_,(oJ (pf (yd G.aL (xt G) r G.B G.E.toDG (rJ v0 U1)))
 (oJ (pK v0 (o9 U1 oN))
 (oM (pK v0 (o9 U1 oN))))),?_⟩)
 rintro ds M Q ⟨p,v,rfl,⟨x,ns,rfl⟩,hp,q⟩
 refine⟨p,_,_,rfl,hp,(G.bP "form" rfl),oK pA ⟨(G.bP "target" rfl),by show 1<1000;decide,?_⟩⟩;refine oK pA ⟨(G.bP "callers" rfl),by show 2<1000;decide,_,?_,q⟩;rw[rc,rc];exact .refl
def Kf(G:Gl K mg a):Fq P w K mg base 3 a.al (xF a λv=>∃x y f l,v=.night x y f l):=by
 refine fq G.al.toDG CC (λr u=>⟨_,(oJ (pf (yd G.bW (yD G) r G.X G.A.toDG (rJ v0 U1)))
 (oJ (pK v0 (o9 U1 oN))
 (oM (pK v0 (o9 U1 oN))))),?_⟩)
 rintro ds M Q ⟨p,v,rfl,⟨x,y,f,l,rfl⟩,hp,q⟩
 refine⟨p,_,_,_,_,rfl,rfl,rfl,hp,(G.aM "form" rfl),(G.aM "target" rfl),(G.aM "goal" rfl),oK pA ⟨(G.aM "first" rfl),by show 3<1000;decide,?_⟩⟩;refine oK pA ⟨(G.aM "last" rfl),by show 4<1000;decide,_,?_,q⟩;rw[rc,rc];exact .refl
def Jk(G:Gl K mg a):Fq P w K mg base 3 a.am (xF a λv=>∃x y n,v=.silent x y n):=by
 refine fq G.am.toDG Bp (λr u=>⟨_,(oJ (pf (yd G.bW (yD G) r G.X G.A.toDG (rJ v0 U1)))
 (oM (pK v0 (o9 U1 oN)))),?_⟩)
 rintro ds M Q ⟨p,v,rfl,⟨x,y,n,rfl⟩,hp,q⟩
 refine⟨p,_,_,_,_,rfl,rfl,rfl,hp,(G.bN "form" rfl),(G.bN "target" rfl),(G.bN "goal" rfl),oK pA ⟨(G.bN "turns" rfl),by show 3<1000;decide,_,?_,q⟩⟩;rw[rc];exact .refl
def Na(G:Gl K mg a):Fq P w K mg base 2 a.an (xF a λv=>∃x,v=.wait x):=by
 refine fq G.an.toDG Er (λr u=>⟨_,(oJ (pf (yd G.aL (xt G) r G.B G.E.toDG (rJ v0 U1)))
 (oM (pK v0 (o9 U1 oN)))),?_⟩)
 rintro ds M Q ⟨p,v,rfl,⟨x,rfl⟩,hp,q⟩
 refine⟨p,_,_,rfl,hp,(G.bX "form" rfl),oK pA ⟨(G.bX "phone" rfl),by show 1<1000;decide,_,?_,q⟩⟩;rw[rc];exact .refl
def IZ(G:Gl K mg a):Fq P w K mg base 2 a.ao (xF a λv=>∃x,v=.breaks x):=by
 refine fq G.ao.toDG AS (λr u=>⟨_,(oJ (pf (yd G.aL (xt G) r G.B G.E.toDG (rJ v0 U1)))
 (oM (pK v0 (o9 U1 oN)))),?_⟩)
 rintro ds M Q ⟨p,v,rfl,⟨x,rfl⟩,hp,q⟩
 refine⟨p,_,_,rfl,hp,(G.bY "form" rfl),oK pA ⟨(G.bY "phone" rfl),by show 1<1000;decide,_,?_,q⟩⟩;rw[rc];exact .refl
def Gr(a:Ad):qJ:=λds M Q=>∃v:Wi,ds=[.tup v.told]/\∀p,M p=none->Q (.ref p) (oU M p (.ins (v.cls a) v.nj))
def Ie(a:Ad):qJ:=λds M Q=>Ay λp (v:Wi)=>ds=[.ref p]/\M p=some (.ins (v.cls a) v.nj)/\Q (.tup v.told) M
def G1:qJ:=λds M Q=>∃p,ds=[.ref p]/\Q (.tup [.str "end"]) M
def Kl:qJ:=λds M Q=>∃p,ds=[.ref p]/\Q (.tup [.str "break"]) M
def PM:qJ:=λds M Q=>AD λp C fs y=>ds=[.ref p]/\M p=some (.ins C fs)/\fs.lookup ("goal":Str)=some y/\Q (.tup [.str "to",y]) M
def Pr:qJ:=λds M Q=>AD λp C fs y=>ds=[.ref p]/\M p=some (.ins C fs)/\fs.lookup ("phone":Str)=some y/\Q (.tup [.str "wait",y]) M
def Ll(a:Ad):Addr->qJ->Prop:=λC sp=>(∃v:Wi,C=v.cls a)/\sp=Ie a
def Iu(a:Ad):Addr->qJ->Prop:=λC sp=>((C=a.r\/C=a.t)/\sp=G1)\/((C=a.w\/C=a.n\/C=a.x\/C=a.u)/\sp=PM)\/(C=a.v/\sp=Pr)\/(C=a.o/\sp=Kl)
def GD(G:Gl K mg a):Fq P w K mg base 5 a.bc (Gr a):=by
 refine fq G.bc.toDG AV (λr u=>⟨_,(oJ (oZ 1 AV (o9 v0 oN))
 (oJ (pq (oV u U1 oO)
 (oM (oR (uL (Q7 G) r G.r G.b9 G.aj.toDG (pO v0))))
 oX)
 (oJ (pq (oV u U1 oO)
 (oM (oR (uL (NQ G) r G.t G.ca G.ak.toDG (pO v0))))
 oX)
 (oJ (pq (oV u U1 oO)
 (oM (oR (uL (yD G) r G.w G.cb G.A.toDG (pO v0))))
 oX)
 (oJ (pq (oV u U1 oO)
 (oM (oR (uL (Kf G) r G.n G.cc G.al.toDG (pO v0))))
 oX)
 (oJ (pq (oV u U1 oO)
 (oM (oR (uL (yD G) r G.x G.cd G.A.toDG (pO v0))))
 oX)
 (oJ (pq (oV u U1 oO)
 (oM (oR (uL (Jk G) r G.u G.ce G.am.toDG (pO v0))))
 oX)
 (oJ (pq (oV u U1 oO)
 (oM (oR (uL (Na G) r G.v G.cf G.an.toDG (pO v0))))
 oX)
 (oJ (pq (oV u U1 oO)
 (oM (oR (uL (IZ G) r G.o G.cg G.ao.toDG (pO v0))))
 oX)
 (oM FG)))))))))),?_⟩)
 rintro ds M Q ⟨v,rfl,q⟩
 have VB:∀(x:Addr) (c0 c1:uA) (C:Addr) (fs:List (Str×D)),M x=none->Q (.ref x) (oU M x c1)->∃Vz,pY Vz (oU (oU M x c0) x c1)/\Q (.ref x) Vz:=λx c0 c1 C fs hx q=>⟨_,by rw[rc];exact .refl,q⟩;cases v with
 | bar x ns=>exact λp hp=>⟨p,.bar x ns,rfl,⟨_,_,rfl⟩,pA,rfl,VB p _ _ 0 [] hp (q p hp)⟩
 | shut x ns=>exact λp hp=>⟨p,.shut x ns,rfl,⟨_,_,rfl⟩,pA,rfl,VB p _ _ 0 [] hp (q p hp)⟩
 | always x y=>exact λp hp=>⟨p,_,_,_,_,rfl,rfl,rfl,pA,(G.bQ "form" rfl),(G.bQ "target" rfl),(G.bQ "goal" rfl),rfl,VB p _ _ 0 [] hp (q p hp)⟩
 | night x y f l=>exact λp hp=>⟨p,.night x y f l,rfl,⟨_,_,_,_,rfl⟩,pA,rfl,VB p _ _ 0 [] hp (q p hp)⟩
 | busy x y=>exact λp hp=>⟨p,_,_,_,_,rfl,rfl,rfl,pA,(G.bR "form" rfl),(G.bR "target" rfl),(G.bR "goal" rfl),rfl,VB p _ _ 0 [] hp (q p hp)⟩
 | silent x y n=>exact λp hp=>⟨p,.silent x y n,rfl,⟨_,_,_,rfl⟩,pA,rfl,VB p _ _ 0 [] hp (q p hp)⟩
 | wait x=>exact λp hp=>⟨p,.wait x,rfl,⟨_,rfl⟩,pA,rfl,VB p _ _ 0 [] hp (q p hp)⟩
 | breaks x=>exact λp hp=>⟨p,.breaks x,rfl,⟨_,rfl⟩,pA,rfl,VB p _ _ 0 [] hp (q p hp)⟩
def OG(G:Gl K mg a):Fq P w K mg base 1 a.l (Ie a):=by
 refine fq G.l.toDG EA (λr u=>⟨_,(oM (oR (oP v0))),?_⟩)
 rintro ds M Q ⟨p,v,rfl,hp,q⟩
 exact oK hp (i' rfl ⟨M,.refl,q⟩)
def O9(G:Gl K mg a):Fq P w K mg base 1 a.aw G1:=by
 refine fq G.aw.toDG DD (λr u=>⟨_,(oM (oR (pk (pO oO)))),?_⟩)
 rintro ds M Q ⟨p,rfl,q⟩
 exact⟨oG rfl,M,.refl,q⟩
def J6(G:Gl K mg a):Fq P w K mg base 1 a.ax G1:=by
 refine fq G.ax.toDG Ct (λr u=>⟨_,(oM (oR (pk (pO oO)))),?_⟩)
 rintro ds M Q ⟨p,rfl,q⟩
 exact⟨oG rfl,M,.refl,q⟩
def uV(G:Gl K mg a):Fq P w K mg base 1 a.z PM:=by
 refine fq G.z.toDG ze (λr u=>⟨_,(oM (oR (pk (rJ oO (oP v0))))),?_⟩)
 rintro ds M Q ⟨p,C,fs,y,rfl,hp,e,q⟩
 exact oK hp (i' e ⟨oG rfl,M,.refl,q⟩)
def Kb(G:Gl K mg a):Fq P w K mg base 1 a.ay Pr:=by
 refine fq G.ay.toDG Ce (λr u=>⟨_,(oM (oR (pk (rJ oO (oP v0))))),?_⟩)
 rintro ds M Q ⟨p,C,fs,y,rfl,hp,e,q⟩
 exact oK hp (i' e ⟨oG rfl,M,.refl,q⟩)
def Gx(G:Gl K mg a):Fq P w K mg base 1 a.az Kl:=by
 refine fq G.az.toDG As (λr u=>⟨_,(oM (oR (pk (pO oO)))),?_⟩)
 rintro ds M Q ⟨p,rfl,q⟩
 exact⟨oG rfl,M,.refl,q⟩
def Q2(G:Gl K mg a):∀C sp,Ll a C sp->w9 P w K mg base 1 "told" C (MB K sp):=by
 rintro C sp ⟨⟨v,rfl⟩,rfl⟩
 have F:=OG (P:=P) (w:=w) (base:=base) G;cases v with
 | bar _ _=>exact⟨G.r.toCls,_,_,_,G.cp,F,G.l.b⟩
 | shut _ _=>exact⟨G.t.toCls,_,_,_,G.cq,F,G.l.b⟩
 | always _ _=>exact⟨G.w.toCls,_,_,_,G.cr,F,G.l.b⟩
 | night _ _ _ _=>exact⟨G.n.toCls,_,_,_,G.cs,F,G.l.b⟩
 | busy _ _=>exact⟨G.x.toCls,_,_,_,G.ct,F,G.l.b⟩
 | silent _ _ _=>exact⟨G.u.toCls,_,_,_,G.cu,F,G.l.b⟩
 | wait _=>exact⟨G.v.toCls,_,_,_,G.cv,F,G.l.b⟩
 | breaks _=>exact⟨G.o.toCls,_,_,_,G.cw,F,G.l.b⟩
def NG(G:Gl K mg a):∀C sp,Iu a C sp->w9 P w K mg base 1 "wants" C (MB K sp):=by
 rintro C sp (⟨rfl|rfl,rfl⟩|⟨rfl|rfl|rfl|rfl,rfl⟩|⟨rfl,rfl⟩|⟨rfl,rfl⟩)
 .exact⟨G.r.toCls,_,_,_,G.aw.mR,O9 G,G.aw.b⟩
 .exact⟨G.t.toCls,_,_,_,G.ax.mR,J6 G,G.ax.b⟩
 .exact⟨G.w.toCls,_,_,_,G.cx,uV G,G.z.b⟩
 .exact⟨G.n.toCls,_,_,_,G.cy,uV G,G.z.b⟩
 .exact⟨G.x.toCls,_,_,_,G.cz,uV G,G.z.b⟩
 .exact⟨G.u.toCls,_,_,_,G.cA,uV G,G.z.b⟩
 .exact⟨G.v.toCls,_,_,_,G.ay.mR,Kb G,G.ay.b⟩
 .exact⟨G.o.toCls,_,_,_,G.az.mR,Gx G,G.az.b⟩
noncomputable def tQ(x:Str):Bool:=decide ((1:Int)<=x.length)&&(decide ((x.length:Int)<=6)&&x.cps.toList.all λc=>B' ⟨#[c]⟩ tK)
def Hc:qJ:=λds M Q=>∃x:Str,ds=[.str x]/\x.length<=1000/\Q (.bl (tQ x)) M
def II:qJ:=λds M Q=>∃w,ds=[.bl true,w]/\Q .mz M
noncomputable def uW(ss:List Str):Bool:=((rZ ss).length:Int)==(ss.length:Int)
def QM(M:Mp)(x:D)(ss:List Str):Prop:=x=.tup (ss.map D.str)\/∃a,x=.ref a/\oA M a=some (ss.map D.str)
def Jw:qJ:=λds M Q=>Ay λx ss=>ds=[x]/\QM M x ss/\ss.length<4000/\Q (.bl (uW ss)) M
def yz{α:Type}(f:α->Bool)(l:List α):(l.map f).all id=l.all f:=by rw[lY];rfl
def qO(x:Str)(ss:List Str):inD (.str x) (ss.map D.str)=ss.any (·==x):=by unfold inD;rw[jE];rfl
theorem pG:∀ss:List Str,(ss.map D.str).all uq=true
 | []=>rfl
 | _::r=>by rw[dQ,gg,pG r];rfl
noncomputable def rP(cs ks:List Str)(m:Int):Bool:=decide ((1:Int)<=cs.length)&&(decide ((cs.length:Int)<=m)&&(uW cs&&cs.all λc=>ks.any (·==c)))
def Jl:qJ:=λds M Q=>AD λcs ks k m=>ds=[.tup (cs.map D.str),.ref k,.int m]/\oA M k=some (ks.map D.str)/\cs.length<4000/\Q (.bl (rP cs ks m)) M
def AX(G:Gl K mg a):Fq P w K mg base 1 a.ac Hc:=by
 refine fq G.ac.toDG Hi (λr u=>⟨_,(oM (oR (qT (tP u oN (pB pU rfl G.g pQ (pO v0)) (rV rfl G.cL)) (qS (pB (AW rfl) rfl G.aN Bb (pO (qh rfl (xu (ix:=[none]) (N':=["sign"])) (qd v0) (qe 0) rB (pC u v0 (rV rfl G.cM))))))))),?_⟩)
 rintro ds M Q ⟨x,rfl,hl,q⟩
 have hz:=dI;refine⟨by omega,qg (λh1=>?_) (λh1=>?_)⟩
 .refine qg (λh2=>?_) (λh2=>?_)
  .refine qy (f:=λd=>match d with|.str z=>D.bl (B' z tK)|_=>.mz) trivial _ [] _ ?_ (λd hd k hk=>?_) λp hp=>?_
   .rw[cQ];have:x.cps.toList.length=x.length:=by simp[Str.length]
    simp only[dD];omega
   .obtain⟨c,_,rfl⟩:=dv.mp hd;exact hk
   .refine i' oS ?_;have e:([]++(x.cps.toList.map λc=>D.str ⟨#[c]⟩).map λd=>match d with|.str z=>D.bl (B' z tK)|_=>.mz)=x.cps.toList.map λc=>D.bl (B' ⟨#[c]⟩ tK):=by rw[dS,dX];rfl
    rw[e];refine i' (wm (λc=>B' ⟨#[c]⟩ tK) x.cps.toList) ⟨M,.new hp,?_⟩;rw[yz];have:tQ x=x.cps.toList.all λc=>B' ⟨#[c]⟩ tK:=by unfold tQ;rw[h1,h2];rfl
    rw[<-this];exact q
  .refine⟨M,.refl,?_⟩;have:tQ x=false:=by
    unfold tQ;have h2:decide ((x.length:Int)<=6)=false:=by simpa using h2
    rw[h2];simp
   rw[<-this];exact q
 .refine⟨M,.refl,?_⟩;have:tQ x=false:=by
   unfold tQ;have h1:decide ((1:Int)<=x.length)=false:=by simpa using h1
   rw[h1];rfl
  rw[<-this];exact q
def rX(G:Gl K mg a):Fq P w K mg base 1 a.m II:=by
 refine fq G.m.toDG Nt (λr u=>⟨_,(oM (pq (um (tT v0))
 (oM FG)
 oX)),?_⟩)
 rintro ds M Q ⟨x,rfl,q⟩
 exact⟨M,.refl,q⟩
def Dn(G:Gl K mg a):Fq P w K mg base 1 a.ad Jw:=by
 refine fq G.ad.toDG Cv (λr u=>⟨_,(oM (oR (pC u (C0 rfl v0 rfl G.g rfl G.bZ pQ Lc) (pB pU rfl G.g pQ (pO v0))))),?_⟩)
 rintro ds M Q ⟨x,ss,rfl,hx,hl,q⟩
 have key:((ss.map D.str).length:Int)=ss.length:=by rw[cQ]
 rcases hx with rfl|⟨b,rfl,hb⟩
 .refine i' (L3.yN ss) ⟨hl,M,.refl,?_⟩;rw[key];exact q
 .refine i' hb (i' (L3.yN ss) ⟨hl,i' hb ⟨M,.refl,?_⟩⟩);rw[key];exact q
def zH(G:Gl K mg a):Fq P w K mg base 2 a.N Jl:=by
 refine fq G.N.toDG Dt (λr u=>⟨_,(oM (oR (qT (tP u oN (pB pU rfl G.g pQ (pO v0)) U2) (qT (oY (Dn G) r G.ad (pO v0)) (qS (pB (AW rfl) rfl G.aN Bb (pO (qh rfl (xu (ix:=[none,some 1]) (N':=["name","known"])) (qd v0) (qe 0) rB (pC u v0 U1))))))))),?_⟩)
 rintro ds M Q ⟨cs,ks,k,m,rfl,hk,hl,q⟩
 have hz:=dI;have key:((cs.map D.str).length:Int)=cs.length:=by rw[cQ]
 have YK:∀b:Bool,rP cs ks m=b->∃Vz,pY Vz M/\Q (.bl b) Vz:=λb e=>⟨M,.refl,e ▸ q⟩;refine qg (λh1=>?_) (λh1=>?_)
 .have h1:decide ((1:Int)<=cs.length)=true:=by rw[<-key];exact h1
  refine qg (λh2=>?_) (λh2=>?_)
  .have h2:decide ((cs.length:Int)<=m)=true:=by rw[<-key];exact h2
   refine⟨_,cs,rfl,.inl rfl,hl,qg (λh3=>?_) (λh3=>?_)⟩
   .refine qy (f:=λd=>match d with|.str z=>D.bl (ks.any (·==z))|_=>.mz) trivial _ [] _ ?_ (λd hd k0 hk0=>?_) λp hp=>?_
    .rw[cQ];simp only[dD];omega
    .obtain⟨c,_,rfl⟩:=dv.mp hd;refine i' hk ⟨rfl,pG ks,?_⟩;show k0 (.bl (inD (.str c) (ks.map D.str))) M;rw[qO];exact hk0
    .refine i' oS ?_;have e:([]++(cs.map D.str).map λd=>match d with|.str z=>D.bl (ks.any (·==z))|_=>.mz)=cs.map λc=>D.bl (ks.any (·==c)):=by rw[dS,dX];rfl
     rw[e];refine i' (wm (λc=>ks.any (·==c)) cs) ⟨M,.new hp,?_⟩;rw[yz];have:rP cs ks m=cs.all λc=>ks.any (·==c):=by unfold rP;rw[h1,h2,h3];rfl
     rw[<-this];exact q
   .refine YK _ ?_;unfold rP;have h3:uW cs=false:=by simpa using h3
    rw[h3];simp
  .refine YK _ ?_;unfold rP;have h2:decide ((cs.length:Int)<=m)=false:=by
    rw[<-key]
    simpa using h2
   rw[h2];simp
 .refine YK _ ?_;unfold rP;have h1:decide ((1:Int)<=cs.length)=false:=by
   rw[<-key]
   simpa using h1
  rw[h1];rfl
abbrev tz:=Str×Int×Int
abbrev tJ:=Str×Str×List Str
abbrev uM:=Bool×Wi
noncomputable def qv(p:tz):D:=.tup [.str p.1,.int p.2.1,.int p.2.2]
noncomputable def qH(g:tJ):D:=.tup [.str g.1,.str g.2.1,names g.2.2]
noncomputable def wx(w:uM):D:=.tup [.bl w.1,.tup w.2.told]
structure EW(p:tz):Prop where
 len:p.1.length<=1000
 nm:tQ p.1=true
 l1:1<=p.2.1
 l2:p.2.1<=3
 r1:0<=p.2.2
 r2:p.2.2<=9
structure EU(pn:List Str)(g:tJ):Prop where
 len:g.1.length<=1000
 nm:tQ g.1=true
 man:g.2.1="all"\/g.2.1="turns"
 oG:g.2.2.length<4000
 mem:rP g.2.2 pn 4=true
def wY(ss:List Str)(x:Str):Prop:=ss.any (·==x)=true
def Bw(pn nm:List Str):Wi->Prop
 | .bar x ns=>wY pn x/\ns.length<4000/\rP ns nm 6=true
 | .shut x ns=>wY nm x/\ns.length<4000/\rP ns pn 6=true
 | .always x y=>wY nm x/\wY nm y/\x≠y
 | .night x y f l=>wY nm x/\wY nm y/\x≠y/\(0<=f/\f<=23)/\(0<=l/\l<=23)/\f≠l
 | .busy x y=>wY nm x/\wY nm y/\x≠y
 | .silent x y n=>wY nm x/\wY nm y/\x≠y/\1<=n/\n<=9
 | .wait x=>wY pn x
 | .breaks x=>wY pn x
inductive wD(pn nm:List Str):Str->D->Prop
 | mL (x:Str) (h:wY pn x):wD pn nm "phone" (.str x)
 | name (x:Str) (h:wY nm x):wD pn nm "name" (.str x)
 | mo (cs:List Str) (l:cs.length<4000) (h:rP cs pn 6=true):wD pn nm "phones" (names cs)
 | names (cs:List Str) (l:cs.length<4000) (h:rP cs nm 6=true):wD pn nm "names" (names cs)
 | hour (i:Int) (h0:0<=i) (h1:i<=23):wD pn nm "hour" (.int i)
 | turns (i:Int) (h0:1<=i) (h1:i<=9):wD pn nm "turns" (.int i)
def Iw:qJ:=λds M Q=>JM λk d pl nl (pn nm:List Str)=>ds=[.str k,d,.ref pl,.ref nl]/\oA M pl=some (pn.map D.str)/\oA M nl=some (nm.map D.str)/\wD pn nm k d/\Q (.bl true) M
def zV:qJ:=λds M Q=>Ay λr (ps:List tz)=>ds=[.ref r]/\oA M r=some (ps.map qv)/\1<=ps.length/\ps.length<=8/\(∀p∈ps,EW p)/\Q .mz M
def zZ:qJ:=λds M Q=>AD λr (gs:List tJ) pl (pn:List Str)=>ds=[.ref r,.ref pl]/\oA M r=some (gs.map qH)/\oA M pl=some (pn.map D.str)/\gs.length<=3/\(∀g∈gs,EU pn g)/\Q .mz M
def Cj:qJ:=λds M Q=>Fs λv pl nl (pn nm:List Str)=>ds=[.tup (Wi.told v),.ref pl,.ref nl]/\oA M pl=some (pn.map D.str)/\oA M nl=some (nm.map D.str)/\Bw pn nm v/\Q .mz M
def zW:qJ:=λds M Q=>JM λr (ws:List uM) pl nl (pn nm:List Str)=>ds=[.ref r,.ref pl,.ref nl]/\oA M r=some (ws.map wx)/\oA M pl=some (pn.map D.str)/\oA M nl=some (nm.map D.str)/\ws.length<=16/\(∀w∈ws,Bw pn nm w.2)/\Q .mz M
def U9{ss:List Str}{x:Str}(h:wY ss x):inD (.str x) (ss.map D.str)=true:=by rw[qO];exact h
def NU(G:Gl K mg a):Fq P w K mg base 3 a.bf Iw:=by
 refine fq G.bf.toDG Cm (λr u=>⟨_,(oJ (pq (oV u v0 oO)
 (oM (oR (pC u U1 U2)))
 oX)
 (oJ (pq (oV u v0 oO)
 (oM (oR (pC u U1 U3)))
 oX)
 (oJ (pq (oV u v0 oO)
 (oM (oR (oY (zH G) r G.N (qP U1 U2 (rV rfl G.b1)))))
 oX)
 (oJ (pq (oV u v0 oO)
 (oM (oR (oY (zH G) r G.N (qP U1 U3 (rV rfl G.b1)))))
 oX)
 (oJ (pq (oV u v0 oO)
 (oM (oR (tP u oN U1 (rV rfl G.cN))))
 oX)
 (oM (oR (tP u oN U1 (rV rfl G.cO))))))))),?_⟩)
 rintro ds M Q ⟨k,d,pl,nl,pn,nm,rfl,hp,hn,ok,q⟩
 cases ok with
 | mL x h=>refine i' hp ⟨rfl,pG pn,M,.refl,?_⟩;show Q (.bl (inD (.str x) (pn.map D.str))) M;rw[U9 h];exact q
 | name x h=>refine i' hn ⟨rfl,pG nm,M,.refl,?_⟩;show Q (.bl (inD (.str x) (nm.map D.str))) M;rw[U9 h];exact q
 | mo cs l h=>exact⟨cs,pn,pl,6,rfl,hp,l,M,.refl,by rw[h];exact q⟩
 | names cs l h=>exact⟨cs,nm,nl,6,rfl,hn,l,M,.refl,by rw[h];exact q⟩
 | hour i h0 h1=>refine wU (c:=decide (0<=i)) (dO h0) ⟨M,.refl,?_⟩;show Q (.bl (decide (i<=23))) M;rw[dO h1];exact q
 | turns i h0 h1=>refine wU (c:=decide (1<=i)) (dO h0) ⟨M,.refl,?_⟩;show Q (.bl (decide (i<=9))) M;rw[dO h1];exact q
def Am(G:Gl K mg a):Fq P w K mg base 2 a.bd zV:=by
 refine fq G.bd.toDG tj (λr u=>⟨_,(oJ (pf (oY (rX G) r G.m (rJ (tP u oN (pB pU rfl G.g pQ (pO v0)) (rV rfl G.cE)) oO)))
 (oM (tM eU rfl (qd v0) (uk (n:=3) rfl (pT (qI 1 tj) (pT (qI 2 tj) (pT (qI 3 tj) sD))))
 (oJ (pf (oY (rX G) r G.m (rJ (oY (AX G) r G.ac (pO U1)) oO)))
 (oJ (pf (oY (rX G) r G.m (rJ (tP u oN U2 (rV rfl G.cF)) oO)))
 (oM (pf (oY (rX G) r G.m (rJ (tP u oN U3 (rV rfl G.cG)) oO))))))))),?_⟩)
 rintro ds M Q ⟨r,ps,rfl,Wm,h1,h8,mE,q⟩
 have el:((ps.map qv).length:Int)=ps.length:=by rw[cQ]
 refine i' Wm (wU (c:=decide ((1:Int)<=(ps.map qv).length)) (dO (by omega)) ⟨_,by rw[dO (show((ps.map qv).length:Int)<=8 by omega)],i' Wm ?_⟩);refine Ax (λδ M'=>M=M'/\∃x y z,δ=[some (.ref r),x,y,z]) (λδ M' j=>by rw[<-j.1];exact Wm) _ _ _ ⟨rfl,none,none,none,rfl⟩ ?_ ?_
 .rintro d hd δ M' ⟨rfl,x,y,z,rfl⟩ nx VI
  obtain⟨p,hp,rfl⟩:=dv.mp hd;have o:=mE p hp;refine⟨rfl,⟨p.1,rfl,o.len,_,by rw[o.nm],?_⟩⟩;refine wU (c:=decide ((1:Int)<=p.2.1)) (dO o.l1) ⟨_,by rw[dO (show p.2.1<=3 from o.l2)],?_⟩;refine wU (c:=decide ((0:Int)<=p.2.2)) (dO o.r1) ⟨_,by rw[dO (show p.2.2<=9 from o.r2)],?_⟩;exact VI _ _ ⟨rfl,_,_,_,rfl⟩
 .rintro δ M' ⟨rfl,x,y,z,rfl⟩
  exact⟨M,.refl,q⟩
def Ac(G:Gl K mg a):Fq P w K mg base 3 a.be zZ:=by
 refine fq G.be.toDG tq (λr u=>⟨_,(oJ (pf (oY (rX G) r G.m (rJ (pC u (pB pU rfl G.g pQ (pO v0)) (rV rfl G.cH)) oO)))
 (oM (tM eU rfl (qd v0) (uk (n:=3) rfl (pT (qI 2 tq) (pT (qI 3 tq) (pT (qI 4 tq) sD))))
 (oJ (pf (oY (rX G) r G.m (rJ (oY (AX G) r G.ac (pO U2)) oO)))
 (oJ (pf (oY (rX G) r G.m (rJ (pC u U3 (rV rfl G.cI)) oO)))
 (oM (pf (oY (rX G) r G.m (rJ (oY (zH G) r G.N (qP v4 U1 (rV rfl G.cJ))) oO))))))))),?_⟩)
 rintro ds M Q ⟨r,gs,pl,pn,rfl,Wm,hp,h3,mE,q⟩
 have el:((gs.map qH).length:Int)=gs.length:=by rw[cQ]
 refine i' Wm ⟨_,by rw[dO (show((gs.map qH).length:Int)<=3 by omega)],i' Wm ?_⟩;refine Ax (λδ M'=>M=M'/\∃x y z,δ=[some (.ref r),some (.ref pl),x,y,z]) (λδ M' j=>by rw[<-j.1];exact Wm) _ _ _ ⟨rfl,none,none,none,rfl⟩ ?_ ?_
 .rintro d hd δ M' ⟨rfl,x,y,z,rfl⟩ nx VI
  obtain⟨g,hg,rfl⟩:=dv.mp hd;have o:=mE g hg;refine⟨rfl,⟨g.1,rfl,o.len,_,by rw[o.nm],?_⟩⟩;have hm:inD (.str g.2.1) [.str "all",.str "turns"]=true:=by rcases o.man with e|e<;>(rw[e];rfl)
  refine⟨rfl,rfl,.str "a group's manner is all or turns",eL (λb=>[D.bl b,D.str "a group's manner is all or turns"]) hm,?_⟩;refine⟨g.2.2,pn,pl,4,rfl,hp,o.oG,_,by rw[o.mem],?_⟩;exact VI _ _ ⟨rfl,_,_,_,rfl⟩
 .rintro δ M' ⟨rfl,x,y,z,rfl⟩
  exact⟨M,.refl,q⟩
def B4(G:Gl K mg a):Fq P w K mg base 4 a.bg Cj:=by
 refine fq G.bg.toDG sR (λr u=>⟨_,(oJ (pf (oY (rX G) r G.m (rJ (KB G.b0 rfl (o9 v0 oN)) oO)))
 (oJ (oZ 3 sR (JN G.b0 rfl (o9 v0 oN)))
 (oJ (oZ 4 sR (rN v0 (rW oN) sE))
 (oJ (pf (oY (rX G) r G.m (rJ (pC u (pB pU rfl G.g pQ (pO v4)) (pB pU rfl G.g pQ (pO U3))) oO)))
 (oJ (tM eU rfl (Rf rfl G.cC (rJ U3 v4)) (uk (n:=2) rfl (pT (qI 5 sR) (pT (qI 6 sR) sD)))
 (oM (pf (oY (rX G) r G.m (rJ (oY (NU G) r G.bf (pF v5 (qP v6 U1 U2))) oO)))))
 (oJ (pq (oV u (rN U3 sE (rW oN)) (pk (rJ oO oO)))
 (oM (pf (oY (rX G) r G.m (rJ (pC u (o9 v4 oN) (o9 v4 oN)) oO))))
 oX)
 (oM (pq (oV u (rN U3 (rW oN) sE) (pk (rJ oO oO)))
 (oM (pf (oY (rX G) r G.m (rJ (pC u (o9 v4 oN) (o9 v4 oN)) oO))))
 oX)))))))),?_⟩)
 rintro ds M Q ⟨v,pl,nl,pn,nm,rfl,hp,hn,ok,q⟩
 have part:∀{k:Str} {d:D} {C:DK},wD pn nm k d->C (.bl true) M->Iw [.str k,d,.ref pl,.ref nl] M C:=λo c=>⟨_,_,pl,nl,pn,nm,rfl,hp,hn,o,c⟩;have need:∀{x:D} {C:DK},C .mz M->II [.bl true,x] M C:=λc=>⟨_,rfl,c⟩;have ne:∀{x y:Str},x≠y->(!(x==y))=true:=λh=>by simpa using h
 have nei:∀{x y:Int},x≠y->(!(x==y))=true:=λh=>by simpa using h
 have VB:∃Vz,pY Vz M/\Q .mz Vz:=⟨M,.refl,q⟩;cases v with
 | bar x ns=>obtain⟨h1,h2,h3⟩:=ok;refine⟨_,rfl,_,rfl,?_⟩;refine⟨rfl,_,_,pl,nl,pn,nm,rfl,hp,hn,.mL x h1,_,rfl,trivial,⟨rfl,_,_,pl,nl,pn,nm,rfl,hp,hn,.names ns h2 h3,_,rfl,trivial,?_⟩⟩;exact⟨oG rfl,oG rfl,VB⟩
 | shut x ns=>obtain⟨h1,h2,h3⟩:=ok;refine⟨_,rfl,_,rfl,?_⟩;refine⟨rfl,_,_,pl,nl,pn,nm,rfl,hp,hn,.name x h1,_,rfl,trivial,⟨rfl,_,_,pl,nl,pn,nm,rfl,hp,hn,.mo ns h2 h3,_,rfl,trivial,?_⟩⟩;exact⟨oG rfl,oG rfl,VB⟩
 | always x y=>obtain⟨h1,h2,h3⟩:=ok;refine⟨_,rfl,_,rfl,?_⟩;refine⟨rfl,_,_,pl,nl,pn,nm,rfl,hp,hn,.name x h1,_,rfl,trivial,⟨rfl,_,_,pl,nl,pn,nm,rfl,hp,hn,.name y h2,_,rfl,trivial,?_⟩⟩;refine⟨oG rfl,⟨_,by rw[ne h3],?_⟩⟩;exact⟨oG rfl,VB⟩
 | night x y f l=>obtain⟨h1,h2,h3,h4,h5,h6⟩:=ok;refine⟨_,rfl,_,rfl,?_⟩;refine⟨rfl,_,_,pl,nl,pn,nm,rfl,hp,hn,.name x h1,_,rfl,trivial,⟨rfl,_,_,pl,nl,pn,nm,rfl,hp,hn,.name y h2,_,rfl,trivial,⟨rfl,_,_,pl,nl,pn,nm,rfl,hp,hn,.hour f h4.1 h4.2,_,rfl,trivial,⟨rfl,_,_,pl,nl,pn,nm,rfl,hp,hn,.hour l h5.1 h5.2,_,rfl,trivial,?_⟩⟩⟩⟩;refine⟨oG rfl,⟨_,by rw[ne h3],?_⟩⟩;refine⟨oG rfl,⟨_,by rw[nei h6],?_⟩⟩;exact VB
 | busy x y=>obtain⟨h1,h2,h3⟩:=ok;refine⟨_,rfl,_,rfl,?_⟩;refine⟨rfl,_,_,pl,nl,pn,nm,rfl,hp,hn,.name x h1,_,rfl,trivial,⟨rfl,_,_,pl,nl,pn,nm,rfl,hp,hn,.name y h2,_,rfl,trivial,?_⟩⟩;refine⟨oG rfl,⟨_,by rw[ne h3],?_⟩⟩;exact⟨oG rfl,VB⟩
 | silent x y n=>obtain⟨h1,h2,h3,h4,h5⟩:=ok;refine⟨_,rfl,_,rfl,?_⟩;refine⟨rfl,_,_,pl,nl,pn,nm,rfl,hp,hn,.name x h1,_,rfl,trivial,⟨rfl,_,_,pl,nl,pn,nm,rfl,hp,hn,.name y h2,_,rfl,trivial,⟨rfl,_,_,pl,nl,pn,nm,rfl,hp,hn,.turns n h4 h5,_,rfl,trivial,?_⟩⟩⟩;refine⟨oG rfl,⟨_,by rw[ne h3],?_⟩⟩;exact⟨oG rfl,VB⟩
 | wait x=>refine⟨_,rfl,_,rfl,?_⟩;refine⟨rfl,_,_,pl,nl,pn,nm,rfl,hp,hn,.mL x ok,_,rfl,trivial,?_⟩;exact⟨oG rfl,oG rfl,VB⟩
 | breaks x=>refine⟨_,rfl,_,rfl,?_⟩;refine⟨rfl,_,_,pl,nl,pn,nm,rfl,hp,hn,.mL x ok,_,rfl,trivial,?_⟩;exact⟨oG rfl,oG rfl,VB⟩
def Al(G:Gl K mg a):Fq P w K mg base 5 a.bh zW:=by
 refine fq G.bh.toDG ul (λr u=>⟨_,(oJ (pf (oY (rX G) r G.m (rJ (pC u (pB pU rfl G.g pQ (pO v0)) (rV rfl G.cK)) oO)))
 (oM (tM eU rfl (qd v0) (uk (n:=2) rfl (pT (qI 3 ul) (pT (qI 4 ul) sD)))
 (oM (pf (oY (B4 G) r G.bg (qP v4 U1 U2))))))),?_⟩)
 rintro ds M Q ⟨r,ws,pl,nl,pn,nm,rfl,Wm,hp,hn,h16,mE,q⟩
 have el:((ws.map wx).length:Int)=ws.length:=by rw[cQ]
 refine i' Wm ⟨_,by rw[dO (show((ws.map wx).length:Int)<=16 by omega)],i' Wm ?_⟩;refine Ax (λδ M'=>M=M'/\∃x y,δ=[some (.ref r),some (.ref pl),some (.ref nl),x,y]) (λδ M' j=>by rw[<-j.1];exact Wm) _ _ _ ⟨rfl,none,none,rfl⟩ ?_ ?_
 .rintro d hd δ M' ⟨rfl,x,y,rfl⟩ nx VI
  obtain⟨v,hv,rfl⟩:=dv.mp hd;exact⟨rfl,⟨v.2,pl,nl,pn,nm,rfl,hp,hn,mE v hv,VI _ _ ⟨rfl,_,_,rfl⟩⟩⟩
 .rintro δ M' ⟨rfl,x,y,rfl⟩
  exact⟨M,.refl,q⟩
structure oW where
 mo:List tz
 groups:List tJ
 mv:List uM
noncomputable def oW.pn(l:oW):List Str:=l.mo.map (·.1)
noncomputable def oW.gn(l:oW):List Str:=l.groups.map (·.1)
noncomputable def oW.nm(l:oW):List Str:=l.pn++l.gn
structure rg(l:oW):Prop where
 p1:1<=l.mo.length
 p8:l.mo.length<=8
 po:∀p∈l.mo,EW p
 g3:l.groups.length<=3
 go:∀g∈l.groups,EU l.pn g
 nd:l.nm.Nodup
 w16:l.mv.length<=16
 wo:∀w∈l.mv,Bw l.pn l.nm w.2
def xy{ss:List Str}(h:ss.Nodup):uW ss=true:=by unfold uW;rw[Hd ss h];simp
def B5:qJ:=λds M Q=>AD λr1 r2 r3 (l:oW)=>ds=[.ref r1,.ref r2,.ref r3]/\oA M r1=some (l.mo.map qv)/\oA M r2=some (l.groups.map qH)/\oA M r3=some (l.mv.map wx)/\rg l/\Q .mz M
noncomputable def Aq:D->D
 | .tup (x::_)=>x
 | _=>.mz
def wg(ps:List tz):(ps.map qv).map Aq=(ps.map (·.1)).map D.str:=by rw[dX,dX];rfl
def vO(ps:List tJ):(ps.map qH).map Aq=(ps.map (·.1)).map D.str:=by rw[dX,dX];rfl
def Cf(G:Gl K mg a):Fq P w K mg base 6 a.bi B5:=by
 refine fq G.bi.toDG vi (λr u=>⟨_,(oJ (pf (oY (Am G) r G.bd (pO v0)))
 (oJ (uF (i:=3) vi.nd rfl (Or.inl rfl) rfl (xu (ix:=[none]) (N':=["phone"])) (qd v0) (qe 0) rB (o9 v0 oN))
 (oJ (pf (oY (Ac G) r G.be (rJ U1 U3)))
 (oJ (oZ 4 vi (pE U3 (qh rfl (xu (ix:=[none]) (N':=["group"])) (qd U1) (qe 0) rB (o9 v0 oN))))
 (oJ (pf (oY (rX G) r G.m (rJ (oY (Dn G) r G.ad (pO v4)) oO)))
 (oM (pf (oY (Al G) r G.bh (qP U2 U3 v4))))))))),?_⟩)
 rintro ds M Q ⟨r1,r2,r3,l,rfl,h1,h2,h3,ok,q⟩
 have hz:=dI;have l1:=ok.p8;have l2:=ok.g3;refine⟨r1,l.mo,rfl,h1,ok.p1,ok.p8,ok.po,i' h1 ?_⟩;refine qy (f:=Aq) h1 _ [] _ (by rw[cQ];simp only[dD];omega) (λd hd k hk=>?_) λp hp=>?_
 .obtain⟨x,_,rfl⟩:=dv.mp hd;exact hk
 rw[dS,wg];have s1:=pY.new (c:=.lst ((l.mo.map (·.1)).map D.str)) hp;have lp:oA (oU M p (.lst ((l.mo.map (·.1)).map D.str))) p=some (l.pn.map D.str):=oS;generalize oU M p (.lst ((l.mo.map (·.1)).map D.str))=M1 at s1 lp ⊢;refine⟨r2,l.groups,p,l.pn,rfl,s1.lst h2,lp,ok.g3,ok.go,?_⟩;refine i' (s1.lst h2) (qy (f:=Aq) (s1.lst h2) _ [] _ (by rw[cQ];simp only[dD];omega) (λd hd k hk=>?_) λp2 VH=>?_)
 .obtain⟨x,_,rfl⟩:=dv.mp hd;exact hk
 rw[dS,vO];have s2:=pY.new (c:=.lst ((l.groups.map (·.1)).map D.str)) VH;refine i' (s2.lst lp) (i' oS ⟨?_,λp3 V8=>?_⟩)
 .rw[cQ,cQ,cQ];show(l.mo.map (·.1)).length+_<=_;rw[cQ];omega
 have en:l.pn.map D.str++(l.groups.map (·.1)).map D.str=l.nm.map D.str:=by unfold oW.nm;rw[dM];rfl
 rw[en];have s3:=s2.trans (pY.new (c:=.lst (l.nm.map D.str)) V8);have l3:=@oS (oU M1 p2 (.lst ((l.groups.map (·.1)).map D.str))) p3 (l.nm.map D.str);generalize oU (oU M1 p2 (.lst ((l.groups.map (·.1)).map D.str))) p3 (.lst (l.nm.map D.str))=M3 at s3 l3 ⊢;have ln:l.nm.length<4000:=by unfold oW.nm oW.pn oW.gn;rw[cU,cQ,cQ];omega
 refine⟨_,l.nm,rfl,.inr ⟨p3,rfl,l3⟩,ln,_,by rw[xy ok.nd],?_⟩;exact⟨r3,l.mv,p,p3,l.pn,l.nm,rfl,s3.lst (s1.lst h3),s3.lst lp,l3,ok.w16,ok.wo,M,s1.trans s3,q⟩
noncomputable def Pl(ph gr ws on pr gd:Addr):List (Str×D):=[("phones",.ref ph),("groups",.ref gr),("wishes",.ref ws),("on",.ref on),("phone_rows",.ref pr),("group_rows",.ref gd)]
noncomputable def Rl(l:oW):List (qE×D):=l.mo.map λp=>(Sum.inr p.1,qv p)
noncomputable def Hh(l:oW):List (qE×D):=l.groups.map λg=>(Sum.inr g.1,qH g)
def rR(a:Ad)(M:Mp)(rs:List Addr)(ws:List uM):Prop:=rs.length=ws.length/\∀(i:Nat) (r:Addr) (v:uM),rs[i]?=some r->ws[i]?=some v->M r=some (.ins (v.2.cls a) v.2.nj)
def sC(a:Ad)(M:Mp)(p:Addr)(l:oW):Prop:=RO λph gr ws on pr gd (rs:List Addr)=>M p=some (.ins a.h (Pl ph gr ws on pr gd))/\oA M ph=some (l.mo.map qv)/\oA M gr=some (l.groups.map qH)/\
 oA M ws=some (rs.map D.ref)/\oA M on=some (l.mv.map λw=>D.bl w.1)/\zc M pr=some (Rl l)/\zc M gd=some (Hh l)/\rR a M rs l.mv
def rR.keep{a:Ad}{M M':Mp}{p:Addr}{rs:List Addr}{ws:List uM}(h:rR a M rs ws)(k:rM p M M')(n:∀r∈rs,r≠p):rR a M' rs ws:=⟨h.1,λi r v e1 e2=>k r _ (n r (fO e1)) (h.2 i r v e1 e2)⟩
def rR.sub{a:Ad}{M M':Mp}{rs:List Addr}{ws:List uM}(h:rR a M rs ws)(k:pY M M'):rR a M' rs ws:=⟨h.1,λi r v e1 e2=>k r _ (h.2 i r v e1 e2)⟩
def sC.sub{a:Ad}{M M':Mp}{p:Addr}{l:oW}(h:sC a M p l)(s:pY M M'):sC a M' p l:=by obtain⟨ph,gr,ws,on,pr,gd,rs,h1,h2,h3,h4,h5,h6,h7,h8⟩:=h;exact⟨ph,gr,ws,on,pr,gd,rs,s _ _ h1,s.lst h2,s.lst h3,s.lst h4,s.lst h5,s.dk h6,s.dk h7,h8.sub s⟩
def OD(a:Ad):qJ:=λds M Q=>Fs λp r1 r2 r3 (l:oW)=>ds=[.ref p,.ref r1,.ref r2,.ref r3]/\M p=some (.ins a.h [])/\oA M r1=some (l.mo.map qv)/\oA M r2=some (l.groups.map qH)/\oA M r3=some (l.mv.map wx)/\rg l/\
 ∀M',rM p M M'->sC a M' p l->(∀Vz,(∀b c,(b=p\/M b=none)->M' b=some c->Vz b=some c)->sC a Vz p l)->Q .mz M'
def qX{M N:Mp}{p x:Addr}{c:uA}(k:rM p M N)(hp:N p=some c)(h:N x=none):M x=none:=by
 cases e:M x with
 | none=>rfl
 | some d=>
  have n:x≠p:=λz=>by rw[z,hp]at h;cases h
  rw[k x d n e]at h;cases h
def yW{M:Mp}{a:Addr}{es:List (qE×D)}(h:zc M a=some es):M a=some (.dk es):=by
 unfold zc at h;split at h
 .rename_i e;rw[e];cases h;rfl
 .cases h
theorem vU{α:Type}(f:α->Str)(g:α->D):∀l:List α,vP (l.map λx=>D.tup [.str (f x),g x])=some (l.map λx=>(Sum.inr (f x),g x))
 | []=>rfl
 | x::r=>by show(vP (r.map λx=>D.tup [.str (f x),g x])).map ((Sum.inr (f x),g x)::·)=_;rw[vU f g r];rfl
def IS{ss:List Str}(h:ss.Nodup):(ss.map λx=>(Sum.inr x:qE)).Nodup:=by
 induction ss with
 | nil=>exact eC
 | cons x r ih=>obtain⟨h1,h2⟩:=dJ.mp h;rw[dQ];refine dJ.mpr ⟨λz=>h1 ?_,ih h2⟩;obtain⟨y,hy,e⟩:=dv.mp z;cases e;exact hy
def xV{α:Type}{f:α->Str}{g:α->D}{l:List α}(h:(l.map f).Nodup):((l.map λx=>((Sum.inr (f x):qE),g x)).map (·.1)).Nodup:=by rw[dX];have:=IS h;rw[dX]at this;exact this
noncomputable def AG(d:D):D:=.tup [Aq d,d]
noncomputable def U0:D->D
 | .tup (x::_)=>x
 | _=>.mz
def Rj(ws:List uM):(ws.map wx).map U0=ws.map λw=>D.bl w.1:=by rw[dX];rfl
def E9(ps:List tz):(ps.map qv).map AG=ps.map λp=>D.tup [.str p.1,qv p]:=by rw[dX];rfl
def FO(ps:List tJ):(ps.map qH).map AG=ps.map λp=>D.tup [.str p.1,qH p]:=by rw[dX];rfl
def rR.snoc{a:Ad}{M:Mp}{rs:List Addr}{ws:List uM}{r:Addr}{v:uM}(h:rR a M rs ws)(n:M r=none):rR a (oU M r (.ins (v.2.cls a) v.2.nj)) (rs++[r]) (ws++[v]):=by
 refine⟨by rw[cU,cU,h.1];rfl,λi r' v' e1 e2=>?_⟩;by_cases hi:i<rs.length
 .rw[eS hi]at e1;rw[eS (by rw[<-h.1];exact hi)]at e2;have:=h.2 i r' v' e1 e2;rw[tI (PJ this n)];exact this
 .have Xw:i=rs.length:=by have:=(cT.mp e1).1;rw[cU,dN]at this;omega
  subst Xw;rw[eO (c9 _)]at e1;rw[h.1,eO (c9 _)]at e2;simp only[g9,ip,jk]at e1 e2;subst e1 e2;exact pA
def OC(G:Gl K mg a):Fq P w K mg base 7 a.ai (OD a):=by
 refine fq G.ai.toDG DS (λr u=>⟨_,(oJ (pf (oY (Cf G) r G.bi (qP U1 U2 U3)))
 (oJ (pK v0 (pR sY rfl G.y sZ (pO U1)))
 (oJ (pK v0 (pR sY rfl G.y sZ (pO U2)))
 (oJ (pK v0 (qh rfl (xu (ix:=[none,none]) (N':=["on","wish"])) (qd U3) (uk (n:=2) rfl (pT (qe 0) (pT (qe 1) sD))) rB (oY (GD G) r G.bc (pO U1))))
 (oJ (pK v0 (qh rfl (xu (ix:=[none,none]) (N':=["on","wish"])) (qd U3) (uk (n:=2) rfl (pT (qe 0) (pT (qe 1) sD))) rB v0))
 (oJ (pK v0 (pR (DW rfl) rfl G.bT EC (pO (qh rfl (xu (ix:=[none]) (N':=["phone"])) (qd U1) (qe 0) rB (pk (rJ (o9 v0 oN) v0))))))
 (oM (pK v0 (pR (DW rfl) rfl G.bT EC (pO (qh rfl (xu (ix:=[none]) (N':=["group"])) (qd U2) (qe 0) rB (pk (rJ (o9 v0 oN) v0))))))))))))),?_⟩)
 rintro ds M Q ⟨p,r1,r2,r3,l,rfl,hp,h1,h2,h3,ok,q⟩
 have hz:=dI;have l1:=ok.p8;have l2:=ok.g3;have l3:=ok.w16;refine⟨r1,r2,r3,l,rfl,h1,h2,h3,ok,?_⟩;refine i' h1 λph hph=>?_;obtain⟨n1,e1,k1,c1,p1⟩:=sd (fs':=[("phones",.ref ph)]) (c:=.lst (l.mo.map qv)) hp hph;refine oK e1 ⟨(G.Y "phones" rfl),by show 0<1000;decide,?_⟩;show tW _ _ _ _ (oU (oU M ph (.lst (l.mo.map qv))) p (.ins a.h [("phones",.ref ph)]));generalize oU (oU M ph (.lst (l.mo.map qv))) p (.ins a.h [("phones",.ref ph)])=N1 at k1 c1 p1 ⊢;have Wl:=k1.lst (pD h1 hp) h1;have h2':=k1.lst (pD h2 hp) h2;have Ye:=k1.lst (pD h3 hp) h3;have f1:oA N1 ph=some (l.mo.map qv):=rY c1;refine i' h2' λgr hgr=>?_;obtain⟨n2,e2,k2,c2,p2⟩:=sd (fs':=[("phones",.ref ph),("groups",.ref gr)]) (c:=.lst (l.groups.map qH)) p1 hgr;refine oK e2 ⟨(G.Y "groups" rfl),by show 1<1000;decide,?_⟩;show tW _ _ _ _ (oU (oU N1 gr (.lst (l.groups.map qH))) p (.ins a.h [("phones",.ref ph),("groups",.ref gr)]));generalize oU (oU N1 gr (.lst (l.groups.map qH))) p (.ins a.h [("phones",.ref ph),("groups",.ref gr)])=N2 at k2 c2 p2 ⊢;have g1:=k2.lst (pD Wl p1) Wl;have g2:=k2.lst (pD h2' p1) h2';have g3:=k2.lst (pD Ye p1) Ye;have f2:=k2.lst (pD f1 p1) f1;have f3:oA N2 gr=some (l.groups.map qH):=rY c2;have kk2:=k1.trans k2;have m2:M gr=none:=qX k1 p1 hgr;clear Wl h2' Ye f1 c1 c2 k1 k2 e1 e2;refine i' g3 ?_;refine EO (l.mv.map wx) (λpre acc δ Mx=>(∃x y,δ=[x,y])/\pY N2 Mx/\∃rs:List Addr,acc=rs.map D.ref/\(∀r∈rs,N2 r=none)/\rR a Mx rs (l.mv.take pre.length)) (λpre acc δ Mx j=>j.2.1.lst g3) _ [] [] _ _ rfl (by rw[cQ];simp only[dD];omega) ⟨⟨none,none,rfl⟩,.refl,[],rfl,λr hr=>absurd hr (dz),rfl,λi r v e=>by simp at e⟩ ?_ ?_
 .rintro pre d post e acc δ Mx ⟨⟨x,y,rfl⟩,sx,rs,rfl,fr,wa⟩ k hk
  obtain⟨v,hv,rfl⟩:∃v,l.mv[pre.length]?=some v/\d=wx v:=by
   have:(l.mv.map wx)[pre.length]?=some d:=by rw[<-e];simp
   rw[dw]at this;cases z:l.mv[pre.length]? with
   | none=>rw[z]at this;cases this
   | some v=>rw[z]at this;exact⟨v,rfl,(de this).symm⟩
  refine⟨rfl,⟨v.2,rfl,λr hr=>hk _ _ _ ⟨⟨_,_,rfl⟩,sx.trans (.new hr),rs++[r],?_,λr' hr'=>?_,?_⟩⟩⟩
  .rw[dM];rfl
  .rcases dR.mp hr' with z|z
   .exact fr r' z
   .rw[dg.mp z];exact sx.none hr
  .rw[cU,dN,gU,hv];exact wa.snoc hr
 rintro acc δ Mx ⟨⟨x,y,rfl⟩,sx,rs,rfl,fr,wa⟩ ws hws
 have wa:rR a Mx rs l.mv:=by rw[cQ,fE]at wa;exact wa
 obtain⟨n3,e3,k3,c3,p3⟩:=sd (fs':=[("phones",.ref ph),("groups",.ref gr),("wishes",.ref ws)]) (c:=.lst (rs.map D.ref)) (sx _ _ p2) hws;refine oK e3 ⟨(G.Y "wishes" rfl),by show 2<1000;decide,?_⟩;show tW _ _ _ _ (oU (oU Mx ws (.lst (rs.map D.ref))) p (.ins a.h [("phones",.ref ph),("groups",.ref gr),("wishes",.ref ws)]));generalize oU (oU Mx ws (.lst (rs.map D.ref))) p (.ins a.h [("phones",.ref ph),("groups",.ref gr),("wishes",.ref ws)])=N3 at k3 c3 p3 ⊢;have px:=sx _ _ p2;have i1:=k3.lst (pD (sx.lst g1) px) (sx.lst g1);have i2:=k3.lst (pD (sx.lst g2) px) (sx.lst g2);have i3:=k3.lst (pD (sx.lst g3) px) (sx.lst g3);have f4:=k3.lst (pD (sx.lst f2) px) (sx.lst f2);have f5:=k3.lst (pD (sx.lst f3) px) (sx.lst f3);have f6:oA N3 ws=some (rs.map D.ref):=rY c3;have rp:∀r∈rs,r≠p:=λr hr z=>by have:=fr r hr;rw[z,p2]at this;cases this
 have w3:=wa.keep k3 rp;have kk3:=(kk2.trans sx.keep).trans k3;have m3:M ws=none:=qX (kk2.trans sx.keep) px hws;have mr:∀r∈rs,M r=none:=λr hr=>qX kk2 p2 (fr r hr);clear g1 g2 g3 f2 f3 c3 k3 e3 wa px kk2;refine i' i3 (A5 (f:=U0) (λδ=>∃x y,δ=[x,y]) i3 _ [] _ ⟨none,none,rfl⟩ (by rw[cQ];simp only[dD];omega) (λd hd δ hj k hk=>?_) λon YL=>?_)
 .obtain⟨x,y,rfl⟩:=hj;obtain⟨v,_,rfl⟩:=dv.mp hd;exact⟨rfl,hk _ ⟨_,_,rfl⟩⟩
 rw[dS,Rj];obtain⟨n4,e4,k4,c4,p4⟩:=sd (fs':=[("phones",.ref ph),("groups",.ref gr),("wishes",.ref ws),("on",.ref on)]) (c:=.lst (l.mv.map λw=>D.bl w.1)) p3 YL;refine oK e4 ⟨(G.Y "on" rfl),by show 3<1000;decide,?_⟩;show tW _ _ _ _ (oU (oU N3 on (.lst (l.mv.map λw=>D.bl w.1))) p (.ins a.h [("phones",.ref ph),("groups",.ref gr),("wishes",.ref ws),("on",.ref on)]));generalize oU (oU N3 on (.lst (l.mv.map λw=>D.bl w.1))) p (.ins a.h [("phones",.ref ph),("groups",.ref gr),("wishes",.ref ws),("on",.ref on)])=N4 at k4 c4 p4 ⊢;have j1:=k4.lst (pD i1 p3) i1;have j2:=k4.lst (pD i2 p3) i2;have f7:=k4.lst (pD f4 p3) f4;have f8:=k4.lst (pD f5 p3) f5;have f9:=k4.lst (pD f6 p3) f6;have fa:oA N4 on=some (l.mv.map λw=>D.bl w.1):=rY c4;have w4:=w3.keep k4 rp;have XB:=kk3.trans k4;have m4:M on=none:=qX kk3 p3 YL;clear i1 i2 i3 f4 f5 f6 c4 k4 e4 w3 kk3;refine i' j1 (qy (f:=AG) j1 _ [] _ (by rw[cQ];simp only[dD];omega) (λd hd k hk=>?_) λq1 WC=>?_)
 .obtain⟨v,_,rfl⟩:=dv.mp hd;exact⟨oG rfl,hk⟩
 rw[dS,E9];have Yf:=pY.new (c:=.lst (l.mo.map λp=>D.tup [.str p.1,qv p])) WC;refine i' oS (i' (vU (λp:tz=>p.1) qv l.mo) ⟨xV (il (List.sublist_append_left _ _) ok.nd),λpr hpr=>?_⟩);obtain⟨n5,e5,k5,c5,p5⟩:=sd (fs':=[("phones",.ref ph),("groups",.ref gr),("wishes",.ref ws),("on",.ref on),("phone_rows",.ref pr)]) (c:=.dk (l.mo.map λx=>(Sum.inr x.1,qv x))) (Yf _ _ p4) hpr;refine oK e5 ⟨(G.Y "phone_rows" rfl),by show 4<1000;decide,?_⟩;have k5:=Yf.keep.trans k5;have Xq:vq "phone_rows" (.ref pr) [("phones",.ref ph),("groups",.ref gr),("wishes",.ref ws),("on",.ref on)]=([("phones",.ref ph),("groups",.ref gr),("wishes",.ref ws),("on",.ref on),("phone_rows",.ref pr)]:List (Str×D)):=rfl;rw[Xq];generalize oU (oU (oU N4 q1 (.lst (l.mo.map λp=>D.tup [.str p.1,qv p]))) pr (.dk (l.mo.map λx=>(Sum.inr x.1,qv x)))) p (.ins a.h [("phones",.ref ph),("groups",.ref gr),("wishes",.ref ws),("on",.ref on),("phone_rows",.ref pr)])=N5 at k5 c5 p5 ⊢;have mm:=k5.lst (pD j2 p4) j2;have fb:=k5.lst (pD f7 p4) f7;have fc:=k5.lst (pD f8 p4) f8;have fd:=k5.lst (pD f9 p4) f9;have fe:=k5.lst (pD fa p4) fa;have ff:zc N5 pr=some (Rl l):=CZ c5;have w5:=w4.keep k5 rp;have XC:=XB.trans k5;have m5:M pr=none:=qX (XB.trans Yf.keep) (Yf _ _ p4) hpr;clear j1 j2 f7 f8 f9 fa c5 k5 e5 w4 XB;refine i' mm (qy (f:=AG) mm _ [] _ (by rw[cQ];simp only[dD];omega) (λd hd k hk=>?_) λq2 XZ=>?_)
 .obtain⟨v,_,rfl⟩:=dv.mp hd;exact⟨oG rfl,hk⟩
 rw[dS,FO];have sq2:=pY.new (c:=.lst (l.groups.map λg=>D.tup [.str g.1,qH g])) XZ;refine i' oS (i' (vU (λp:tJ=>p.1) qH l.groups) ⟨xV (il (jp _ _) ok.nd),λgd hgd=>?_⟩);obtain⟨n6,e6,k6,c6,p6⟩:=sd (fs':=Pl ph gr ws on pr gd) (c:=.dk (Hh l)) (sq2 _ _ p5) hgd;have k6:=sq2.keep.trans k6;refine oK e6 ⟨(G.Y "group_rows" rfl),by show 5<1000;decide,_,.refl,?_⟩;have m6:M gd=none:=qX (XC.trans sq2.keep) (sq2 _ _ p5) hgd;have w6:=w5.keep k6 rp;have y1:=k6.lst (pD fb p5) fb;have y2:=k6.lst (pD fc p5) fc;have y3:=k6.lst (pD fd p5) fd;have y4:=k6.lst (pD fe p5) fe;have y5:=k6.dk (BB ff p5) ff;refine q _ (XC.trans k6) ⟨ph,gr,ws,on,pr,gd,rs,p6,y1,y2,y3,y4,y5,CZ c6,w6⟩ λVz hs=>?_;exact⟨ph,gr,ws,on,pr,gd,rs,hs _ _ (.inl rfl) p6,rY (hs _ _ (.inr hph) (pS y1)),rY (hs _ _ (.inr m2) (pS y2)),rY (hs _ _ (.inr m3) (pS y3)),rY (hs _ _ (.inr m4) (pS y4)),CZ (hs _ _ (.inr m5) (yW y5)),CZ (hs _ _ (.inr m6) c6),w6.1,λi r v e1 e2=>hs _ _ (.inr (mr r (fO e1))) (w6.2 i r v e1 e2)⟩
theorem xH{α:Type}(f:α->Str)(g:α->D)(k:Str):∀l:List α,uS (l.map λx=>((Sum.inr (f x):qE),g x)) (Sum.inr k)=(l.find? λx=>decide (f x=k)).map g
 | []=>rfl
 | x::r=>by
  have ih:=xH f g k r;unfold uS at ih ⊢;rw[dQ,fA,fA];by_cases h:f x=k
  .have h':decide ((Sum.inr (f x):qE)=Sum.inr k)=true:=dO (by rw[h]);simp[h]
  .have h':¬(Sum.inr (f x):qE)=Sum.inr k:=λz=>h (jR z);simp only[h,h',decide_false];exact ih
noncomputable def oW.mL(l:oW)(x:Str):Option tz:=l.mo.find? λp=>decide (p.1=x)
noncomputable def oW.group(l:oW)(x:Str):Option tJ:=l.groups.find? λg=>decide (g.1=x)
noncomputable def oW.mj(l:oW)(x:Str):List Str:=(l.group x).elim [x] λg=>g.2.2
noncomputable def oW.mD(l:oW)(x:Str):Str:=(l.group x).elim "one" λg=>g.2.1
def F0(l:oW)(x:Str):uS (Rl l) (Sum.inr x)=(l.mL x).map qv:=xH (λp:tz=>p.1) qv x l.mo
def vA(l:oW)(x:Str):uS (Hh l) (Sum.inr x)=(l.group x).map qH:=xH (λp:tJ=>p.1) qH x l.groups
def yj(a:Ad):qJ:=λds M Q=>Ay λp (l:oW)=>ds=[.ref p]/\sC a M p l/\l.mo.length<=100/\∀q,M q=none->Q (.ref q) (oU M q (.lst (l.pn.map D.str)))
def Eb(a:Ad):qJ:=λds M Q=>Ay λp (l:oW)=>ds=[.ref p]/\sC a M p l/\l.mo.length<=100/\l.groups.length<=100/\∀q,M q=none->Q (.ref q) (oU M q (.lst (l.nm.map D.str)))
def Ew(a:Ad):qJ:=λds M Q=>AD λp x v (l:oW)=>ds=[.ref p,.str x]/\sC a M p l/\l.mL x=some v/\Q (.int v.2.1) M
def F6(a:Ad):qJ:=λds M Q=>AD λp x v (l:oW)=>ds=[.ref p,.str x]/\sC a M p l/\l.mL x=some v/\Q (.int v.2.2) M
def zi(a:Ad):qJ:=λds M Q=>Ck λp x (l:oW)=>ds=[.ref p,.str x]/\sC a M p l/\∀q,M q=none->Q (.ref q) (oU M q (.lst ((l.mj x).map D.str)))
def B7(a:Ad):qJ:=λds M Q=>Ck λp x (l:oW)=>ds=[.ref p,.str x]/\sC a M p l/\Q (.str (l.mD x)) M
def sO(G:Gl K mg a):Fq P w K mg base 1 a.R (yj a):=by
 refine fq G.R.toDG xO (λr u=>⟨_,(oM (oR (qh rfl (xu (ix:=[none]) (N':=["phone"])) (qd (oP v0)) (qe 0) rB (o9 v0 oN)))),?_⟩)
 rintro ds M Q ⟨p,l,rfl,hp,hl,q⟩
 have hz:=dI;obtain⟨ph,gr,ws,on,pr,gd,rs,h1,h2,h3,h4,h5,h6,h7,h8⟩:=hp;refine oK h1 (i' rfl (i' h2 ?_));refine qy (f:=Aq) h2 _ [] _ (by rw[cQ];simp only[dD];omega) (λd hd k hk=>?_) λq1 WC=>?_
 .obtain⟨x,_,rfl⟩:=dv.mp hd;exact hk
 rw[dS,wg];exact⟨_,.refl,q q1 WC⟩
def Cr(G:Gl K mg a):Fq P w K mg base 2 a.bx (Eb a):=by
 refine fq G.bx.toDG Cp (λr u=>⟨_,(oM (oR (pE (xE v0 G.h.toCls G.R (sO G) r) (qh rfl (xu (ix:=[none]) (N':=["group"])) (qd (oP v0)) (qe 0) rB (o9 v0 oN))))),?_⟩)
 rintro ds M Q ⟨p,l,rfl,hp,hl,hl2,q⟩
 have hz:=dI;have VN:=hp;obtain⟨ph,gr,ws,on,pr,gd,rs,h1,h2,h3,h4,h5,h6,h7,h8⟩:=hp;refine oK h1 ⟨rfl,_,⟨rfl,rfl⟩,p,l,rfl,VN,hl,λq1 WC=>?_⟩;have s1:=pY.new (c:=.lst (l.pn.map D.str)) WC;have e1:=@oS M q1 (l.pn.map D.str);generalize oU M q1 (.lst (l.pn.map D.str))=M1 at s1 e1 ⊢;have Ye:=s1.lst h3;refine oK (s1 _ _ h1) (i' rfl (i' Ye ?_));refine qy (f:=Aq) Ye _ [] _ (by rw[cQ];simp only[dD];omega) (λd hd k hk=>?_) λq2 XZ=>?_
 .obtain⟨x,_,rfl⟩:=dv.mp hd;exact hk
 rw[dS,vO];have s2:=pY.new (c:=.lst ((l.groups.map (·.1)).map D.str)) XZ;refine i' (s2.lst e1) (i' oS ⟨?_,λq3 hq3=>?_⟩)
 .rw[cQ,cQ,cQ];show(l.mo.map (·.1)).length+_<=_;rw[cQ];omega
 have en:l.pn.map D.str++(l.groups.map (·.1)).map D.str=l.nm.map D.str:=by unfold oW.nm;rw[dM];rfl
 rw[en];exact⟨_,(s1.trans s2).upd,q q3 ((s1.trans s2).none hq3)⟩
def Ca(G:Gl K mg a):Fq P w K mg base 1 a.bF (Ew a):=by
 refine fq G.bF.toDG Cd (λr u=>⟨_,(oM (oR (o9 (yU u (oP v0) U1) oN))),?_⟩)
 rintro ds M Q ⟨p,x,v,l,rfl,hp,hv,q⟩
 obtain⟨ph,gr,ws,on,pr,gd,rs,h1,h2,h3,h4,h5,h6,h7,h8⟩:=hp;exact oK h1 (i' rfl (i' rfl (i' h6 (i' (x:=qv v) (by rw[F0,hv];rfl) ⟨M,.refl,q⟩))))
def yR(G:Gl K mg a):Fq P w K mg base 1 a.aK (F6 a):=by
 refine fq G.aK.toDG Ey (λr u=>⟨_,(oM (oR (o9 (yU u (oP v0) U1) oN))),?_⟩)
 rintro ds M Q ⟨p,x,v,l,rfl,hp,hv,q⟩
 obtain⟨ph,gr,ws,on,pr,gd,rs,h1,h2,h3,h4,h5,h6,h7,h8⟩:=hp;exact oK h1 (i' rfl (i' rfl (i' h6 (i' (x:=qv v) (by rw[F0,hv];rfl) ⟨M,.refl,q⟩))))
def tS(G:Gl K mg a):Fq P w K mg base 1 a.V (zi a):=by
 refine fq G.V.toDG yu (λr u=>⟨_,(oJ (pq (L6 u U1 (oP v0))
 (oM (oR (pR sY rfl G.y sZ (pO (o9 (yU u (oP v0) U1) oN)))))
 oX)
 (oM (oR (qr (pO U1))))),?_⟩)
 rintro ds M Q ⟨p,x,l,rfl,hp,q⟩
 obtain⟨ph,gr,ws,on,pr,gd,rs,h1,h2,h3,h4,h5,h6,h7,h8⟩:=hp;refine oK h1 (i' rfl (i' h7 ?_));cases e:l.group x with
 | none=>refine LI (c:=(uS (Hh l) (Sum.inr x)).isSome) (by rw[vA,e];rfl) ⟨oG rfl,λq1 WC=>⟨_,.refl,?_⟩⟩;have:=q q1 WC;unfold oW.mj at this;rw[e]at this;exact this
 | some g=>refine wU (c:=(uS (Hh l) (Sum.inr x)).isSome) (by rw[vA,e];rfl) (oK h1 (i' rfl (i' rfl (i' h7 (i' (x:=qH g) (by rw[vA,e];rfl) λq1 WC=>⟨_,.refl,?_⟩)))));have:=q q1 WC;unfold oW.mj at this;rw[e]at this;exact this
def xc(G:Gl K mg a):Fq P w K mg base 1 a.aI (B7 a):=by
 refine fq G.aI.toDG BG (λr u=>⟨_,(oJ (pq (L6 u U1 (oP v0))
 (oM (oR (o9 (yU u (oP v0) U1) oN)))
 oX)
 (oM (oR oO))),?_⟩)
 rintro ds M Q ⟨p,x,l,rfl,hp,q⟩
 obtain⟨ph,gr,ws,on,pr,gd,rs,h1,h2,h3,h4,h5,h6,h7,h8⟩:=hp;refine oK h1 (i' rfl (i' h7 ?_));cases e:l.group x with
 | none=>refine LI (c:=(uS (Hh l) (Sum.inr x)).isSome) (by rw[vA,e];rfl) ⟨M,.refl,?_⟩;unfold oW.mD at q;rw[e]at q;exact q
 | some g=>refine wU (c:=(uS (Hh l) (Sum.inr x)).isSome) (by rw[vA,e];rfl) (oK h1 (i' rfl (i' rfl (i' h7 (i' (x:=qH g) (by rw[vA,e];rfl) ⟨M,.refl,?_⟩)))));unfold oW.mD at q;rw[e]at q;exact q
noncomputable def Ni:List Int:=[1,1,2,2,3]
noncomputable def Nm:List Int:=[0,1,1,2,5,9]
noncomputable def Nx:List Str:=["all","turns"]
noncomputable def E8(t:List Int)(i:Int):Int:=t.getD i.toNat 0
noncomputable def vt(s:Int)(i:Nat):tz:=(wH s (0+(i:Nat)),E8 Ni (draw (s+17*(0+(i:Nat))*(0+(i:Nat))) 16807 5),E8 Nm (draw (s+17*(0+(i:Nat))*(0+(i:Nat))) 39373 6))
noncomputable def qY(s m:Int):Nat:=(2+draw s 48271 (m - 1)).toNat
noncomputable def pZ(s m:Int):List tz:=(List.range (qY s m)).map (vt s)
noncomputable def zw(s:Int)(own:List Str)(i:Nat):tJ:=(wH s (8+(0+(i:Nat))),BC Nx (draw (s+5*(0+(i:Nat))) 742938285 2),vb own (s+11*(0+(i:Nat))) 4)
noncomputable def vc(s:Int):Nat:=(draw s 69621 3).toNat
noncomputable def qA(s:Int)(own:List Str):List tJ:=(List.range (vc s)).map (zw s own)
def Fd{ts:List Int}{i:Int}(h0:0<=i)(h1:i<ts.length):vL (ts.map D.int) i=some (D.int (E8 ts i)):=by
 obtain⟨n,rfl⟩:=dY h0;have W9:n<ts.length:=by omega
 refine uz ?_;rw[dw,cS W9];simp[E8,W9]
def AQ{n:Nat}{pre post:List D}{d:D}(e:pre++d::post=(List.range n).map λi=>D.int (0+(i:Nat))):d=.int (0+(pre.length:Nat))/\pre.length<n:=by
 have h:((List.range n).map λi=>D.int (0+(i:Nat)))[pre.length]?=some d:=by rw[<-e];simp
 have hl:pre.length<n:=by
  have:=(cT.mp h).1
  simpa using this
 rw[dw,kt hl]at h;exact⟨(de h).symm,hl⟩
def Bh{α β:Type}(f:Nat->α)(g:α->β)(n:Nat):((List.range n).map f).map g++[g (f n)]=((List.range (n+1)).map f).map g:=by rw[jP,dM,dM];rfl
def G9:qJ:=λds M Q=>Ay λs m=>ds=[.int s,.int m]/\2<=m/\m<=100/\∀q,M q=none->Q (.ref q) (oU M q (.lst ((pZ s m).map qv)))
def Hg:qJ:=λds M Q=>Ck λs o own=>ds=[.int s,.ref o]/\oA M o=some (own.map D.str)/\own≠[]/\own.length<=64/\∀q,M q=none->Q (.ref q) (oU M q (.lst ((qA s own).map qH)))
def wc{s m:Int}(h2:2<=m)(h:m<=100):qY s m<=100/\2<=qY s m:=by have d0:=qB (c:=s) (f:=48271) (m:=m - 1) (by omega);have d1:=qu (c:=s) (f:=48271) (m:=m - 1) (by omega);unfold qY;omega
def vX{s:Int}:vc s<=3:=by have d0:=qB (c:=s) (f:=69621) (m:=3) (by decide);have d1:=qu (c:=s) (f:=69621) (m:=3) (by decide);unfold vc;omega
def Hj(G:Gl K mg a):Fq P w K mg base 2 a.bj G9:=by
 refine fq G.bj.toDG uf (λr u=>⟨_,(oJ (oZ 2 uf (qr rO))
 (oJ (tM eU rfl (vC rfl G.aO (pO (pE oN (oY (ql G) r G.i (qP v0 oN (pE U1 oN)))))) (qI 3 uf)
 (oJ (oZ 4 uf (o9 (pk (pF oN (pF oN (qP oN oN oN)))) (oY (ql G) r G.i (qP (pE v0 (pE (pE oN U3) U3)) oN oN))))
 (oM (pf (rk U2 (pO (pk (qP (oY (HE G) r G.ae (rJ v0 U3)) v4 (o9 (pk (pF oN (pF oN (pF oN (qP oN oN oN))))) (oY (ql G) r G.i (qP (pE v0 (pE (pE oN U3) U3)) oN oN)))))))))))
 (oM (oR U2)))),?_⟩)
 rintro ds M Q ⟨s,m,rfl,h2,h100,q⟩
 have hz:=dI;have d0:=qB (c:=s) (f:=48271) (m:=m - 1) (by omega);have d1:=qu (c:=s) (f:=48271) (m:=m - 1) (by omega);have nl:=(wc (s:=s) h2 h100).1;refine⟨oG rfl,λr hr=>⟨s,_,_,rfl,by show 0<m - 1;omega,rfl,⟨?_,?_⟩,?_⟩⟩
 .show -(2 ^ 62)<=2+draw s 48271 (m - 1);omega
 .show 2+draw s 48271 (m - 1)<2 ^ 62;omega
 refine uP ((List.range (qY s m)).map λi=>D.int (0+(i:Nat))) (λpre δ M'=>M'=oU M r (.lst (((List.range pre.length).map (vt s)).map qv))/\∃x y,δ=[some (.int s),some (.int m),some (.ref r),x,y]) (λ_ _ _ _=>trivial) _ [] _ _ rfl ⟨rfl,none,none,rfl⟩ ?_ ?_
 .rintro pre d post e δ M' ⟨rfl,x,y,rfl⟩ nx VI
  obtain⟨rfl,VL⟩:=AQ e;generalize hi:pre.length=i at VL VI ⊢;have cm:Cz (17*(0+(i:Int))) (0+(i:Int)):=.inr ⟨by omega,by omega⟩;have c17:Cz 17 (0+(i:Int)):=.inl ⟨by decide,by decide⟩;have t5:vL [D.int 1,.int 1,.int 2,.int 2,.int 3] (draw (s+17*(0+(i:Int))*(0+(i:Int))) 16807 5)=some (.int (vt s i).2.1):=Fd (ts:=Ni) (qB (by decide)) (qu (by decide));have t6:vL [D.int 0,.int 1,.int 1,.int 2,.int 5,.int 9] (draw (s+17*(0+(i:Int))*(0+(i:Int))) 39373 6)=some (.int (vt s i).2.2):=Fd (ts:=Nm) (qB (by decide)) (qu (by decide));refine⟨oG rfl,c17,cm,_,_,_,rfl,by decide,i' t5 ?_⟩;refine⟨by show(oA _ r).isSome=true;rw[oS];rfl,s,_,rfl,oG rfl,c17,cm,_,_,_,rfl,by decide,i' t6 ⟨oG rfl,i' oS ⟨?_,?_⟩⟩⟩
  .rw[cQ,cQ,eA];omega
  .refine VI _ _ ⟨?_,_,_,rfl⟩;rw[rc,cU,hi];show oU M r (.lst (_++[qv (vt s i)]))=_;rw[Bh];rfl
 .rintro δ M' ⟨rfl,x,y,rfl⟩
  refine⟨_,.refl,?_⟩;rw[cQ,eA];exact q r hr
def GW(G:Gl K mg a):Fq P w K mg base 3 a.bk Hg:=by
 refine fq G.bk.toDG ud (λr u=>⟨_,(oJ (oZ 2 ud (qr rO))
 (oJ (tM eU rfl (vC rfl G.aO (pO (oY (ql G) r G.i (qP v0 oN oN)))) (qI 3 ud)
 (oJ (oZ 4 ud (o9 (pk (rJ oO oO)) (oY (ql G) r G.i (qP (pE v0 (pE oN U3)) oN oN))))
 (oM (pf (rk U2 (pO (pk (qP (oY (HE G) r G.ae (rJ v0 (pE oN U3))) v4 (oY (xC G) r G.P (qP U1 (pE v0 (pE oN U3)) oN))))))))))
 (oM (oR U2)))),?_⟩)
 rintro ds M Q ⟨s,o,own,rfl,ho,VV,h64,q⟩
 have hz:=dI;have d0:=qB (c:=s) (f:=69621) (m:=3) (by decide);have d1:=qu (c:=s) (f:=69621) (m:=3) (by decide);have nl:=vX (s:=s);refine⟨oG rfl,λr hr=>⟨s,_,_,rfl,by decide,rfl,⟨?_,?_⟩,?_⟩⟩
 .show -(2 ^ 62)<=draw s 69621 3;omega
 .show draw s 69621 3<2 ^ 62;omega
 have nor:o≠r:=λz=>by rw[z]at ho;unfold oA at ho;rw[hr]at ho;cases ho
 refine uP ((List.range (vc s)).map λi=>D.int (0+(i:Nat))) (λpre δ M'=>M'=oU M r (.lst (((List.range pre.length).map (zw s own)).map qH))/\∃x y,δ=[some (.int s),some (.ref o),some (.ref r),x,y]) (λ_ _ _ _=>trivial) _ [] _ _ rfl ⟨rfl,none,none,rfl⟩ ?_ ?_
 .rintro pre d post e δ M' ⟨rfl,x,y,rfl⟩ nx VI
  obtain⟨rfl,VL⟩:=AQ e;generalize hi:pre.length=i at VL VI ⊢;have c5:Cz 5 (0+(i:Int)):=.inl ⟨by decide,by decide⟩;have c11:Cz 11 (0+(i:Int)):=.inl ⟨by decide,by decide⟩;have tm:vL [D.str "all",.str "turns"] (draw (s+5*(0+(i:Int))) 742938285 2)=some (.str (zw s own i).2.1):=G' (row:=Nx) (qB (by decide)) (qu (by decide));have Wg:oA (oU M r (.lst (((List.range i).map (zw s own)).map qH))) o=some (own.map D.str):=by unfold oA;rw[tI nor];exact ho
  refine⟨oG rfl,c5,_,_,_,rfl,by decide,i' tm ?_⟩;refine⟨by show(oA _ r).isSome=true;rw[oS];rfl,s,_,rfl,c11,o,_,_,own,rfl,Wg,VV,by decide,h64,oG rfl,i' oS ⟨?_,?_⟩⟩
  .rw[cQ,cQ,eA];omega
  .refine VI _ _ ⟨?_,_,_,rfl⟩;rw[rc,cU,hi];show oU M r (.lst (_++[qH (zw s own i)]))=_;rw[Bh];rfl
 .rintro δ M' ⟨rfl,x,y,rfl⟩
  refine⟨_,.refl,?_⟩;rw[cQ,eA];exact q r hr
noncomputable def HV(ns:List Int)(own nm:List Str)(i:Nat):uM:=(decide (0<draw (cell ns (1+(0+(i:Nat)))+31*(0+(i:Nat))*(0+(i:Nat))) 22695477 6),vF (cell ns (1+(0+(i:Nat)))+31*(0+(i:Nat))*(0+(i:Nat))) own nm)
noncomputable def vT(s:Int):Nat:=(draw s 950706376 11).toNat
noncomputable def uD(ns:List Int)(m:Int):oW:=
 let s:=cell ns 0;let own:=(pZ s m).map (·.1);let gs:=qA s own
 ⟨pZ s m,gs,(List.range (vT s)).map (HV ns own (own++gs.map (·.1)))⟩
def Lm:qJ:=λds M Q=>Ay λns m=>ds=[.rl (ns.map D.int),.int m]/\2<=m/\m<=8/\∀r1 r2 r3 M',pY M M'->oA M' r1=some ((uD ns m).mo.map qv)->oA M' r2=some ((uD ns m).groups.map qH)->oA M' r3=some ((uD ns m).mv.map wx)->Q (.tup [.ref r1,.ref r2,.ref r3]) M'
def Lz(G:Gl K mg a):Fq P w K mg base 4 a.bm Lm:=by
 refine fq G.bm.toDG rK (λr u=>⟨_,(oJ (oZ 2 rK (oY (Mi G) r G.O (rJ v0 oN)))
 (oJ (oZ 3 rK (oY (Hj G) r G.bj (rJ U2 U1)))
 (oJ (uF (i:=4) rK.nd rfl (Or.inl rfl) rfl (xu (ix:=[none]) (N':=["_law_phone"])) (qd U3) (qe 0) rB (o9 v0 oN))
 (oJ (oZ 5 rK (oY (GW G) r G.bk (rJ U2 v4)))
 (oJ (oZ 6 rK (pE v4 (qh rfl (xu (ix:=[none]) (N':=["_law_group"])) (qd v5) (qe 0) rB (o9 v0 oN))))
 (oJ (oZ 7 rK (qr rO))
 (oJ (tM eU rfl (vC rfl G.aO (pO (oY (ql G) r G.i (qP U2 oN oN)))) (qI 8 rK)
 (oJ (oZ 9 rK (pE (oY (Mi G) r G.O (rJ v0 (pE oN v8))) (pE (pE oN v8) v8)))
 (oM (pf (rk v7 (pO (pk (rJ (pC u (oY (ql G) r G.i (qP v9 oN oN)) oN) (oY (MU G) r G.bl (qP v9 v4 v6))))))))))
 (oM (oR (pk (qP U3 v5 v7))))))))))),?_⟩)
 rintro ds M Q ⟨ns,m,rfl,h2,h8,q⟩
 have hz:=dI;have pl:=wc (s:=cell ns 0) h2 (by omega);have p8:qY (cell ns 0) m<=8:=by have d1:=qu (c:=cell ns 0) (f:=48271) (m:=m - 1) (by omega);unfold qY;omega
 have gl:=vX (s:=cell ns 0);have lp:(pZ (cell ns 0) m).length=qY (cell ns 0) m:=by unfold pZ;rw[cQ,eA]
 refine⟨ns,0,rfl,cell ns 0,m,rfl,h2,by omega,λr1 Wm=>?_⟩;have s1:=pY.new (c:=.lst ((pZ (cell ns 0) m).map qv)) Wm;have a1:=@oS M r1 ((pZ (cell ns 0) m).map qv);generalize oU M r1 (.lst ((pZ (cell ns 0) m).map qv))=M1 at s1 a1 ⊢;refine i' a1 (qy (f:=Aq) a1 _ [] _ (by rw[cQ];simp only[dD];omega) (λd hd k hk=>?_) λo ho=>?_)
 .obtain⟨x,_,rfl⟩:=dv.mp hd;exact hk
 rw[dS,wg];have s2:=s1.trans (pY.new (c:=.lst (((pZ (cell ns 0) m).map (·.1)).map D.str)) ho);have b1:=(pY.new (c:=.lst (((pZ (cell ns 0) m).map (·.1)).map D.str)) ho).lst a1;have bo:=@oS M1 o (((pZ (cell ns 0) m).map (·.1)).map D.str);generalize oU M1 o (.lst (((pZ (cell ns 0) m).map (·.1)).map D.str))=M2 at s2 b1 bo ⊢;have ol:((pZ (cell ns 0) m).map (·.1)).length=qY (cell ns 0) m:=by rw[cQ,lp]
 have one:(pZ (cell ns 0) m).map (·.1)≠[]:=λz=>by rw[z]at ol;have:0=qY (cell ns 0) m:=ol;omega
 have VN:uD ns m=⟨pZ (cell ns 0) m,qA (cell ns 0) ((pZ (cell ns 0) m).map (·.1)),(List.range (vT (cell ns 0))).map (HV ns ((pZ (cell ns 0) m).map (·.1)) ((pZ (cell ns 0) m).map (·.1)++(qA (cell ns 0) ((pZ (cell ns 0) m).map (·.1))).map (·.1)))⟩:=rfl;rw[VN]at q;generalize (pZ (cell ns 0) m).map (·.1)=own at bo ol one q ⊢;refine⟨cell ns 0,o,own,rfl,bo,one,by omega,λr2 X0=>?_⟩;have t3:=pY.new (c:=.lst ((qA (cell ns 0) own).map qH)) X0;have c2:=@oS M2 r2 ((qA (cell ns 0) own).map qH);have c1:=t3.lst b1;have co:=t3.lst bo;have s3:=s2.trans t3;generalize oU M2 r2 (.lst ((qA (cell ns 0) own).map qH))=M3 at s3 c1 c2 co ⊢;have gll:(qA (cell ns 0) own).length=vc (cell ns 0):=by unfold qA;rw[cQ,eA]
 refine i' c2 (qy (f:=Aq) c2 _ [] _ (by rw[cQ];simp only[dD];omega) (λd hd k hk=>?_) λx4 hx4=>?_)
 .obtain⟨x,_,rfl⟩:=dv.mp hd;exact hk
 rw[dS,vO];have t4:=pY.new (c:=.lst (((qA (cell ns 0) own).map (·.1)).map D.str)) hx4;refine i' (t4.lst co) (i' oS ⟨?_,λn hn=>?_⟩)
 .rw[cQ,cQ,cQ];omega
 have en:own.map D.str++((qA (cell ns 0) own).map (·.1)).map D.str=(own++(qA (cell ns 0) own).map (·.1)).map D.str:=by rw[dM]
 rw[en];have nl:(own++(qA (cell ns 0) own).map (·.1)).length=qY (cell ns 0) m+vc (cell ns 0):=by rw[cU,cQ,ol,gll]
 have t5:=t4.trans (pY.new (c:=.lst ((own++(qA (cell ns 0) own).map (·.1)).map D.str)) hn);have en5:=@oS (oU M3 x4 (.lst (((qA (cell ns 0) own).map (·.1)).map D.str))) n ((own++(qA (cell ns 0) own).map (·.1)).map D.str);have e1:=t5.lst c1;have e2:=t5.lst c2;have eo:=t5.lst co;have s5:=s3.trans t5;generalize oU (oU M3 x4 (.lst (((qA (cell ns 0) own).map (·.1)).map D.str))) n (.lst ((own++(qA (cell ns 0) own).map (·.1)).map D.str))=M5 at s5 e1 e2 eo en5 ⊢;generalize own++(qA (cell ns 0) own).map (·.1)=nm at en5 nl q ⊢;have d0:=qB (c:=cell ns 0) (f:=950706376) (m:=11) (by decide);have d1:=qu (c:=cell ns 0) (f:=950706376) (m:=11) (by decide);refine⟨oG rfl,λr3 XD=>⟨_,_,_,rfl,by decide,rfl,⟨?_,?_⟩,?_⟩⟩
 .show -(2 ^ 62)<=draw (cell ns 0) 950706376 11;omega
 .show draw (cell ns 0) 950706376 11<2 ^ 62;omega
 have t6:=pY.new (c:=.lst []) XD;have g3:=@oS M5 r3 [];have no:o≠r3:=λz=>by have:=pS eo;rw[z,XD]at this;cases this
 have nn:n≠r3:=λz=>by have:=pS en5;rw[z,XD]at this;cases this
 have n1:r1≠r3:=λz=>by have:=pS e1;rw[z,XD]at this;cases this
 have n2:r2≠r3:=λz=>by have:=pS e2;rw[z,XD]at this;cases this
 have f1:=t6.lst e1;have f2:=t6.lst e2;have fo:=t6.lst eo;have fn:=t6.lst en5;have k6:pY M (oU M5 r3 (.lst [])):=s5.trans t6;have nr:M r3=none:=s5.none XD;generalize oU M5 r3 (.lst [])=M6 at f1 f2 fo fn k6 g3 ⊢;have wl:vT (cell ns 0)<=10:=by unfold vT;omega
 refine uP ((List.range (vT (cell ns 0))).map λi=>D.int (0+(i:Nat))) (λpre δ M'=>rM r3 M6 M'/\oA M' r3=some (((List.range pre.length).map (HV ns own nm)).map wx)/\∃x y,δ=[some (.rl (ns.map D.int)),some (.int m),some (.int (cell ns 0)),some (.ref r1),some (.ref o),some (.ref r2),some (.ref n),some (.ref r3),x,y]) (λp δ M' j=>trivial) _ [] _ _ rfl ⟨λ_ _ _ h=>h,g3,none,none,rfl⟩ ?_ ?_
 .rintro pre d post e δ M' ⟨kp,lr,x,y,rfl⟩ nx VI
  obtain⟨rfl,VL⟩:=AQ e;generalize hi:pre.length=i at VL VI lr ⊢;have c31:Cz 31 (0+(i:Int)):=.inl ⟨by decide,by decide⟩;have cm:Cz (31*(0+(i:Int))) (0+(i:Int)):=.inr ⟨by omega,by omega⟩;refine⟨ns,_,rfl,c31,cm,?_⟩;refine⟨by show(oA M' r3).isSome=true;rw[lr];rfl,_,_,_,rfl,by decide,_,o,n,own,nm,rfl,kp.lst no fo,kp.lst nn fn,one,by omega,by omega,by omega,oG rfl,i' lr ⟨?_,?_⟩⟩
  .rw[cQ,cQ,eA];omega
  .refine VI _ _ ⟨kp.trans .put,?_,_,_,rfl⟩;rw[oS,cU,hi];show some (_++[wx (HV ns own nm i)])=_;rw[Bh];rfl
 .rintro δ M' ⟨kp,lr,x,y,rfl⟩
  rw[cQ,eA]at lr;exact⟨oG rfl,M',.refl,q r1 r2 r3 M' (λb c h=>kp b c (λz=>by rw[z,nr]at h;cases h) (k6 b c h)) (kp.lst n1 f1) (kp.lst n2 f2) lr⟩
theorem AM(x:Array Nat):∀(n:Nat) (acc:Array Nat),((List.replicate n x).foldl (·++·) acc).toList=acc.toList++(List.replicate n x.toList).flatten
 | 0,acc=>by simp
 | n+1,acc=>by rw[eB,fS,AM x n (acc++x),eB,fJ,iR,e9]
theorem E7(c:Nat):∀n:Nat,(List.replicate n [c]).flatten=List.replicate n c
 | 0=>rfl
 | n+1=>by rw[eB,fJ,E7 c n,eB];rfl
def CH(i n:Int):(ye (tD i) n).cps.toList=List.replicate n.toNat (97+i.toNat):=by show((List.replicate n.toNat (tD i).cps).foldl (·++·) #[]:Array Nat).toList=_;rw[AM];show[]++(List.replicate n.toNat [97+i.toNat]).flatten=_;rw[dS,E7]
def xD(s v:Int):(wH s v).cps.toList=List.replicate (tH s).toNat (97+(s / 36 % 26).toNat)++(97+((s / 936+v) % 26).toNat)::List.replicate (size s - 1 - tH s).toNat (97+(s / 36 % 26).toNat):=by show((ye (tD (s / 36 % 26)) (tH s)).cps++(tD ((s / 936+v) % 26)).cps++(ye (tD (s / 36 % 26)) (size s - 1 - tH s)).cps).toList=_;rw[iR,iR,CH,CH];show _++[97+((s / 936+v) % 26).toNat]++_=_;rw[e9];rfl
def Bx(s v:Int):1<=(wH s v).length/\(wH s v).length<=6:=by
 have e:(wH s v).length=(wH s v).cps.toList.length:=by simp[Str.length]
 rw[e,xD,cU,dW,iy,iy];have h1:=Fu s;have h2:=HY s;have h3:0<=tH s:=eM _ (by omega);have h4:tH s<size s:=eI _ h1;omega
def Kw{i:Int}(h0:0<=i)(h1:i<26):B' ⟨#[97+i.toNat]⟩ tK=true:=by
 obtain⟨n,rfl⟩:=dY h0;have hn:n<26:=by omega
 have key:∀n:_root_.Fin 26,B' ⟨#[97+n.val]⟩ tK=true:=by decide+kernel
 exact key ⟨n,hn⟩
def Dl(s v:Int):tQ (wH s v)=true:=by
 obtain⟨h1,h2⟩:=Bx s v;unfold tQ;rw[dO (show(1:Int)<=(wH s v).length by omega),dO (show((wH s v).length:Int)<=6 by omega),eD,eD,eY];intro c hc;rw[xD]at hc;have k1:=Kw (eM (s / 36) (show(26:Int)≠0 by decide)) (eI (s / 36) (by decide));have k2:=Kw (eM (s / 936+v) (show(26:Int)≠0 by decide)) (eI (s / 936+v) (by decide));rcases dR.mp hc with z|z
 .rw[jF z];exact k1
 .rcases cZ.mp z with z|z
  .rw[z];exact k2
  .rw[jF z];exact k1
def Bm{s u v:Int}(hu:0<=u)(hu':u<26)(hv:0<=v)(hv':v<26)(e:wH s u=wH s v):u=v:=by
 have e':(wH s u).cps.toList=(wH s v).cps.toList:=by rw[e]
 rw[xD,xD]at e';have:=(List.append_cancel_left e');have:=(gL this).1;have a1:=eM (s / 936+u) (show(26:Int)≠0 by decide);have a2:=eM (s / 936+v) (show(26:Int)≠0 by decide);have h:(s / 936+u) % 26=(s / 936+v) % 26:=by omega
 omega
def Ea{ss:List Str}{x:Str}(h:x∈ss):wY ss x:=gp.mpr ⟨x,h,by simp⟩
def Az{row:List Str}{i:Int}(h0:0<=i)(h1:i<row.length):BC row i∈row:=by
 obtain⟨n,rfl⟩:=dY h0;have hn:n<row.length:=by omega
 have:BC row (n:Int)=row[n]:=by simp[BC,hn]
 rw[this];exact hW hn
def Ii{row:List Str}{i j:Int}(nd:row.Nodup)(h0:0<=i)(h1:i<row.length)(g0:0<=j)(g1:j<row.length)(e:BC row i=BC row j):i=j:=by
 obtain⟨n,rfl⟩:=dY h0;obtain⟨k,rfl⟩:=dY g0;have hn:n<row.length:=by omega
 have hk:k<row.length:=by omega
 have e1:BC row (n:Int)=row[n]:=by simp[BC,hn]
 have e2:BC row (k:Int)=row[k]:=by simp[BC,hk]
 rw[e1,e2]at e;have pw:=jq.mp nd;rcases Nat.lt_trichotomy n k with z|z|z
 .exact absurd e (pw n k hn hk z)
 .rw[z]
 .exact absurd e.symm (pw k n hk hn z)
def zv{α:Type}(f:Nat->α)(n:Nat)(h:∀i j,i<n->j<n->f i=f j->i=j):((List.range n).map f).Nodup:=by refine jq.mpr λi j hi hj VL e=>?_;rw[cQ,eA]at hi hj;rw[lK,lK,kP,kP]at e;have:=h i j hi hj e;omega
def A0{row:List Str}{c m:Int}(hr:row≠[])(hm:0<m):1<=ww row c m/\(ww row c m:Int)<=m/\ww row c m<=row.length:=by
 have hl:0<row.length:=eX.mpr hr;have d0:=qB (c:=c) (f:=40692) (m:=if (row.length:Int)<m then(row.length:Int)else m) (by split<;>omega);have d1:=qu (c:=c) (f:=40692) (m:=if (row.length:Int)<m then(row.length:Int)else m) (by split<;>omega);unfold ww;by_cases h:(row.length:Int)<m
 .rw[cX h]at d0 d1 ⊢;omega
 .rw[cV h]at d0 d1 ⊢;omega
def Br{row:List Str}{c:Int}(hr:row≠[])(j:Nat):0<=(draw c 69621 row.length+(0+(j:Nat))) % (row.length:Int)/\(draw c 69621 row.length+(0+(j:Nat))) % (row.length:Int)<row.length:=by have hl:0<row.length:=eX.mpr hr;exact⟨eM _ (by omega),eI _ (by omega)⟩
def Ip{d n i j:Int}(hn:0<n)(hi:0<=i)(Xw:i<n)(hj:0<=j)(hj':j<n)(e:(d+i) % n=(d+j) % n):i=j:=by
 have h1:=j5 (d+i) n;have h2:=j5 (d+j) n;generalize (d+i) / n=a at h1;generalize (d+j) / n=b at h2;have h3:i - j=n*(a - b):=by rw[Int.mul_sub];omega
 rcases Int.lt_trichotomy (a - b) 0 with z|z|z
 .have:n*(a - b)<=n*(-1):=iP (by omega) (by omega);omega
 .rw[z]at h3;omega
 .have:n*1<=n*(a - b):=iP (by omega) (by omega);omega
def G5{row:List Str}{c m:Int}(nd:row.Nodup)(hr:row≠[])(hm:0<m):(vb row c m).Nodup:=by have hl:0<row.length:=eX.mpr hr;obtain⟨_,_,l3⟩:=A0 (c:=c) hr hm;refine zv _ _ λi j hi hj e=>?_;obtain⟨a0,a1⟩:=Br (c:=c) hr i;obtain⟨b0,b1⟩:=Br (c:=c) hr j;have e':=Ii nd a0 a1 b0 b1 e;have:=Ip (d:=draw c 69621 row.length) (n:=row.length) (i:=0+(i:Nat)) (j:=0+(j:Nat)) (by omega) (by omega) (by omega) (by omega) (by omega) e';omega
def xg{row:List Str}{c m k:Int}(nd:row.Nodup)(hr:row≠[])(hm:0<m)(hk:m<=k):rP (vb row c m) row k=true:=by
 obtain⟨l1,l2,l3⟩:=A0 (c:=c) hr hm;have el:(vb row c m).length=ww row c m:=by unfold vb;rw[cQ,eA]
 unfold rP;rw[el,dO (show(1:Int)<=ww row c m by omega),dO (show(ww row c m:Int)<=k by omega),xy (G5 nd hr hm),eD,eD,eD,eY];intro x hx;unfold vb at hx;obtain⟨j,_,rfl⟩:=dv.mp hx;obtain⟨a0,a1⟩:=Br (c:=c) hr j;exact Ea (Az a0 a1)
def AK{row:List Str}{c m:Int}(hr:row≠[])(hm:0<m)(h:m<=100):(vb row c m).length<4000:=by
 obtain⟨l1,l2,l3⟩:=A0 (c:=c) hr hm;have el:(vb row c m).length=ww row c m:=by unfold vb;rw[cQ,eA]
 omega
def OV{c:Int}{own all:List Str}(no:own.Nodup)(na:all.Nodup)(ho:own≠[])(ha:2<=all.length):Bw own all (vF c own all):=by
 have hl:(0:Int)<own.length:=by have:=eX.mpr ho;omega
 have ha0:all≠[]:=λz=>by rw[z]at ha;simp at ha
 have hx:=Ea (Az (qB (c:=c) (f:=16807) hl) (qu (c:=c) (f:=16807) hl));have p0:=qB (c:=c) (f:=39373) (m:=all.length) (by omega);have p1:=qu (c:=c) (f:=39373) (m:=all.length) (by omega);have e0:=qB (c:=c) (f:=742938285) (m:=(all.length:Int) - 1) (by omega);have e1:=qu (c:=c) (f:=742938285) (m:=(all.length:Int) - 1) (by omega);have z0:=eM (draw c 39373 all.length+1+draw c 742938285 ((all.length:Int) - 1)) (show(all.length:Int)≠0 by omega);have z1:=eI (draw c 39373 all.length+1+draw c 742938285 ((all.length:Int) - 1)) (show(0:Int)<all.length by omega);have hy:=Ea (Az p0 p1);have hzz:=Ea (Az z0 z1);have ne:BC all (draw c 39373 all.length)≠BC all ((draw c 39373 all.length+1+draw c 742938285 ((all.length:Int) - 1)) % all.length):=λz=>by
  have q:=Ii na p0 p1 z0 z1 z;have q2:(draw c 39373 all.length+0) % (all.length:Int)=(draw c 39373 all.length+(1+draw c 742938285 ((all.length:Int) - 1))) % (all.length:Int):=by rw[Int.add_zero,Int.emod_eq_of_lt p0 p1,<-Int.add_assoc];exact q
  have:=Ip (by omega) (by omega) (by omega) (by omega) (by omega) q2;omega
 have f0:=qB (c:=c) (f:=22695477) (m:=24) (by decide);have f1:=qu (c:=c) (f:=22695477) (m:=24) (by decide);have g0:=qB (c:=c) (f:=48271) (m:=23) (by decide);have g1:=qu (c:=c) (f:=48271) (m:=23) (by decide);have t0:=qB (c:=c) (f:=950706376) (m:=5) (by decide);have t1:=qu (c:=c) (f:=950706376) (m:=5) (by decide);unfold vF;simp only;split
 .exact⟨hx,AK ha0 (by decide) (by decide),xg na ha0 (by decide) (by decide)⟩
 .split
  .exact⟨hy,AK ho (by decide) (by decide),xg no ho (by decide) (by decide)⟩
  .split
   .exact⟨hy,hzz,ne⟩
   .split
    .refine⟨hy,hzz,ne,⟨f0,by omega⟩,⟨eM _ (by decide),?_⟩,?_⟩
     .have:=eI (draw c 22695477 24+1+draw c 48271 23) (show(0:Int)<24 by decide);omega
     .omega
    .split
     .exact⟨hy,hzz,ne⟩
     .split
      .refine⟨hy,hzz,ne,?_⟩;generalize draw c 950706376 5=d at t0 t1;have:d=0\/d=1\/d=2\/d=3\/d=4:=by omega
       rcases this with z|z|z|z|z<;>(subst z;decide)
      .split
       .exact hx
       .exact hx
def LJ(s:Int)(i:Nat):EW (vt s i):=by
 have t0:=qB (c:=s+17*(0+(i:Nat))*(0+(i:Nat))) (f:=16807) (m:=5) (by decide);have t1:=qu (c:=s+17*(0+(i:Nat))*(0+(i:Nat))) (f:=16807) (m:=5) (by decide);have u0:=qB (c:=s+17*(0+(i:Nat))*(0+(i:Nat))) (f:=39373) (m:=6) (by decide);have u1:=qu (c:=s+17*(0+(i:Nat))*(0+(i:Nat))) (f:=39373) (m:=6) (by decide);have a:1<=(vt s i).2.1/\(vt s i).2.1<=3:=by
  show 1<=E8 Ni (draw (s+17*(0+(i:Nat))*(0+(i:Nat))) 16807 5)/\E8 Ni (draw (s+17*(0+(i:Nat))*(0+(i:Nat))) 16807 5)<=3;generalize draw (s+17*(0+(i:Nat))*(0+(i:Nat))) 16807 5=d at t0 t1;have:d=0\/d=1\/d=2\/d=3\/d=4:=by omega
  rcases this with z|z|z|z|z<;>(subst z;decide)
 have b:0<=(vt s i).2.2/\(vt s i).2.2<=9:=by
  show 0<=E8 Nm (draw (s+17*(0+(i:Nat))*(0+(i:Nat))) 39373 6)/\E8 Nm (draw (s+17*(0+(i:Nat))*(0+(i:Nat))) 39373 6)<=9;generalize draw (s+17*(0+(i:Nat))*(0+(i:Nat))) 39373 6=d at u0 u1;have:d=0\/d=1\/d=2\/d=3\/d=4\/d=5:=by omega
  rcases this with z|z|z|z|z|z<;>(subst z;decide)
 exact⟨dU (Bx s (0+(i:Nat))).2 (by decide),Dl _ _,a.1,a.2,b.1,b.2⟩
def Km{s:Int}{own:List Str}(nd:own.Nodup)(hr:own≠[])(i:Nat):EU own (zw s own i):=by
 have t0:=qB (c:=s+5*(0+(i:Nat))) (f:=742938285) (m:=2) (by decide);have t1:=qu (c:=s+5*(0+(i:Nat))) (f:=742938285) (m:=2) (by decide);refine⟨dU (Bx s (8+(0+(i:Nat)))).2 (by decide),Dl _ _,?_,AK hr (by decide) (by decide),xg nd hr (by decide) (by decide)⟩;show BC Nx (draw (s+5*(0+(i:Nat))) 742938285 2)="all"\/BC Nx (draw (s+5*(0+(i:Nat))) 742938285 2)="turns";generalize draw (s+5*(0+(i:Nat))) 742938285 2=d at t0 t1;have:d=0\/d=1:=by omega
 rcases this with z|z
 .subst z;exact .inl rfl
 .subst z;exact .inr rfl
def Lq(s m:Int):(pZ s m).map (·.1)=(List.range (qY s m)).map λi=>wH s (0+(i:Nat)):=by unfold pZ;rw[dX];rfl
def FD{s m:Int}(h2:2<=m)(h8:m<=8):((pZ s m).map (·.1)).Nodup/\∀own,((pZ s m).map (·.1)++(qA s own).map (·.1)).Nodup:=by
 have d1:=qu (c:=s) (f:=48271) (m:=m - 1) (by omega);have d0:=qB (c:=s) (f:=48271) (m:=m - 1) (by omega);have p8:qY s m<=8:=by unfold qY;omega
 have g3:=vX (s:=s);have a:((pZ s m).map (·.1)).Nodup:=by rw[Lq];refine zv _ _ λi j hi hj e=>?_;have:=Bm (by omega) (by omega) (by omega) (by omega) e;omega
 refine⟨a,λown=>?_⟩;have ge:(qA s own).map (·.1)=(List.range (vc s)).map λi=>wH s (8+(0+(i:Nat))):=by unfold qA;rw[dX];rfl
 rw[fQ];refine⟨a,?_,λx hx y hy e=>?_⟩
 .rw[ge];refine zv _ _ λi j hi hj e=>?_;have:=Bm (by omega) (by omega) (by omega) (by omega) e;omega
 .rw[Lq]at hx;rw[ge]at hy;obtain⟨i,hi,rfl⟩:=dv.mp hx;obtain⟨j,hj,rfl⟩:=dv.mp hy;have hi:=gk.mp hi;have hj:=gk.mp hj;have:=Bm (by omega) (by omega) (by omega) (by omega) e;omega
def O2{ns:List Int}{m:Int}(h2:2<=m)(h8:m<=8):rg (uD ns m):=by
 obtain⟨n1,n2⟩:=FD (s:=cell ns 0) h2 h8;have pl:=wc (s:=cell ns 0) h2 (by omega);have p8:qY (cell ns 0) m<=8:=by have d1:=qu (c:=cell ns 0) (f:=48271) (m:=m - 1) (by omega);unfold qY;omega
 have lp:(pZ (cell ns 0) m).length=qY (cell ns 0) m:=by unfold pZ;rw[cQ,eA]
 have ol:((pZ (cell ns 0) m).map (·.1)).length=qY (cell ns 0) m:=by rw[cQ,lp]
 have one:(pZ (cell ns 0) m).map (·.1)≠[]:=λz=>by rw[z]at ol;have:0=qY (cell ns 0) m:=ol;omega
 have gl:(qA (cell ns 0) ((pZ (cell ns 0) m).map (·.1))).length=vc (cell ns 0):=by unfold qA;rw[cQ,eA]
 refine⟨?_,?_,λp hp=>?_,?_,λg hg=>?_,n2 _,?_,λv hv=>?_⟩
 .show 1<=(pZ (cell ns 0) m).length;omega
 .show(pZ (cell ns 0) m).length<=8;omega
 .obtain⟨i,_,rfl⟩:=dv.mp hp;exact LJ _ i
 .show(qA (cell ns 0) ((pZ (cell ns 0) m).map (·.1))).length<=3;rw[gl];exact vX
 .obtain⟨i,_,rfl⟩:=dv.mp hg;exact Km n1 one i
 .show((List.range (vT (cell ns 0))).map _).length<=16;rw[cQ,eA];have d1:=qu (c:=cell ns 0) (f:=950706376) (m:=11) (by decide);unfold vT;omega
 .obtain⟨i,hi,rfl⟩:=dv.mp hv;refine OV n1 (n2 _) one ?_;show 2<=((pZ (cell ns 0) m).map (·.1)++_).length;rw[cU,ol];omega
structure oQ where
 st:Str
 cr:Str
 way:List Str
 at_:List Str
 ms:List Str
 hd:Option Str
 si:Int
 wd:Option Str
structure rD where
 i:Nat
 f:Str
 g:Str
 y:Str
inductive Ev
 | new (n:Nat) (x:Str)
 | leg (v:rD)
 | asks (i:Nat) (z:Str) (ns:List Nat)
 | next (z:Str) (n:Int)
 | merge (i j:Nat) (ms:List Str)
 | turn
 | sw (b:Bool) (i:Nat)
 | rings (i:Nat) (ps:List Str)
 | quiet (i:Nat)
 | waits (i:Nat) (x:Str)
 | talks (i:Nat) (ms:List Str)
 | held (i:Nat) (x:Str)
 | leaves (i:Nat) (x:Str)
 | over (i:Nat) (w:Str)
structure qb where
 p:Addr
 h:Int
 t:Int
 calls:List oQ
 mI:List rD
 ps:List (Str×Int)
 on:List Bool
 log:List Ev
 fo:List Addr
noncomputable def wR(ns:List Nat):D:=.tup (ns.map λn=>D.int (n:Nat))
noncomputable def rD.d(v:rD):D:=.tup [.int (v.i:Nat),.str v.f,.str v.g,.str v.y]
noncomputable def RV(b:Bool):Str:=if b=true then "on" else "off"
noncomputable def Ev.d:Ev->D
 | .new n x=>.tup [.str "new",.int (n:Nat),.str x]
 | .leg v=>.tup [.str "leg",.int (v.i:Nat),.str v.f,.str v.g,.str v.y]
 | .asks i z ns=>.tup [.str "asks",.int (i:Nat),.str z,wR ns]
 | .next z n=>.tup [.str "next",.str z,.int n]
 | .merge i j ms=>.tup [.str "merge",.int (i:Nat),.int (j:Nat),names ms]
 | .turn=>.tup [.str "turn"]
 | .sw b i=>.tup [.str (RV b),.int (i:Nat)]
 | .rings i ps=>.tup [.str "rings",.int (i:Nat),names ps]
 | .quiet i=>.tup [.str "quiet",.int (i:Nat)]
 | .waits i x=>.tup [.str "waits",.int (i:Nat),.str x]
 | .talks i ms=>.tup [.str "talks",.int (i:Nat),names ms]
 | .held i x=>.tup [.str "held",.int (i:Nat),.str x]
 | .leaves i x=>.tup [.str "leaves",.int (i:Nat),.str x]
 | .over i w=>.tup [.str "over",.int (i:Nat),.str w]
noncomputable def hasS(ss:List Str)(x:Str):Bool:=ss.any (·==x)
noncomputable def rb(ss:List Str)(x:Str):List Str:=ss.filter λy=>!(y==x)
noncomputable def yt(x:Str):oQ:=⟨"rings",x,[],[],[],none,0,none⟩
noncomputable def oQ.over(c:oQ)(w:Str):oQ:={c with st:="over",wd:=some w,at_:=[],ms:=[],hd:=none}
noncomputable def oQ.drop(c:oQ)(x:Str):oQ:={c with at_:=rb c.at_ x,ms:=rb c.ms x}
noncomputable def oQ.ring(c:oQ)(ps:List Str):oQ:={c with st:="rings",at_:=ps,si:=0}
noncomputable def oQ.m9(c:oQ)(ms:List Str):oQ:={c with st:="talks",ms:=ms,at_:=[],hd:=none}
noncomputable def oQ.wait(c:oQ)(x:Str):oQ:={c with st:="waits",at_:=[x]}
noncomputable def oQ.hold(c:oQ)(x:Str):oQ:={c with st:="held",hd:=some x}
noncomputable def oQ.nq(c:oQ):oQ:={c with at_:=[]}
noncomputable def oQ.mem(c:oQ)(ms:List Str):oQ:={c with ms:=ms}
noncomputable def oQ.go(c:oQ)(g:Str):oQ:={c with way:=c.way++[g]}
noncomputable def oQ.tick(c:oQ):oQ:=if (c.st=="rings")=true then{c with si:=c.si+1}else c
noncomputable def rD.to(m k:Nat)(v:rD):rD:=if v.i=m then{v with i:=k}else v
noncomputable def Bq(ps:List (Str×Int))(z:Str)(n:Int):List (Str×Int):=if ps.any (λp=>decide (p.1=z))=true then ps.map (λp=>if p.1=z then(p.1,n)else p)else ps++[(z,n)]
noncomputable def wZ(V:qb)(i:Nat)(f:oQ->oQ):qb:={V with calls:=V.calls.modify i f}
noncomputable def qp(V:qb)(e:Ev):qb:={V with log:=V.log++[e]}
noncomputable def Sj(V:qb):Ev->qb
 | .new _ x=>{V with calls:=V.calls++[yt x]}
 | .leg v=>{V with mI:=V.mI++[v],calls:=V.calls.modify v.i (·.go v.g)}
 | .asks _ _ _=>V
 | .next z n=>{V with ps:=Bq V.ps z n}
 | .merge i j ms=>{V with calls:=(V.calls.modify i (·.over "merged")).modify j (·.mem ms),mI:=V.mI.map (rD.to i j)}
 | .turn=>{V with t:=V.t+1,calls:=V.calls.map oQ.tick}
 | .sw b i=>{V with on:=V.on.set i b}
 | .rings i ps=>wZ V i (·.ring ps)
 | .quiet i=>wZ V i oQ.nq
 | .waits i x=>wZ V i (·.wait x)
 | .talks i ms=>wZ V i (·.m9 ms)
 | .held i x=>wZ V i (·.hold x)
 | .leaves i x=>wZ V i (·.drop x)
 | .over i w=>wZ V i (·.over w)
noncomputable def pN(V:qb)(e:Ev):qb:=Sj (qp V e) e
noncomputable def qo(V:qb)(es:List Ev):qb:=es.foldl pN V
def Ev.ok(V:qb):Ev->Prop
 | .new _ _=>True
 | .leg v=>v.i<V.calls.length
 | .asks _ _ _=>True
 | .next _ _=>True
 | .merge i j ms=>i<V.calls.length/\j<V.calls.length/\i≠j/\ms.length<=100
 | .turn=>True
 | .sw _ i=>i<V.on.length
 | .rings i ps=>i<V.calls.length/\ps.length<=100
 | .quiet i=>i<V.calls.length
 | .waits i _=>i<V.calls.length
 | .talks i ms=>i<V.calls.length/\ms.length<=100
 | .held i _=>i<V.calls.length
 | .leaves i _=>i<V.calls.length
 | .over i _=>i<V.calls.length
def ra(V:qb)(es fs:List Ev):qo V (es++fs)=qo (qo V es) fs:=kY ..
theorem HN:∀(es:List Ev) (V:qb),(qo V es).log=V.log++es
 | [],V=>(eR _).symm
 | e::r,V=>by
  show(qo (pN V e) r).log=_;rw[HN r];have:(pN V e).log=V.log++[e]:=by cases e<;>rfl
  rw[this,e9];rfl
noncomputable def oQ.mG(c:oQ)(x:Str):Bool:=(c.st=="talks")&&hasS c.ms x
noncomputable def oQ.hasB(c:oQ)(x:Str):Bool:=if (c.st=="rings")=true then(x==c.cr)||hasS c.at_ x else if (c.st=="waits")=true then x==c.cr else(c.st=="talks"||c.st=="held")&&hasS c.ms x
noncomputable def oQ.mF(c:oQ)(x:Str):Bool:=if (c.st=="held")=true then hasS c.ms x&&!((c.hd==some x))else c.mG x
noncomputable def oQ.mB(c:oQ)(x:Str):Bool:=(c.st=="rings"||c.st=="waits")&&(x==c.cr)
noncomputable def oQ.mx(c:oQ)(x:Str):Bool:=(c.st=="waits")&&hasS c.at_ x
noncomputable def oQ.mW(c:oQ)(x:Str):Bool:=c.mB x||(hasS c.at_ x||hasS c.ms x)
noncomputable def oQ.mH(c:oQ)(x:Str):Bool:=c.mG x&&(c.ms.length==2)
noncomputable def ut(V:qb)(x:Str):Nat:=(V.calls.filter (·.hasB x)).length
noncomputable def ub(l:oW)(x:Str):Int:=(l.mL x).elim 0 λv=>v.2.1
noncomputable def uX(l:oW)(x:Str):Int:=(l.mL x).elim 0 λv=>v.2.2
noncomputable def sV(l:oW)(V:qb)(x:Str):Bool:=decide ((ut V x:Int)<ub l x)
noncomputable def tU(l:oW)(V:qb)(c z:Str):List Str:=(l.mj z).filter λx=>!(x==c)&&sV l V x
noncomputable def wQ(l:oW)(V:qb)(c z:Str):Bool:=(tU l V c z).isEmpty
noncomputable def va(V:qb)(x:Str):Option Nat:=V.calls.findIdx? (·.mG x)
noncomputable def Eo(V:qb)(x:Str):Option Nat:=V.calls.findIdx? (·.mF x)
noncomputable def Im(V:qb)(x:Str):Option Nat:=V.calls.findIdx? (·.mB x)
noncomputable def zI(V:qb)(x:Str):Bool:=V.calls.any (·.mx x)
noncomputable def OE:Option Nat->D
 | none=>.mz
 | some j=>.int (j:Nat)
noncomputable def EQ(f l h:Int):Bool:=if f<l then decide (f<=h)&&decide (h<l)else decide (h>=f)||decide (h<l)
noncomputable def GC(l:oW)(x:Str)(ms:List Str):Bool:=ms.all λm=>decide (uX l m<uX l x)
noncomputable def Gs(l:oW)(V:qb)(x c z:Str):Bool:=if (!(c==x)||(z==x))=true then false else if (!(hasS l.pn z)||!(wQ l V c z))=true then false else((va V z).bind (V.calls[·]?)).elim false λk=>(k.ms.length==2)&&GC l x k.ms
noncomputable def Ap(l:oW)(V:qb)(c z:Str):Wi->Bool
 | .bar x ns=>(c==x)&&hasS ns z
 | .shut x ns=>(z==x)&&hasS ns c
 | .always x _=>z==x
 | .night x _ f m=>(z==x)&&EQ f m ((V.h+V.t) % 24)
 | .busy x _=>(z==x)&&wQ l V c z
 | .silent _ _ _=>false
 | .wait x=>if (!(z==x)||(c==x))=true then false else wQ l V c z&&!(zI V z)
 | .breaks x=>Gs l V x c z
noncomputable def Gd(c:oQ):Wi->Bool
 | .silent x _ n=>(c.way.getLast?==some x)&&decide (n<=c.si)
 | _=>false
noncomputable def Gp(l:oW)(V:qb)(f:Wi->Bool):List Nat:=(List.range V.on.length).filter λi=>V.on.getD i false&&(l.mv[i]?).elim false λw=>f w.2
noncomputable def De(l:oW)(V:qb)(c z:Str):List Nat:=Gp l V (Ap l V c z)
noncomputable def uu(ms:List Str)(n:Nat):List Str:=ms.drop n++ms.take n
noncomputable def y0(V:qb)(z:Str):Nat:=((V.ps.find? λp=>decide (p.1=z)).elim 0 λp=>p.2).toNat
noncomputable def xo(l:oW)(V:qb)(c z:Str):List Str:=if (l.mD z=="turns")=true then((uu (l.mj z) (y0 V z)).filter λx=>hasS (tU l V c z) x).take 1 else tU l V c z
inductive vn
 | engaged (z:Str)
 | rings (z:Str) (ps:List Str)
 | waits (z:Str)
 | breaks (z:Str)
 | barred
 | ring (ns:List Str)
noncomputable def vn.d:vn->D
 | .engaged z=>.tup [.str "engaged",.str z]
 | .rings z ps=>.tup [.str "rings",.str z,names ps]
 | .waits z=>.tup [.str "waits",.str z]
 | .breaks z=>.tup [.str "breaks",.str z]
 | .barred=>.tup [.str "barred"]
 | .ring ns=>.tup [.str "ring",names ns]
noncomputable def He(l:oW)(V:qb)(c z:Str):vn:=match xo l V c z with
 | []=>.engaged z
 | x::r=>.rings z (x::r)
noncomputable def IH(z:Str):Wi->Sum vn Str
 | .bar _ _=>.inl .barred
 | .shut _ _=>.inl .barred
 | .always _ y=>.inr y
 | .night _ y _ _=>.inr y
 | .busy _ y=>.inr y
 | .silent _ y _=>.inr y
 | .wait _=>.inl (.waits z)
 | .breaks _=>.inl (.breaks z)
abbrev so:=List (Str×List Nat)
noncomputable def vW(l:oW)(V:qb)(c:Str):Nat->Str->List Str->so->vn×so
 | 0,_,_,st=>(.barred,st)
 | n+1,z,way,st=>if hasS way z=true then(.ring (way.drop (way.findIdx (·==z))),st)else
  match De l V c z with
  | []=>(He l V c z,st++[(z,[])])
  | i::r=>(l.mv[i]?).elim (.barred,st) λw=>match IH z w.2 with
   | .inl e=>(e,st++[(z,i::r)])
   | .inr y=>vW l V c n y (way++[z]) (st++[(z,i::r)])
noncomputable def ur(l:oW)(V:qb)(c z:Str)(way:List Str):vn×so:=vW l V c (l.nm.length+1) z way []
noncomputable def rf(i:Nat):Option Str->so->List Ev
 | _,[]=>[]
 | none,(z,fs)::r=>.asks i z fs::rf i (some z) r
 | some y,(z,fs)::r=>.leg ⟨i,y,z,y⟩::.asks i z fs::rf i (some z) r
noncomputable def Pu(ms:List Str)(x:Str):Int:=((ms.findIdx (·==x):Nat)+1) % (ms.length:Int)
noncomputable def sA(l:oW)(V:qb)(i:Nat):vn->List Ev
 | .rings z ps=>(if (l.mD z=="turns")=true then[.next z (Pu (l.mj z) (ps.headD Str.empty))]else[])++[.rings i ps]
 | .waits z=>[.waits i z]
 | .breaks z=>match va V z,V.calls[i]? with
  | some j,some c=>[.merge i j ((V.calls[j]?).elim [] (·.ms)++[c.cr])]
  | _,_=>[]
 | .engaged _=>[.over i "engaged"]
 | .barred=>[.over i "barred"]
 | .ring _=>[.over i "ring"]
noncomputable def sW(i:Nat)(st:so):vn->List Ev
 | .ring ns=>(st.getLast?).elim [] λs=>[.leg ⟨i,s.1,ns.headD Str.empty,s.1⟩]
 | _=>[]
noncomputable def wz(l:oW)(V:qb)(i:Nat):List Ev:=(V.calls[i]?).elim [] λc=>
 let r:=ur l V c.cr (c.way.getLastD Str.empty) c.way.dropLast
 rf i none r.2++(sW i r.2 r.1++sA l V i r.1)
noncomputable def D6(l:oW)(V:qb)(y z:Str):List Ev:=
 let es:=[Ev.new V.calls.length y,.leg ⟨V.calls.length,y,z,y⟩]
 es++wz l (qo V es) V.calls.length
noncomputable def vM(V:qb)(x:Str)(i:Nat):List Ev:=(V.calls[i]?).elim [] λc=>if c.mB x=true then[.over i "left"]else if hasS c.at_ x=true then .leaves i x::(if rb c.at_ x=[]then[.over i "refused"]else[])else if 2<c.ms.length then[.leaves i x]else[.over i "done"]
noncomputable def sX(l:oW)(V:qb)(i:Nat)(fs:List Nat):List Ev:=match fs.head?.bind (l.mv[·]?)with
 | some (_,.silent x y _)=>
  let es:=[Ev.asks i x fs,.quiet i,.leg ⟨i,x,y,x⟩]
  es++wz l (qo V es) i
 | _=>[]
noncomputable def yr(l:oW)(V:qb)(i:Nat):List Nat:=(V.calls[i]?).elim [] λc=>if (c.st=="rings")=true then Gp l V (Gd c)else[]
noncomputable def rA(l:oW):List Nat->qb->List Ev
 | [],_=>[]
 | i::r,V=>sX l V i (yr l V i)++rA l r (qo V (sX l V i (yr l V i)))
noncomputable def Ek(l:oW)(V:qb):List Ev:=.turn::rA l (List.range V.calls.length) (pN V .turn)
inductive tG
 | call (y z:Str)
 | num (w x:Str) (ns:List Int)
 | turn
 | sw (b:Bool) (i:Int)
noncomputable def tG.d:tG->D
 | .call y z=>.tup [.str "call",.str y,.str z]
 | .num w x ns=>.tup (.str w::.str x::ns.map D.int)
 | .turn=>.tup [.str "turn"]
 | .sw b i=>.tup [.str (RV b),.int i]
def tG.mX:tG->Prop
 | .num w _ ns=>((w="answer"\/w="hang"\/w="hold"\/w="back")/\ns.length=1)\/((w="hand"\/w="join")/\ns.length=2)
 | _=>True
noncomputable def tZ(V:qb)(x:Str):Option Str:=if (Eo V x).isSome=true then some "bound" else if (Im V x).isSome=true then some "calls" else none
noncomputable def yS(n:Nat)(i:Int):Bool:=decide (0<=i)&&decide (i<(n:Int))
noncomputable def IA(w x:Str):List oQ->Bool
 | []=>false
 | c::r=>if (w=="answer")=true then hasS c.at_ x else if (w=="hang")=true then c.mW x else if (w=="hold")=true then c.mH x else if (w=="back")=true then c.hd==some x else(c.hd==some x)&&(r.head?.elim false λd=>d.mH x)
noncomputable def sJ(V:qb)(ns:List Int):List oQ:=ns.filterMap λi=>V.calls[i.toNat]?
noncomputable def F'(l:oW)(V:qb)(y z:Str):Option Str:=if hasS l.nm z=false then some "name" else if ((tZ V y).isNone&&!(sV l V y))=true then some "full" else tZ V y
noncomputable def Lf(l:oW)(V:qb)(w x:Str)(ns:List Int):Option Str:=if ns.all (yS V.calls.length)=false then some "call" else if IA w x (sJ V ns)=false then some "call" else if (w=="answer"||w=="back")=false then none else
 if ((tZ V x).isNone&&((sJ V ns).head?.elim false (λc=>c.mx x)&&!(sV l V x)))=true then some "full" else tZ V x
noncomputable def NC(V:qb)(b:Bool)(i:Int):Option Str:=if yS V.on.length i=false then some "wish" else if (V.on.getD i.toNat false==b)=true then some "wish" else none
noncomputable def xl(l:oW)(V:qb):tG->Option Str
 | .turn=>none
 | .sw b i=>NC V b i
 | .call y z=>if hasS l.pn y=false then some "name" else F' l V y z
 | .num w x ns=>if hasS l.pn x=false then some "name" else Lf l V w x ns
noncomputable def qa(c:oQ)(x:Str):Str:=(rb c.ms x).headD Str.empty
noncomputable def DC(V:qb)(w x:Str)(i:Nat):Ev:=(V.calls[i]?).elim .turn λc=>if (w=="answer")=true then .talks i [c.cr,x]else if (w=="hold")=true then .held i x else .talks i c.ms
noncomputable def Ft(V:qb)(w x:Str)(i j:Nat):Ev:=(V.calls[i]?).elim .turn λc=>(V.calls[j]?).elim .turn λd=>.merge i j (if (w=="hand")=true then[qa c x,qa d x]else[x,qa c x,qa d x])
noncomputable def wM(l:oW)(V:qb):tG->List Ev
 | .call y z=>D6 l V y z
 | .num w x [i]=>if (w=="hang")=true then vM V x i.toNat else[DC V w x i.toNat]
 | .num w x [i,j]=>[Ft V w x i.toNat j.toNat]
 | .num _ _ _=>[]
 | .turn=>Ek l V
 | .sw b i=>[.sw b i.toNat]
structure qQ where
 p:Addr
 wy:Addr
structure sQ where
 b:Addr
 ca:Addr
 le:Addr
 nx:Addr
 on:Addr
 lo:Addr
 cs:List qQ
noncomputable def FJ:Option Str->D
 | none=>.mz
 | some x=>.str x
noncomputable def qL(c:oQ)(wy ad md:Addr):List (Str×D):=[("state",.str c.st),("caller",.str c.cr),("way",.ref wy),("at",.ref ad),("members",.ref md),("holder",FJ c.hd),("since",.int c.si),("word",FJ c.wd)]
noncomputable def sN(p:D)(h t:Int)(ca le nx on lo:Addr):List (Str×D):=[("plan",p),("hour",.int h),("turn",.int t),("calls",.ref ca),("legs",.ref le),("nexts",.ref nx),("on",.ref on),("log",.ref lo)]
noncomputable def sy(ps:List (Str×Int)):List (qE×D):=ps.map λp=>((Sum.inr p.1:qE),D.int p.2)
noncomputable def sQ.lists(A:sQ):List Addr:=A.ca::A.le::A.on::A.lo::A.cs.map (·.wy)
noncomputable def sQ.foot(A:sQ):List Addr:=A.b::A.nx::(A.lists++A.cs.map (·.p))
def rh(a:Ad)(M:Mp)(L:List Addr)(k:qQ)(c:oQ):Prop:=Ay λad md=>M k.p=some (.ins a.e (qL c k.wy ad md))/\oA M k.wy=some (c.way.map D.str)/\oA M ad=some (c.at_.map D.str)/\oA M md=some (c.ms.map D.str)/\ad∉L/\md∉L
structure pb(a:Ad)(M:Mp)(A:sQ)(V:qb):Prop where
 at_:M A.b=some (.ins a.c (sN (.ref V.p) V.h V.t A.ca A.le A.nx A.on A.lo))
 ca:oA M A.ca=some (A.cs.map λk=>D.ref k.p)
 le:oA M A.le=some (V.mI.map rD.d)
 nx:zc M A.nx=some (sy V.ps)
 on:oA M A.on=some (V.on.map D.bl)
 lo:oA M A.lo=some (V.log.map Ev.d)
 len:A.cs.length=V.calls.length
 cs:∀(i:Nat) k c,A.cs[i]?=some k->V.calls[i]?=some c->rh a M (A.lists++V.fo) k c
 nl:A.lists.Nodup
 np:(A.b::A.cs.map (·.p)).Nodup
 fo:∀x∈V.fo,∃c,M x=some c
def vQ{F:List Addr}{M:Mp}{p:Addr}{c:uA}(h:∀x∈F,∃c,M x=some c):∀x∈F,∃d,oU M p c x=some d:=λx hx=>by
 by_cases z:x=p
 .exact⟨c,by rw[z];exact pA⟩
 .obtain⟨d,e⟩:=h x hx;exact⟨d,rM.put x d z e⟩
def rh.sub{a:Ad}{M M':Mp}{L:List Addr}{k:qQ}{c:oQ}(h:rh a M L k c)(s:pY M M'):rh a M' L k c:=by obtain⟨ad,md,h1,h2,h3,h4,h5⟩:=h;exact⟨ad,md,s _ _ h1,s.lst h2,s.lst h3,s.lst h4,h5⟩
def pb.sub{a:Ad}{M M':Mp}{A:sQ}{V:qb}(h:pb a M A V)(s:pY M M'):pb a M' A V:=⟨s _ _ h.at_,s.lst h.ca,s.lst h.le,s.dk h.nx,s.lst h.on,s.lst h.lo,h.len,λi k c e1 e2=>(h.cs i k c e1 e2).sub s,h.nl,h.np,λx hx=>(h.fo x hx).imp λc e=>s x c e⟩
def rh.nE{a:Ad}{M M':Mp}{L:List Addr}{k:qQ}{c:oQ}{x:Addr}{ds:List D}(h:rh a M L k c)(kp:rM x M M')(hl:oA M x=some ds)(hx:x∈L)(hn:k.wy≠x):rh a M' L k c:=by obtain⟨ad,md,h1,h2,h3,h4,h5,h6⟩:=h;exact⟨ad,md,kp _ _ (λz=>by rw[z,pS hl]at h1;cases h1) h1,kp.lst hn h2,kp.lst (λz=>h5 (z ▸ hx)) h3,kp.lst (λz=>h6 (z ▸ hx)) h4,h5,h6⟩
def rh.nI{a:Ad}{M M':Mp}{L:List Addr}{k:qQ}{c:oQ}{x C:Addr}{fs:List (Str×D)}(h:rh a M L k c)(kp:rM x M M')(hi:M x=some (.ins C fs))(hn:k.p≠x):rh a M' L k c:=by obtain⟨ad,md,h1,h2,h3,h4,h5⟩:=h;exact⟨ad,md,kp _ _ hn h1,kp.lst (pD h2 hi) h2,kp.lst (pD h3 hi) h3,kp.lst (pD h4 hi) h4,h5⟩
def uj{M:Mp}{a p:Addr}{ds:List (qE×D)}{es:List D}(h:zc M a=some ds)(hp:oA M p=some es):a≠p:=λz=>by subst z;unfold zc at h;rw[pS hp]at h;cases h
def rh.oo{a:Ad}{M M':Mp}{L:List Addr}{k:qQ}{c:oQ}{x:Addr}{ds:List (qE×D)}(h:rh a M L k c)(kp:rM x M M')(hd:zc M x=some ds):rh a M' L k c:=by obtain⟨ad,md,h1,h2,h3,h4,h5⟩:=h;exact⟨ad,md,kp _ _ (λz=>by rw[z,yW hd]at h1;cases h1) h1,kp.lst (dG (uj hd h2)) h2,kp.lst (dG (uj hd h3)) h3,kp.lst (dG (uj hd h4)) h4,h5⟩
def qC{α:Type}{l:List α}{i:Nat}{x:α}(h:l[i]?=some x):x∈l:=fO h
def pb.ne{a:Ad}{M:Mp}{A:sQ}{V:qb}(h:pb a M A V):A.ca≠A.le/\A.ca≠A.on/\A.ca≠A.lo/\A.le≠A.on/\A.le≠A.lo/\A.on≠A.lo/\∀k∈A.cs,k.wy≠A.ca/\k.wy≠A.le/\k.wy≠A.on/\k.wy≠A.lo:=by
 have n:=h.nl;unfold sQ.lists at n;obtain⟨n1,n⟩:=dJ.mp n;obtain⟨n2,n⟩:=dJ.mp n;obtain⟨n3,n⟩:=dJ.mp n;obtain⟨n4,n⟩:=dJ.mp n;have w:∀k∈A.cs,k.wy∈A.cs.map (·.wy):=λk hk=>dv.mpr ⟨k,hk,rfl⟩;refine⟨λz=>n1 (z ▸ by simp),λz=>n1 (z ▸ by simp),λz=>n1 (z ▸ by simp),λz=>n2 (z ▸ by simp),λz=>n2 (z ▸ by simp),λz=>n3 (z ▸ by simp),λk hk=>⟨λz=>n1 ?_,λz=>n2 ?_,λz=>n3 ?_,λz=>n4 ?_⟩⟩
 .rw[<-z];exact dA _ (dA _ (dA _ (w k hk)))
 .rw[<-z];exact dA _ (dA _ (w k hk))
 .rw[<-z];exact dA _ (w k hk)
 .rw[<-z];exact w k hk
def pb.nS{a:Ad}{M:Mp}{A:sQ}{V:qb}(_:pb a M A V):A.ca∈A.lists/\A.le∈A.lists/\A.lo∈A.lists/\(∀k∈A.cs,k.wy∈A.lists)/\A.on∈A.lists:=by unfold sQ.lists;refine⟨by simp,by simp,by simp,?_,by simp⟩;exact λk hk=>by simp;exact .inr (.inr (.inr (.inr ⟨k,hk,rfl⟩)))
def pb.oi{a:Ad}{M:Mp}{A:sQ}{V:qb}(h:pb a M A V):A.ca∈A.lists++V.fo/\A.le∈A.lists++V.fo/\A.lo∈A.lists++V.fo/\(∀k∈A.cs,k.wy∈A.lists++V.fo)/\A.on∈A.lists++V.fo:=by obtain⟨h1,h2,h3,h4,h5⟩:=h.nS;exact⟨fm _ h1,fm _ h2,fm _ h3,λk hk=>fm _ (h4 k hk),fm _ h5⟩
def qz(A:sQ)(M:Mp)(A':sQ)(M':Mp):Prop:=(∀x c,x∉A.foot->M x=some c->M' x=some c)/\(∀x∈A'.foot,x∈A.foot\/M x=none)/\(∀(i:Nat) k,A.cs[i]?=some k->A'.cs[i]?=some k)/\∀x c,M x=some c->∃d,M' x=some d
def Ei{M:Mp}{p y:Addr}{c d:uA}(h:M y=some d):∃e,oU M p c y=some e:=by
 by_cases z:y=p
 .exact⟨c,by rw[z];exact pA⟩
 .exact⟨d,rM.put y d z h⟩
def qz.refl{A:sQ}{M:Mp}:qz A M A M:=⟨λ_ _ _ h=>h,λ_ h=>.inl h,λ_ _ h=>h,λ_ c h=>⟨c,h⟩⟩
def qz.trans{A A1 A2:sQ}{M M1 M2:Mp}(s:qz A M A1 M1)(u:qz A1 M1 A2 M2):qz A M A2 M2:=by
 refine⟨λx c n h=>u.1 x c (λz=>?_) (s.1 x c n h),λx hx=>?_,λi k h=>u.2.2.1 i k (s.2.2.1 i k h),λx c h=>(s.2.2.2 x c h).elim λd e=>u.2.2.2 x d e⟩
 .rcases s.2.1 x z with y|y
  .exact n y
  .rw[y]at h;cases h
 .rcases u.2.1 x hx with z|z
  .exact s.2.1 x z
  .by_cases y:x∈A.foot
   .exact .inl y
   .refine .inr ?_;cases e:M x with
    | none=>rfl
    | some c=>rw[s.1 x c y e]at z;cases z
def qz.keep{A:sQ}{M:Mp}{x:Addr}{c:uA}(h:x∈A.foot)(k:rM x M (oU M x c)):qz A M A (oU M x c):=⟨λy c n e=>k y c (λz=>n (z ▸ h)) e,λ_ h=>.inl h,λ_ _ h=>h,λ_ _ h=>Ei h⟩
def qz.sub{A:sQ}{M M':Mp}(s:pY M M'):qz A M A M':=⟨λy c _ e=>s y c e,λ_ h=>.inl h,λ_ _ h=>h,λx c h=>⟨c,s x c h⟩⟩
def sQ.mJ(A:sQ):A.b∈A.foot/\A.nx∈A.foot/\A.ca∈A.foot/\A.le∈A.foot/\A.lo∈A.foot/\(∀k∈A.cs,k.p∈A.foot)/\∀k∈A.cs,k.wy∈A.foot:=by unfold sQ.foot sQ.lists;exact⟨by simp,by simp,by simp,by simp,by simp,λk hk=>by simp;exact .inr (.inr (.inr (.inr (.inr (.inr (.inr ⟨k,hk,rfl⟩)))))),λk hk=>by simp;exact .inr (.inr (.inr (.inr (.inr (.inr (.inl ⟨k,hk,rfl⟩))))))⟩
def sQ.nC(A:sQ){x:Addr}(h:x∈A.lists):x∈A.foot:=by unfold sQ.foot;exact dA _ (dA _ (dR.mpr (.inl h)))
variable {M M1:Mp}{A:sQ}{V:qb}
def Et{α:Type}{l:List α}{i j:Nat}{x y:α}(h:(l.set i x)[j]?=some y):(j=i/\y=x/\i<l.length)\/(j≠i/\l[j]?=some y):=by
 by_cases z:j=i
 .subst z;by_cases hl:j<l.length
  .rw[eF hl]at h;exact .inl ⟨rfl,(de h).symm,hl⟩
  .rw[gx (by rw[ia];omega)]at h;cases h
 .rw[eK (dG z)]at h;exact .inr ⟨z,h⟩
def Gk{α β:Type}{f:α->β}{l:List α}{i j:Nat}{x y:α}(nd:(l.map f).Nodup)(h1:l[i]?=some x)(h2:l[j]?=some y)(e:f x=f y):i=j:=by
 have e1:(l.map f)[i]?=some (f x):=by rw[dw,h1];rfl
 have e2:(l.map f)[j]?=some (f y):=by rw[dw,h2];rfl
 obtain⟨l1,q1⟩:=cT.mp e1;obtain⟨l2,q2⟩:=cT.mp e2;exact(lu nd).mp (q1.trans (e.trans q2.symm))
def pb.nw(h:pb a M A V):(A.cs.map (·.wy)).Nodup:=(dJ.mp (dJ.mp (dJ.mp (dJ.mp h.nl).2).2).2).2
def pb.oq(h:pb a M A V):(A.cs.map (·.p)).Nodup/\∀k∈A.cs,k.p≠A.b:=⟨(dJ.mp h.np).2,λk hk z=>(dJ.mp h.np).1 (z ▸ dv.mpr ⟨k,hk,rfl⟩)⟩
def pb.nW(h:pb a M A V){es:List Ev}:pb a (oU M A.lo (.lst (es.map Ev.d))) A {V with log:=es}/\qz A M A (oU M A.lo (.lst (es.map Ev.d))):=by have kp:rM A.lo M (oU M A.lo (.lst (es.map Ev.d))):=.put;obtain⟨n1,n2,n3,n4,n5,n6,nw⟩:=h.ne;exact⟨⟨kp _ _ (dG (pD h.lo h.at_)) h.at_,kp.lst n3 h.ca,kp.lst n5 h.le,kp.dk (uj h.nx h.lo) h.nx,kp.lst n6 h.on,oS,h.len,λi k c e1 e2=>(h.cs i k c e1 e2).nE kp h.lo h.oi.2.2.1 (nw k (qC e1)).2.2.2,h.nl,h.np,vQ h.fo⟩,.keep A.mJ.2.2.2.2.1 kp⟩
def pb.nV(h:pb a M A V){es:List rD}:pb a (oU M A.le (.lst (es.map rD.d))) A {V with mI:=es}/\qz A M A (oU M A.le (.lst (es.map rD.d))):=by have kp:rM A.le M (oU M A.le (.lst (es.map rD.d))):=.put;obtain⟨n1,n2,n3,n4,n5,n6,nw⟩:=h.ne;exact⟨⟨kp _ _ (dG (pD h.le h.at_)) h.at_,kp.lst n1 h.ca,oS,kp.dk (uj h.nx h.le) h.nx,kp.lst (dG n4) h.on,kp.lst (dG n5) h.lo,h.len,λi k c e1 e2=>(h.cs i k c e1 e2).nE kp h.le h.oi.2.1 (nw k (qC e1)).2.1,h.nl,h.np,vQ h.fo⟩,.keep A.mJ.2.2.2.1 kp⟩
def pb.oz(h:pb a M A V){bs:List Bool}:pb a (oU M A.on (.lst (bs.map D.bl))) A {V with on:=bs}/\qz A M A (oU M A.on (.lst (bs.map D.bl))):=by have kp:rM A.on M (oU M A.on (.lst (bs.map D.bl))):=.put;obtain⟨n1,n2,n3,n4,n5,n6,nw⟩:=h.ne;exact⟨⟨kp _ _ (dG (pD h.on h.at_)) h.at_,kp.lst n2 h.ca,kp.lst n4 h.le,kp.dk (uj h.nx h.on) h.nx,oS,kp.lst (dG n6) h.lo,h.len,λi k c e1 e2=>(h.cs i k c e1 e2).nE kp h.on h.oi.2.2.2.2 (nw k (qC e1)).2.2.1,h.nl,h.np,vQ h.fo⟩,.keep (A.nC h.nS.2.2.2.2) kp⟩
def pb.oB(h:pb a M A V){ps:List (Str×Int)}:pb a (oU M A.nx (.dk (sy ps))) A {V with ps:=ps}/\qz A M A (oU M A.nx (.dk (sy ps))):=by have kp:rM A.nx M (oU M A.nx (.dk (sy ps))):=.put;exact⟨⟨kp _ _ (dG (BB h.nx h.at_)) h.at_,kp.lst (dG (uj h.nx h.ca)) h.ca,kp.lst (dG (uj h.nx h.le)) h.le,CZ pA,kp.lst (dG (uj h.nx h.on)) h.on,kp.lst (dG (uj h.nx h.lo)) h.lo,h.len,λi k c e1 e2=>(h.cs i k c e1 e2).oo kp h.nx,h.nl,h.np,vQ h.fo⟩,.keep A.mJ.2.1 kp⟩
def pb.putT(h:pb a M A V){t:Int}:pb a (oU M A.b (.ins a.c (sN (.ref V.p) V.h t A.ca A.le A.nx A.on A.lo))) A {V with t:=t}/\qz A M A (oU M A.b (.ins a.c (sN (.ref V.p) V.h t A.ca A.le A.nx A.on A.lo))):=by have kp:rM A.b M (oU M A.b (.ins a.c (sN (.ref V.p) V.h t A.ca A.le A.nx A.on A.lo))):=.put;exact⟨⟨pA,kp.lst (pD h.ca h.at_) h.ca,kp.lst (pD h.le h.at_) h.le,kp.dk (BB h.nx h.at_) h.nx,kp.lst (pD h.on h.at_) h.on,kp.lst (pD h.lo h.at_) h.lo,h.len,λi k c e1 e2=>(h.cs i k c e1 e2).nI kp h.at_ (h.oq.2 k (qC e1)),h.nl,h.np,vQ h.fo⟩,.keep A.mJ.1 kp⟩
def pb.nO(h:pb a M A V){i:Nat}{k:qQ}{c c':oQ}{ad md:Addr}(e1:A.cs[i]?=some k)(e2:V.calls[i]?=some c)(ew:c'.way=c.way)(la:oA M ad=some (c'.at_.map D.str))(lm:oA M md=some (c'.ms.map D.str))(na:ad∉A.lists++V.fo)(nm:md∉A.lists++V.fo):
  pb a (oU M k.p (.ins a.e (qL c' k.wy ad md))) A {V with calls:=V.calls.set i c'}/\qz A M A (oU M k.p (.ins a.e (qL c' k.wy ad md))):=by
 have kp:rM k.p M (oU M k.p (.ins a.e (qL c' k.wy ad md))):=.put;obtain⟨_,_,h1,h2,_⟩:=h.cs i k c e1 e2;refine⟨⟨kp _ _ (dG (h.oq.2 k (qC e1))) h.at_,kp.lst (pD h.ca h1) h.ca,kp.lst (pD h.le h1) h.le,kp.dk (BB h.nx h1) h.nx,kp.lst (pD h.on h1) h.on,kp.lst (pD h.lo h1) h.lo,by rw[h.len,ia],λj k' d f1 f2=>?_,h.nl,h.np,vQ h.fo⟩,.keep (A.mJ.2.2.2.2.2.1 k (qC e1)) kp⟩;rcases Et f2 with⟨rfl,rfl,_⟩|⟨hj,f2⟩
 .rw[e1]at f1;cases f1;exact⟨ad,md,pA,by rw[ew];exact kp.lst (pD h2 h1) h2,kp.lst (pD la h1) la,kp.lst (pD lm h1) lm,na,nm⟩
 .exact(h.cs j k' d f1 f2).nI kp h1 λz=>hj (Gk h.oq.1 f1 e1 z)
def pb.n9(h:pb a M A V){i:Nat}{k:qQ}{c:oQ}{ws:List Str}(e1:A.cs[i]?=some k)(e2:V.calls[i]?=some c):
  pb a (oU M k.wy (.lst (ws.map D.str))) A {V with calls:=V.calls.set i {c with way:=ws}}/\qz A M A (oU M k.wy (.lst (ws.map D.str))):=by
 have kp:rM k.wy M (oU M k.wy (.lst (ws.map D.str))):=.put;obtain⟨ad,md,h1,h2,h3,h4,h5,h6⟩:=h.cs i k c e1 e2;obtain⟨n1,n2,n3,n4,n5,n6,nw⟩:=h.ne;obtain⟨w1,w2,w3,w4⟩:=nw k (qC e1);have kL:=h.oi.2.2.2.1 k (qC e1);refine⟨⟨kp _ _ (dG (pD h2 h.at_)) h.at_,kp.lst (dG w1) h.ca,kp.lst (dG w2) h.le,kp.dk (uj h.nx h2) h.nx,kp.lst (dG w3) h.on,kp.lst (dG w4) h.lo,by rw[h.len,ia],λj k' d f1 f2=>?_,h.nl,h.np,vQ h.fo⟩,.keep (A.mJ.2.2.2.2.2.2 k (qC e1)) kp⟩;rcases Et f2 with⟨rfl,rfl,_⟩|⟨hj,f2⟩
 .rw[e1]at f1;cases f1;exact⟨ad,md,kp _ _ (dG (pD h2 h1)) h1,oS,kp.lst (λz=>h5 (z ▸ kL)) h3,kp.lst (λz=>h6 (z ▸ kL)) h4,h5,h6⟩
 .exact(h.cs j k' d f1 f2).nE kp h2 kL λz=>hj (Gk h.nw f1 e1 z)
noncomputable def sQ.add(A:sQ)(k:qQ):sQ:={A with cs:=A.cs++[k]}
def zo(A:sQ)(k:qQ):(A.add k).lists=A.lists++[k.wy]:=by unfold sQ.add sQ.lists;rw[dM];rfl
def pb.dom(h:pb a M A V):(∀x∈A.lists,∃ds,oA M x=some ds)/\∀x∈A.foot,∃c,M x=some c:=by
 have hc:∀k∈A.cs,(∃ds,oA M k.wy=some ds)/\∃c,M k.p=some c:=λk hk=>by
  obtain⟨i,hi,e⟩:=fM hk;have e1:A.cs[i]?=some k:=by rw[cS hi,e]
  have WM:i<V.calls.length:=by rw[<-h.len];exact hi
  have e2:V.calls[i]?=some V.calls[i]:=cS WM;obtain⟨ad,md,h1,h2,_⟩:=h.cs i k _ e1 e2;exact⟨⟨_,h2⟩,_,h1⟩
 have hl:∀x∈A.lists,∃ds,oA M x=some ds:=λx hx=>by
  unfold sQ.lists at hx;simp only[cZ,dv]at hx;rcases hx with rfl|rfl|rfl|rfl|⟨k,hk,rfl⟩
  .exact⟨_,h.ca⟩
  .exact⟨_,h.le⟩
  .exact⟨_,h.on⟩
  .exact⟨_,h.lo⟩
  .exact(hc k hk).1
 refine⟨hl,λx hx=>?_⟩;unfold sQ.foot at hx;simp only[cZ,dR,dv]at hx;rcases hx with rfl|rfl|hx|⟨k,hk,rfl⟩
 .exact⟨_,h.at_⟩
 .exact⟨_,yW h.nx⟩
 .obtain⟨ds,e⟩:=hl x hx;exact⟨_,pS e⟩
 .exact(hc k hk).2
def pb.nK(h:pb a M A V){x:Addr}(hx:M x=none):x∉A.lists:=λz=>by obtain⟨ds,e⟩:=h.dom.1 x z;have:=pS e;rw[hx]at this;cases this
def pb.mT(h:pb a M A V){x:Addr}(hx:M x=none):x∉A.lists++V.fo:=λz=>by
 rcases dR.mp z with z|z
 .exact h.nK hx z
 .obtain⟨c,e⟩:=h.fo x z;rw[hx]at e;cases e
def pb.nz(h:pb a M A V){x:Addr}(hx:M x=none):x∉A.foot:=λz=>by obtain⟨ds,e⟩:=h.dom.2 x z;rw[hx]at e;cases e
def pb.nM(h:pb a M A V)(s:pY M M1){p wy ad md:Addr}{c:oQ}(hp:M p=none)(hw:M wy=none)(ha:M ad=none)(hm:M md=none)(h1:M1 p=some (.ins a.e (qL c wy ad md)))(h2:oA M1 wy=some (c.way.map D.str))(h3:oA M1 ad=some (c.at_.map D.str))(h4:oA M1 md=some (c.ms.map D.str))(n1:ad≠wy)(n2:md≠wy):
  pb a (oU M1 A.ca (.lst ((A.cs.map λk=>D.ref k.p)++[.ref p]))) (A.add ⟨p,wy⟩) {V with calls:=V.calls++[c]}/\qz A M (A.add ⟨p,wy⟩) (oU M1 A.ca (.lst ((A.cs.map λk=>D.ref k.p)++[.ref p]))):=by
 have h':=h.sub s;have kp:rM A.ca M1 (oU M1 A.ca (.lst ((A.cs.map λk=>D.ref k.p)++[.ref p]))):=.put;obtain⟨m1,m2,m3,m4,m5,m6,nw⟩:=h.ne;have wL:wy∉A.lists:=h.nK hw;have cL:=h.oi.1;have nl':∀x,x∉A.lists++V.fo->x≠wy->x∉(A.add ⟨p,wy⟩).lists++V.fo:=λx h1 h2=>by
  rw[zo,dR,dR,dg]
  rintro ((z|z)|z)
  .exact h1 (fm _ z)
  .exact h2 z
  .exact h1 (eh _ z)
 have Wk:∀x c,M x=some c->x≠wy:=λx c e z=>by rw[z,hw]at e;cases e
 refine⟨⟨kp _ _ (dG (pD h'.ca h'.at_)) h'.at_,?_,kp.lst (dG m1) h'.le,kp.dk (uj h'.nx h'.ca) h'.nx,kp.lst (dG m2) h'.on,kp.lst (dG m3) h'.lo,?_,λi k d e1 e2=>?_,?_,?_,vQ h'.fo⟩,λx d n e=>kp x d (λz=>n (z ▸ A.mJ.2.2.1)) (s x d e),λx hx=>?_,λi k e=>by show(A.cs++[(⟨p,wy⟩:qQ)])[i]?=some k;rw[eS (cT.mp e).1];exact e,λx d e=>Ei (s x d e)⟩
 .show oA _ A.ca=some ((A.cs++[(⟨p,wy⟩:qQ)]).map λk=>D.ref k.p);rw[dM];exact oS
 .show(A.cs++[(⟨p,wy⟩:qQ)]).length=(V.calls++[c]).length;rw[cU,cU,h.len];rfl
 .have e1:(A.cs++[(⟨p,wy⟩:qQ)])[i]?=some k:=e1;have e2:(V.calls++[c])[i]?=some d:=e2;by_cases hi:i<A.cs.length
  .rw[eS hi]at e1;rw[eS (by rw[<-h.len];exact hi)]at e2;obtain⟨ad',md',g1,g2,g3,g4,g5,g6⟩:=(h.cs i k d e1 e2);refine⟨ad',md',kp _ _ (λz=>by have:=s _ _ g1;rw[z,pS h'.ca]at this;cases this) (s _ _ g1),kp.lst (nw k (qC e1)).1 (s.lst g2),kp.lst (λz=>g5 (z ▸ cL)) (s.lst g3),kp.lst (λz=>g6 (z ▸ cL)) (s.lst g4),nl' _ g5 (Wk _ _ (pS g3)),nl' _ g6 (Wk _ _ (pS g4))⟩
  .have Xw:i=A.cs.length:=by have:=(cT.mp e1).1;rw[cU,dN]at this;omega
   subst Xw;rw[eO (c9 _)]at e1;rw[h.len,eO (c9 _)]at e2;simp only[g9,ip,jk]at e1 e2;subst e1 e2;have q1:p≠A.ca:=λz=>by rw[z,pS h'.ca]at h1;cases h1
   have q2:wy≠A.ca:=λz=>wL (z ▸ h.nS.1);exact⟨ad,md,kp p _ q1 h1,kp.lst (a:=wy) q2 h2,kp.lst (λz=>h.mT ha (z ▸ cL)) h3,kp.lst (λz=>h.mT hm (z ▸ cL)) h4,nl' _ (h.mT ha) n1,nl' _ (h.mT hm) n2⟩
 .rw[zo];refine fQ.mpr ⟨h.nl,dJ.mpr ⟨dz,eC⟩,λx hx y hy=>?_⟩;rw[dg]at hy;subst hy;exact λz=>wL (z ▸ hx)
 .show(A.b::(A.cs++[(⟨p,wy⟩:qQ)]).map (·.p)).Nodup;rw[dM,<-List.cons_append];refine fQ.mpr ⟨h.np,dJ.mpr ⟨dz,eC⟩,λx hx y hy=>?_⟩;rw[dQ,iE,dg]at hy;subst hy;refine λz=>h.nz hp (z ▸ ?_);rcases cZ.mp hx with y|y
  .rw[y];exact A.mJ.1
  .obtain⟨k,hk,rfl⟩:=dv.mp y;exact A.mJ.2.2.2.2.2.1 k hk
 .unfold sQ.foot at hx;rw[zo]at hx;have hx:x∈A.b::A.nx::(A.lists++[wy]++(A.cs++[(⟨p,wy⟩:qQ)]).map (·.p)):=hx;simp only[cZ,dR,dM,dQ,iE,dz,eP]at hx;unfold sQ.foot;simp only[cZ,dR];rcases hx with z|z|(z|z)|(z|z)
  .exact .inl (.inl z)
  .exact .inl (.inr (.inl z))
  .exact .inl (.inr (.inr (.inl z)))
  .exact .inr (by rw[z];exact hw)
  .exact .inl (.inr (.inr (.inr z)))
  .exact .inr (by rw[z];exact hp)
def pb.nU{a:Ad}{M:Mp}{A:sQ}{V:qb}{p:Addr}{es:List rD}(h:pb a M A V)(hp:M p=none):
  pb a (oU (oU M p (.lst (es.map rD.d))) A.b (.ins a.c (sN (.ref V.p) V.h V.t A.ca p A.nx A.on A.lo))) {A with le:=p} {V with mI:=es}/\qz A M {A with le:=p} (oU (oU M p (.lst (es.map rD.d))) A.b (.ins a.c (sN (.ref V.p) V.h V.t A.ca p A.nx A.on A.lo))):=by
 have t:=pY.new (c:=.lst (es.map rD.d)) hp;have lp:=@oS M p (es.map rD.d);have h1:=h.sub t;have np:p∉A.lists:=h.nK hp;have nf:p∉A.foot:=h.nz hp;have Wk:∀x c,M x=some c->x≠p:=λx c e z=>by rw[z,hp]at e;cases e
 generalize oU M p (.lst (es.map rD.d))=M1 at t lp h1 ⊢;have kp:rM A.b M1 (oU M1 A.b (.ins a.c (sN (.ref V.p) V.h V.t A.ca p A.nx A.on A.lo))):=.put;have sub:∀x,x∉A.lists++V.fo->x≠p->x∉({A with le:=p}:sQ).lists++V.fo:=λx h1 h2 z=>by
  rcases dR.mp z with z|z
  rotate_left
  .exact h1 (eh _ z)
  have h1:x∉A.lists:=λy=>h1 (fm _ y);unfold sQ.lists at h1 z;simp only[cZ,fB]at h1 z;rcases z with z|z|z|z|z
  .exact h1.1 z
  .exact h2 z
  .exact h1.2.2.1 z
  .exact h1.2.2.2.1 z
  .exact h1.2.2.2.2 z
 refine⟨⟨pA,kp.lst (pD h1.ca h1.at_) h1.ca,kp.lst (pD lp h1.at_) lp,kp.dk (BB h1.nx h1.at_) h1.nx,kp.lst (pD h1.on h1.at_) h1.on,kp.lst (pD h1.lo h1.at_) h1.lo,h.len,λi k c e1 e2=>?_,?_,h.np,vQ h1.fo⟩,λx c n e=>kp x c (λz=>n (z ▸ A.mJ.1)) (t x c e),λx hx=>?_,λi k e=>e,λx d e=>Ei (t x d e)⟩
 .obtain⟨ad,md,g1,g2,g3,g4,g5,g6⟩:=(h.cs i k c e1 e2);obtain⟨ad',md',f1,f2,f3,f4,f5⟩:=((h.cs i k c e1 e2).sub t).nI kp h1.at_ (h.oq.2 k (qC e1));have q1:=kp _ _ (λz=>h.oq.2 k (qC e1) z) (t _ _ g1);exact⟨ad,md,q1,f2,kp.lst (pD (t.lst g3) h1.at_) (t.lst g3),kp.lst (pD (t.lst g4) h1.at_) (t.lst g4),sub _ g5 (Wk _ _ (pS g3)),sub _ g6 (Wk _ _ (pS g4))⟩
 .have n:=h.nl;unfold sQ.lists at n np ⊢;simp only[cZ,fB]at np;simp only[dJ,cZ,fB]at n ⊢;exact⟨⟨λz=>np.1 z.symm,n.1.2⟩,⟨np.2.2.1,np.2.2.2.1,np.2.2.2.2⟩,n.2.2⟩
 .by_cases z:x=p
  .exact .inr (z ▸ hp)
  .refine .inl ?_;unfold sQ.foot sQ.lists at hx ⊢;simp only[cZ,dR]at hx ⊢;rcases hx with y|y|(y|y|y|y|y)|y
   .exact .inl y
   .exact .inr (.inl y)
   .exact .inr (.inr (.inl (.inl y)))
   .exact absurd y z
   .exact .inr (.inr (.inl (.inr (.inr (.inl y)))))
   .exact .inr (.inr (.inl (.inr (.inr (.inr (.inl y))))))
   .exact .inr (.inr (.inl (.inr (.inr (.inr (.inr y))))))
   .exact .inr (.inr (.inr y))
def yT(x:D)(l:List D):vL (x::l) 0=some x:=by
 unfold vL;have:F5 (x::l).length 0=some 0:=by unfold F5;rw[dW];simp
 rw[this];rfl
def wJ(f:oQ->Str->Bool)(a:Ad):qJ:=λds M Q=>AD λL k c x=>ds=[.ref k.p,.str x]/\rh a M L k c/\Q (.bl (f c x)) M
abbrev Gz:=wJ oQ.hasB
abbrev yE:=wJ oQ.mG
abbrev DE:=wJ oQ.mF
abbrev yh:=wJ oQ.mB
abbrev vg:=wJ oQ.mx
abbrev Du:=wJ oQ.mH
abbrev wB:=wJ oQ.mW
noncomputable def OT(x:Str):D->Bool
 | .str y=>!(y==x)
 | _=>false
def yH(a:Ad):qJ:=λds M Q=>JM λL k c x y r=>ds=[.ref k.p,.str x]/\rh a M L k c/\c.ms.length<=100/\rb c.ms x=y::r/\Q (.str y) M
def AH(ss:List Str)(x:Str):[]++(List.filter (OT x) (ss.map D.str)).map id=(rb ss x).map D.str:=by rw[dS,iW,gP];rfl
def C5{M:Mp}{k:Addr}{ks:List Str}{c:Str}{K:DK}(hk:oA M k=some (ks.map D.str))(h:K (.bl (hasS ks c)) M):Ro false (.str c) (.ref k) M K:=by refine i' hk ⟨rfl,pG ks,?_⟩;show K (.bl (inD (.str c) (ks.map D.str))) M;rw[qO];exact h
def UZ(w x y:Str):inD (.str w) [.str x,.str y]=(w==x||w==y):=by rw[show[D.str x,D.str y]=[x,y].map D.str from rfl,qO,gf];simp only[fW,List.any_nil,jf,gO,fg];exact⟨λh=>h.imp lR lR,λh=>h.imp lR lR⟩
def Rp(G:Gl K mg a):Fq P w K mg base 1 a.bI (Gz a):=by
 refine fq G.bI.toDG FW (λr u=>⟨_,(oJ (pq (oV u (oP v0) oO)
 (oM (oR (CK (pC u U1 (oP v0)) (qS (pC u U1 (oP v0))))))
 oX)
 (oJ (pq (oV u (oP v0) oO)
 (oM (oR (pC u U1 (oP v0))))
 oX)
 (oM (oR (qT (pC u (oP v0) (pk (rJ oO oO))) (qS (pC u U1 (oP v0)))))))),?_⟩)
 rintro ds M Q ⟨L,k,c,x,rfl,⟨ad,md,h1,h2,h3,h4,_⟩,q⟩
 unfold oQ.hasB at q;refine oK h1 (i' rfl ?_);refine qg (c:=c.st=="rings") (λg=>?_) (λg=>?_)
 .rw[cX g]at q;refine oK h1 (i' rfl (qg (c:=x==c.cr) (λg2=>?_) (λg2=>?_)))
  .rw[g2]at q;exact⟨M,.refl,q⟩
  .rw[show(x==c.cr)=false from dB.mpr g2,fG]at q;exact oK h1 (i' rfl (C5 h3 ⟨M,.refl,q⟩))
 .rw[cV g]at q;refine oK h1 (i' rfl ?_);refine qg (c:=c.st=="waits") (λg2=>?_) (λg2=>?_)
  .rw[cX g2]at q;exact oK h1 (i' rfl ⟨M,.refl,q⟩)
  .rw[cV g2]at q;refine oK h1 (i' rfl ⟨oG rfl,rfl,rfl,?_⟩);show if inD (.str c.st) [.str "talks",.str "held"]=true then _ else _
   rw[UZ];refine qg (λg3=>?_) (λg3=>?_)
   .rw[g3,eD]at q;exact oK h1 (i' rfl (C5 h4 ⟨M,.refl,q⟩))
   .rw[show(c.st=="talks"||c.st=="held")=false from dB.mpr g3,eN]at q;exact⟨M,.refl,q⟩
def vj(G:Gl K mg a):Fq P w K mg base 1 a.T (yE a):=by
 refine fq G.T.toDG x8 (λr u=>⟨_,(oM (oR (qT (pC u (oP v0) oO) (qS (pC u U1 (oP v0)))))),?_⟩)
 rintro ds M Q ⟨L,k,c,x,rfl,⟨ad,md,h1,h2,h3,h4,_⟩,q⟩
 unfold oQ.mG at q;refine oK h1 (i' rfl (qg (c:=c.st=="talks") (λg=>?_) (λg=>?_)))
 .rw[g,eD]at q;exact oK h1 (i' rfl (C5 h4 ⟨M,.refl,q⟩))
 .rw[show(c.st=="talks")=false from dB.mpr g,eN]at q;exact⟨M,.refl,q⟩
def Kv(G:Gl K mg a):Fq P w K mg base 2 a.bH (DE a):=by
 refine fq G.bH.toDG Cu (λr u=>⟨_,(oJ (pq (oV u (oP v0) oO)
 (oM (oR (qT (pC u U1 (oP v0)) (qS (pC u U1 (oP v0))))))
 oX)
 (oM (oR (pI v0 G.e.toCls G.T (vj G) r (pO U1))))),?_⟩)
 rintro ds M Q ⟨L,k,c,x,rfl,hc,q⟩
 obtain⟨ad,md,h1,h2,h3,h4,_⟩:=id hc;unfold oQ.mF at q;refine oK h1 (i' rfl ?_);refine qg (c:=c.st=="held") (λg=>?_) (λg=>?_)
 .rw[cX g]at q;refine oK h1 (i' rfl (i' h4 ⟨rfl,pG c.ms,?_⟩));show if inD (.str x) (c.ms.map D.str)=true then _ else _
  rw[qO];refine qg (c:=hasS c.ms x) (λg2=>?_) (λg2=>?_)
  .rw[g2,eD]at q;refine oK h1 (i' rfl ?_);cases e:c.hd with
   | none=>rw[e]at q;exact⟨M,.refl,q⟩
   | some y=>
    rw[e]at q;refine⟨M,.refl,?_⟩;rw[show(!(some y==some x))=!(x==y)from by
     show(!(y==x))=_;rw[lT]]at q
    exact q
  .rw[show hasS c.ms x=false from dB.mpr g2,eN]at q;exact⟨M,.refl,q⟩
 .rw[cV g]at q;exact oK h1 ⟨rfl,_,⟨rfl,rfl⟩,L,k,c,x,rfl,hc,M,.refl,q⟩
def A6(G:Gl K mg a):Fq P w K mg base 1 a.U (yh a):=by
 refine fq G.U.toDG xM (λr u=>⟨_,(oM (oR (qT (pC u (oP v0) (pk (rJ oO oO))) (qS (pC u U1 (oP v0)))))),?_⟩)
 rintro ds M Q ⟨L,k,c,x,rfl,⟨ad,md,h1,h2,h3,h4,_⟩,q⟩
 unfold oQ.mB at q;refine oK h1 (i' rfl ⟨oG rfl,rfl,rfl,?_⟩);show if inD (.str c.st) [.str "rings",.str "waits"]=true then _ else _
 rw[UZ];refine qg (λg3=>?_) (λg3=>?_)
 .rw[g3,eD]at q;exact oK h1 (i' rfl ⟨M,.refl,q⟩)
 .rw[show(c.st=="rings"||c.st=="waits")=false from dB.mpr g3,eN]at q;exact⟨M,.refl,q⟩
def E2(G:Gl K mg a):Fq P w K mg base 1 a.aq (vg a):=by
 refine fq G.aq.toDG xU (λr u=>⟨_,(oM (oR (qT (pC u (oP v0) oO) (qS (pC u U1 (oP v0)))))),?_⟩)
 rintro ds M Q ⟨L,k,c,x,rfl,⟨ad,md,h1,h2,h3,h4,_⟩,q⟩
 unfold oQ.mx at q;refine oK h1 (i' rfl (qg (c:=c.st=="waits") (λg=>?_) (λg=>?_)))
 .rw[g,eD]at q;exact oK h1 (i' rfl (C5 h3 ⟨M,.refl,q⟩))
 .rw[show(c.st=="waits")=false from dB.mpr g,eN]at q;exact⟨M,.refl,q⟩
def Mf(G:Gl K mg a):Fq P w K mg base 2 a.bG (wB a):=by
 refine fq G.bG.toDG wk (λr u=>⟨_,(oM (oR (CK (pI v0 G.e.toCls G.U (A6 G) r (pO U1)) (CK (pC u U1 (oP v0)) (qS (pC u U1 (oP v0))))))),?_⟩)
 rintro ds M Q ⟨L,k,c,x,rfl,hc,q⟩
 obtain⟨ad,md,h1,h2,h3,h4,_⟩:=id hc;unfold oQ.mW at q;refine oK h1 ⟨rfl,_,⟨rfl,rfl⟩,L,k,c,x,rfl,hc,qg (c:=c.mB x) (λg=>?_) (λg=>?_)⟩
 .rw[g]at q;exact⟨M,.refl,q⟩
 .rw[show c.mB x=false from dB.mpr g,fG]at q;refine oK h1 (i' rfl (i' h3 ⟨rfl,pG c.at_,?_⟩));show if inD (.str x) (c.at_.map D.str)=true then _ else _
  rw[qO];refine qg (c:=hasS c.at_ x) (λg2=>?_) (λg2=>?_)
  .rw[g2]at q;exact⟨M,.refl,q⟩
  .rw[show hasS c.at_ x=false from dB.mpr g2,fG]at q;exact oK h1 (i' rfl (C5 h4 ⟨M,.refl,q⟩))
def Fc(G:Gl K mg a):Fq P w K mg base 2 a.au (Du a):=by
 refine fq G.au.toDG B2 (λr u=>⟨_,(oM (oR (qT (pI v0 G.e.toCls G.T (vj G) r (pO U1)) (qS (pC u (pB pU rfl G.g pQ (pO (oP v0))) oN))))),?_⟩)
 rintro ds M Q ⟨L,k,c,x,rfl,hc,q⟩
 obtain⟨ad,md,h1,h2,h3,h4,_⟩:=id hc;unfold oQ.mH at q;refine oK h1 ⟨rfl,_,⟨rfl,rfl⟩,L,k,c,x,rfl,hc,qg (c:=c.mG x) (λg=>?_) (λg=>?_)⟩
 .rw[g,eD]at q;refine oK h1 (i' rfl (i' h4 ⟨M,.refl,?_⟩));rw[cQ];have:(((c.ms.length:Nat):Int)==2)=(c.ms.length==2):=by rw[gf,fg,fg];omega
  show Q (.bl (((c.ms.length:Nat):Int)==2)) M;rw[this];exact q
 .rw[show c.mG x=false from dB.mpr g,eN]at q;exact⟨M,.refl,q⟩
def FU(G:Gl K mg a):Fq P w K mg base 1 a.ar (yH a):=by
 refine fq G.ar.toDG yi (λr u=>⟨_,(oM (oR (o9 (qh rfl (xu (ix:=[none,some 1]) (N':=["member","phone"])) (qd (oP v0)) (qe 0) (vo (oV u v0 U1)) v0) oN))),?_⟩)
 rintro ds M Q ⟨L,k,c,x,y,r,rfl,hc,hl,e,q⟩
 have hz:=dI;obtain⟨ad,md,h1,h2,h3,h4,_⟩:=id hc;refine oK h1 (i' rfl (i' h4 (sH (f:=id) (t:=OT x) h4 _ [] _ (by rw[cQ];simp only[dD];omega) (λd hd k0 hk=>?_) (λd hd _ k0 hk=>?_) λp hp=>?_)))
 .obtain⟨y,hy,rfl⟩:=dv.mp hd;exact hk
 .obtain⟨y,hy,rfl⟩:=dv.mp hd;exact hk
 rw[AH,e];exact i' oS (i' (yT _ _) ⟨M,.new hp,q⟩)
theorem BF:∀bs:List Bool,Ab (.bl true) (bs.map D.bl)=bs.findIdx? id
 | []=>rfl
 | b::r=>by rw[dQ,List.findIdx?_cons];unfold Ab;rw[BF r];cases b<;>rfl
theorem Lk(x:D):∀ds:List D,(Ab x ds).isSome=ds.any λd=>NV d x
 | []=>rfl
 | d::r=>by
  unfold Ab;rw[fW];by_cases h:NV d x=true
  .rw[cX h,h];rfl
  .rw[cV h,jj,Lk x r,show NV d x=false from dB.mpr h,fG]
theorem BP:∀bs:List Bool,(bs.map D.bl).all uq=true
 | []=>rfl
 | _::r=>by rw[dQ,gg,BP r];rfl
structure Rd(a:Ad)(M:Mp)(A:sQ)(V:qb)(l:oW):Prop where
 bd:pb a M A V
 k:V.calls.length<=1000000
 pl:sC a M V.p l
 ok:rg l
 on:V.on.length=l.mv.length
 ms:∀c∈V.calls,(∀x∈c.ms,x∈l.pn)/\c.ms.length<=100
def Rd.sub{a:Ad}{M M':Mp}{A:sQ}{V:qb}{l:oW}(h:Rd a M A V l)(s:pY M M'):Rd a M' A V l:=⟨h.bd.sub s,h.k,h.pl.sub s,h.ok,h.on,h.ms⟩
def KL:qJ:=λds M Q=>Ay λr bs=>ds=[.ref r]/\oA M r=some (List.map D.bl bs)/\Q (OE (bs.findIdx? id)) M
def JC(f:qb->Str->D)(a:Ad):qJ:=λds M Q=>Ck λA V x=>ds=[.ref A.b,.str x]/\pb a M A V/\V.calls.length<=1000000/\Q (f V x) M
noncomputable def R5(V:qb)(x:Str):D:=.int (ut V x:Nat)
noncomputable def LQ(V:qb)(x:Str):D:=OE (Eo V x)
noncomputable def zK(V:qb)(x:Str):D:=OE (va V x)
noncomputable def Ss(V:qb)(x:Str):D:=OE (Im V x)
noncomputable def Sh(V:qb)(x:Str):D:=.bl (zI V x)
abbrev DL:=JC R5
abbrev Cs:=JC LQ
abbrev Ag:=JC zK
abbrev zY:=JC Ss
abbrev zg:=JC Sh
def wu(a:Ad):qJ:=λds M Q=>AD λA V l x=>ds=[.ref A.b,.str x]/\Rd a M A V l/\x∈l.pn/\Q (.bl (sV l V x)) M
def zE(a:Ad):qJ:=λds M Q=>Fs λA V l c z=>ds=[.ref A.b,.str c,.str z]/\Rd a M A V l/\z∈l.nm/\∀q M',pY M M'->M q=none->oA M' q=some ((tU l V c z).map D.str)->Q (.ref q) M'
def zt(a:Ad):qJ:=λds M Q=>Ay λA V=>ds=[.ref A.b]/\pb a M A V/\Q (.int ((V.h+V.t) % 24)) M
def NK(a:Ad):qJ:=λds M Q=>Fs λA V l c z=>ds=[.ref A.b,.str c,.str z]/\Rd a M A V l/\z∈l.nm/\Q (.bl (wQ l V c z)) M
def AC{a:Ad}{M:Mp}{A:sQ}{V:qb}(h:pb a M A V){pre post:List D}{d:D}(e:pre++d::post=A.cs.map λk=>D.ref k.p):∃k c,A.cs[pre.length]?=some k/\V.calls[pre.length]?=some c/\d=.ref k.p/\rh a M (A.lists++V.fo) k c/\V.calls.take (pre.length+1)=V.calls.take pre.length++[c]:=by
 have h1:(A.cs.map λk=>D.ref k.p)[pre.length]?=some d:=by rw[<-e];simp
 rw[dw]at h1;cases z:A.cs[pre.length]? with
 | none=>rw[z]at h1;cases h1
 | some k=>
  rw[z]at h1;have hi:pre.length<V.calls.length:=by rw[<-h.len];exact(cT.mp z).1
  have e2:V.calls[pre.length]?=some V.calls[pre.length]:=cS hi;refine⟨k,_,rfl,e2,(de h1).symm,h.cs _ _ _ z e2,?_⟩;rw[gU,e2];rfl
def vS{l:oW}{x:Str}(h:x∈l.pn):∃v,l.mL x=some v:=by
 obtain⟨p,hp,rfl⟩:=dv.mp h;unfold oW.mL;cases e:l.mo.find? λq=>decide (q.1=p.1)with
 | some v=>exact⟨v,rfl⟩
 | none=>exact absurd (gQ.mp e p hp) (by simp)
def qk{ss:List Str}{x:Str}:hasS ss x=true↔x∈ss:=by unfold hasS;rw[gp];exact⟨λ⟨y,hy,e⟩=>eq_of_beq e ▸ hy,λh=>⟨x,h,eE _⟩⟩
def JB{ss:List Str}(h:uW ss=true):ss.Nodup:=by
 have h:(rZ ss).length=ss.length:=by unfold uW at h;have:=fg.mp h;omega
 suffices key:∀r:List Str,(rZ r.reverse).length=r.reverse.length->r.reverse.Nodup by have:=key ss.reverse;rw[List.reverse_reverse]at this;exact this h
 intro r;induction r with
 | nil=>intro _;exact eC
 | cons k r ih=>
  intro h;rw[List.reverse_cons]at h ⊢;generalize r.reverse=l at ih h ⊢;rw[xw]at h;split at h
  .have:=HL l;rw[cU,dN]at h;omega
  .rename_i hk;rw[cU,cU,dN]at h;have h1:=ih (by omega);rw[Ko]at hk;refine fQ.mpr ⟨h1,by simp,λx hx y hy=>?_⟩;rw[dg.mp hy];exact λz=>hk (z ▸ hx)
def GR{cs ks:List Str}{m:Int}(h:rP cs ks m=true):cs≠[]/\(cs.length:Int)<=m/\cs.Nodup/\∀x∈cs,x∈ks:=by unfold rP at h;simp only[dP,d6,eY]at h;obtain⟨h1,h2,h3,h4⟩:=h;refine⟨λz=>by rw[z]at h1;exact absurd h1 (by decide),h2,JB h3,λx hx=>qk.mp (h4 x hx)⟩
def rg.of{l:oW}(ok:rg l){z:Str}(hz:z∈l.nm):(l.mj z≠[]/\(l.mj z).length<=4/\(l.mj z).Nodup/\∀x∈l.mj z,x∈l.pn)/\(z∈l.pn->l.mj z=[z]/\l.mD z="one"):=by
 have hd:=fQ.mp ok.nd;have h1:z∈l.pn->l.group z=none:=λh=>gQ.mpr λg hg e=>hd.2.2 z h g.1 (dv.mpr ⟨g,hg,rfl⟩) (by simpa using e:g.1=z).symm;refine⟨?_,λh=>by unfold oW.mj oW.mD;rw[h1 h];exact⟨rfl,rfl⟩⟩;unfold oW.mj;cases e:l.group z with
 | none=>
  have hp:z∈l.pn:=by
   rcases dR.mp hz with h|h
   .exact h
   .obtain⟨g,hg,rfl⟩:=dv.mp h;exact absurd (gQ.mp e g hg) (by simp)
  exact⟨fF _ _,by show 1<=4;decide,dJ.mpr ⟨dz,eC⟩,λx hx=>by rw[dg.mp hx];exact hp⟩
 | some g=>obtain⟨c1,c2,c3,c4⟩:=GR (ok.go g (fN e)).mem;exact⟨c1,by show g.2.2.length<=4;omega,c3,c4⟩
def xx{a:Ad}{M:Mp}{A:sQ}{V:qb}{f:oQ->Str->Bool}{m x:Str}{Q:DK}{ok:Mp->Prop}(bd:pb a M A V)(hk:V.calls.length<=1000000)(mE:ok M)(hm:∀c wy ad md,(qL c wy ad md).lookup m=none)(q:∀p,M p=none->Q (.ref p) (oU M p (.lst ((V.calls.map λc=>f c x).map D.bl)))):
  uo (tN 0) AO (zU m (λC s=>C=a.e/\s=wJ f a) (v3 0) (uG (v3 1) xf)) ok Q (A.cs.map λk=>D.ref k.p) [] [none,some (.str x)] M:=by
 have hz:=dI;refine EO (A.cs.map λk=>D.ref k.p) (λpre acc δ M'=>M=M'/\acc=((V.calls.take pre.length).map λc=>f c x).map D.bl/\∃y,δ=[y,some (.str x)]) (λ_ _ _ M' j=>by rw[<-j.1];exact mE) _ [] [] _ _ rfl ?_ ⟨rfl,rfl,none,rfl⟩ ?_ ?_
 .rw[cQ,bd.len];simp only[dD];omega
 .rintro pre d post e acc δ M' ⟨rfl,rfl,y,rfl⟩ k hk
  obtain⟨ka,c,e1,e2,rfl,hc,et⟩:=AC bd e;obtain⟨_,_,g1,_⟩:=id hc;refine oK g1 ⟨hm _ _ _ _,_,⟨rfl,rfl⟩,_,ka,c,x,rfl,hc,hk _ _ _ ⟨rfl,?_,_,rfl⟩⟩;rw[cU,dN,et,dM,dM];rfl
 .rintro acc δ M' ⟨rfl,rfl,y,rfl⟩ p hp
  rw[cQ,bd.len,fE];exact q p hp
def AY(G:Gl K mg a):Fq P w K mg base 1 a.L KL:=by
 refine fq G.L.toDG zC (λr u=>⟨_,(oJ (pq (oV u uK v0)
 (oM (oR (wW v0 (pO uK))))
 oX)
 (oM (oR qU))),?_⟩)
 rintro ds M Q ⟨r,bs,rfl,hr,q⟩
 have ei:inD (.bl true) (bs.map D.bl)=(bs.findIdx? id).isSome:=by rw[<-BF];exact(Lk _ _).symm
 refine i' hr ⟨rfl,BP bs,?_⟩;show if inD (.bl true) (bs.map D.bl)=true then _ else _
 rw[ei];cases e:bs.findIdx? id with
 | none=>rw[e]at q;exact⟨M,.refl,q⟩
 | some j=>rw[e]at q;exact Dv ⟨by show(oA M r).isSome=true;rw[hr];rfl,i' hr ⟨rfl,BP bs,i' ((BF bs).trans e) ⟨M,.refl,q⟩⟩⟩
def Nu(G:Gl K mg a):Fq P w K mg base 2 a.bE (DL a):=by
 refine fq G.bE.toDG B8 (λr u=>⟨_,(oM (oR (pB pU rfl G.g pQ (pO (qh rfl (xu (ix:=[none,some 1]) (N':=["call","phone"])) (qd (oP v0)) (qe 0) (vo (tT (pI v0 G.e.toCls G.bI (Rp G) r (pO U1)))) v0))))),?_⟩)
 rintro ds M Q ⟨A,V,x,rfl,bd,V6,q⟩
 have hz:=dI;refine oK bd.at_ (i' rfl (i' bd.ca ?_));refine xG (A.cs.map λk=>D.ref k.p) (λpre acc δ M'=>M=M'/\acc.length=((V.calls.take pre.length).filter (·.hasB x)).length/\∃y,δ=[y,some (.str x)]) (λ_ _ _ M' j=>by rw[<-j.1];exact bd.ca) _ [] [] _ _ rfl ?_ ⟨rfl,rfl,none,rfl⟩ ?_ ?_
 .rw[cQ,bd.len];simp only[dD];omega
 .rintro pre d post e acc δ M' ⟨rfl,ha,y,rfl⟩ k k2 hk XE
  obtain⟨ka,c,e1,e2,rfl,hc,et⟩:=AC bd e;rw[cU,dN,et,im]at hk XE;obtain⟨_,_,g1,_⟩:=id hc;refine oK g1 ⟨rfl,_,⟨rfl,rfl⟩,_,ka,c,x,rfl,hc,?_⟩;refine qg (c:=c.hasB x) (λg=>?_) (λg=>?_)
  .refine hk _ _ _ ⟨rfl,?_,_,rfl⟩;rw[cU,cU,ha,gi (by exact g)];rfl
  .refine XE _ _ ⟨rfl,?_,_,rfl⟩;rw[cU,ha,gj (by exact g)];rfl
 .rintro acc δ M' ⟨rfl,ha,y,rfl⟩ p hp
  refine i' oS ⟨M,.new hp,?_⟩;rw[cQ,bd.len,fE]at ha;rw[ha];exact q
def Mv(G:Gl K mg a):Fq P w K mg base 3 a.bC (Cs a):=by
 refine fq G.bC.toDG Bk (λr u=>⟨_,(oM (oR (oY (AY G) r G.L (pO (qh rfl (xu (ix:=[none,some 1]) (N':=["call","phone"])) (qd (oP v0)) (qe 0) rB (pI v0 G.e.toCls G.bH (Kv G) r (pO U1))))))),?_⟩)
 rintro ds M Q ⟨A,V,x,rfl,bd,V6,q⟩
 refine oK bd.at_ (i' rfl (i' bd.ca (xx bd V6 bd.ca (λ_ _ _ _=>rfl) λp hp=>⟨p,_,rfl,oS,M,.new hp,?_⟩)));rw[gX];exact q
def GL(G:Gl K mg a):Fq P w K mg base 3 a.bD (zY a):=by
 refine fq G.bD.toDG zy (λr u=>⟨_,(oM (oR (oY (AY G) r G.L (pO (qh rfl (xu (ix:=[none,some 1]) (N':=["call","phone"])) (qd (oP v0)) (qe 0) rB (pI v0 G.e.toCls G.U (A6 G) r (pO U1))))))),?_⟩)
 rintro ds M Q ⟨A,V,x,rfl,bd,V6,q⟩
 refine oK bd.at_ (i' rfl (i' bd.ca (xx bd V6 bd.ca (λ_ _ _ _=>rfl) λp hp=>⟨p,_,rfl,oS,M,.new hp,?_⟩)));rw[gX];exact q
def yb(G:Gl K mg a):Fq P w K mg base 3 a.Q (Ag a):=by
 refine fq G.Q.toDG zG (λr u=>⟨_,(oM (oR (oY (AY G) r G.L (pO (qh rfl (xu (ix:=[none,some 1]) (N':=["call","phone"])) (qd (oP v0)) (qe 0) rB (pI v0 G.e.toCls G.T (vj G) r (pO U1))))))),?_⟩)
 rintro ds M Q ⟨A,V,x,rfl,bd,V6,q⟩
 refine oK bd.at_ (i' rfl (i' bd.ca (xx bd V6 bd.ca (λ_ _ _ _=>rfl) λp hp=>⟨p,_,rfl,oS,M,.new hp,?_⟩)));rw[gX];exact q
def Fo(G:Gl K mg a):Fq P w K mg base 3 a.bL (zg a):=by
 refine fq G.bL.toDG yK (λr u=>⟨_,(oM (oR (pB (Q4 rfl) rfl G.cD Rr (pO (qh rfl (xu (ix:=[none,some 1]) (N':=["call","phone"])) (qd (oP v0)) (qe 0) rB (pI v0 G.e.toCls G.aq (E2 G) r (pO U1))))))),?_⟩)
 rintro ds M Q ⟨A,V,x,rfl,bd,V6,q⟩
 refine oK bd.at_ (i' rfl (i' bd.ca (xx bd V6 bd.ca (λ_ _ _ _=>rfl) λp hp=>i' oS ?_)));rw[dX];refine i' (wm _ _) ⟨M,.new hp,?_⟩;rw[jE];exact q
def FS(G:Gl K mg a):Fq P w K mg base 1 a.bK (zt a):=by
 refine fq G.bK.toDG yJ (λr u=>⟨_,(oM (oR (pE (pE (oP v0) (oP v0)) oN))),?_⟩)
 rintro ds M Q ⟨A,V,rfl,bd,q⟩
 exact oK bd.at_ (i' rfl (oK bd.at_ (i' rfl ⟨by decide,M,.refl,q⟩)))
def Fl{l:oW}{x:Str}{v:tz}(h:l.mL x=some v):ub l x=v.2.1:=by unfold ub;rw[h];rfl
def xY(G:Gl K mg a):Fq P w K mg base 3 a.S (wu a):=by
 refine fq G.S.toDG zr (λr u=>⟨_,(oM (oR (pC u (pI v0 G.c.toCls G.bE (Nu G) r (pO U1)) (pI (oP v0) G.h.toCls G.bF (Ca G) r (pO U1))))),?_⟩)
 rintro ds M Q ⟨A,V,l,x,rfl,rd,hx,q⟩
 obtain⟨ph,gr,ws,W0,pr,gd,rs,i1,_⟩:=rd.pl;obtain⟨v,hv⟩:=vS hx;refine oK rd.bd.at_ ⟨rfl,_,⟨rfl,rfl⟩,A,V,x,rfl,rd.bd,rd.k,?_⟩;refine oK rd.bd.at_ (i' rfl (oK i1 ⟨rfl,_,⟨rfl,rfl⟩,V.p,x,v,l,rfl,rd.pl,hv,?_⟩));unfold sV at q;rw[Fl hv]at q;exact⟨M,.refl,q⟩
def zR(G:Gl K mg a):Fq P w K mg base 4 a.aJ (zE a):=by
 refine fq G.aJ.toDG yp (λr u=>⟨_,(oM (oR (qh rfl (xu (ix:=[none,some 1,some 0]) (N':=["phone","caller","self"])) (qd (pI (oP v0) G.h.toCls G.V (tS G) r (pO U2))) (qe 0) (vo (W3.b3 (wK (oV u v0 U1) (vZ (tT (pI U2 G.c.toCls G.S (xY G) r (pO v0))))))) v0))),?_⟩)
 rintro ds M Q ⟨A,V,l,c,z,rfl,rd,WD,q⟩
 obtain⟨ph,gr,ws,W0,pr,gd,rs,i1,_⟩:=rd.pl;obtain⟨⟨_,p4,_,pin⟩,_⟩:=rd.ok.of WD;refine oK rd.bd.at_ (i' rfl (oK i1 ⟨rfl,_,⟨rfl,rfl⟩,V.p,z,l,rfl,rd.pl,λq1 WC=>i' oS ?_⟩));have s1:=pY.new (c:=.lst (List.map D.str (l.mj z))) WC;have c1:=@oS M q1 (List.map D.str (l.mj z));generalize oU M q1 (.lst (List.map D.str (l.mj z)))=M1 at s1 c1 ⊢;have hz:=dI;have Xr:=rd.sub s1;refine sH (f:=id) (t:=λd=>match d with|.str x=>!(x==c)&&sV l V x|_=>false) c1 _ [] _ (by rw[cQ];simp only[dD];omega) (λd hd k hk=>?_) (λd hd _ k hk=>?_) λq2 XZ=>?_
 .obtain⟨x,hx,rfl⟩:=dv.mp hd;have hk:k (!(x==c)&&sV l V x) M1:=hk;cases e:x==c with
  | true=>rw[e]at hk;refine LI (c:=!(x==c)) (by rw[e];rfl) hk
  | false=>rw[e]at hk;refine wU (c:=!(x==c)) (by rw[e];rfl) (oK Xr.bd.at_ ⟨rfl,_,⟨rfl,rfl⟩,A,V,l,x,rfl,Xr,pin x hx,hk⟩)
 .obtain⟨x,hx,rfl⟩:=dv.mp hd;exact hk
 .have ef:[]++(List.filter (λd=>match d with|.str x=>!(x==c)&&sV l V x|_=>false) ((l.mj z).map D.str)).map id=(tU l V c z).map D.str:=by rw[dS,iW,gP];rfl
  rw[ef];have t2:=pY.new (c:=.lst ((tU l V c z).map D.str)) XZ;exact⟨_,.refl,q q2 _ (s1.trans t2) (s1.none XZ) oS⟩
def DX(G:Gl K mg a):Fq P w K mg base 5 a.M (NK a):=by
 refine fq G.M.toDG G8 (λr u=>⟨_,(oM (oR (pC u (pB pU rfl G.g pQ (pO (pI v0 G.c.toCls G.aJ (zR G) r (rJ U1 U2)))) oN))),?_⟩)
 rintro ds M Q ⟨A,V,l,c,z,rfl,rd,tg,q⟩
 refine oK rd.bd.at_ ⟨rfl,_,⟨rfl,rfl⟩,A,V,l,c,z,rfl,rd,tg,λq1 M1 s1 WC e1=>i' e1 ⟨M,s1,?_⟩⟩;have e:((((tU l V c z).map D.str).length:Int)==0)=wQ l V c z:=by unfold wQ;rw[cQ,gf,fg,List.isEmpty_iff,<-gh];omega
 show Q (.bl ((((tU l V c z).map D.str).length:Int)==0)) M;rw[e];exact q
def vY(a:Ad)(v:Wi):qJ:=λds M Q=>JM λp A V l c z=>ds=[.ref p,.ref A.b,.str c,.str z]/\M p=some (.ins (v.cls a) v.nj)/\Rd a M A V l/\z∈l.nm/\Bw l.pn l.nm v/\Q (.bl (Ap l V c z v)) M
def PC(a:Ad)(v:Wi):qJ:=λds M Q=>AD λp L k c=>ds=[.ref p,.ref (qQ.p k)]/\M p=some (.ins (v.cls a) v.nj)/\rh a M L k c/\Q (.bl (Gd c v)) M
def FX:qJ:=λds M Q=>Ay λx y=>ds=[x,y]/\Q (.bl false) M
def Kx(a:Ad):Addr->qJ->Prop:=λC sp=>∃v:Wi,C=v.cls a/\sp=vY a v
noncomputable def LN(a:Ad):Wi->qJ
 | .silent x y n=>PC a (.silent x y n)
 | _=>FX
def FY(a:Ad):Addr->qJ->Prop:=λC sp=>∃v:Wi,C=v.cls a/\sp=LN a v
def zx(a:Ad):qJ:=λds M Q=>JM λp x y f l h=>ds=[.ref p,.int h]/\M p=some (.ins a.n (Wi.night x y f l).nj)/\Q (.bl (EQ f l h)) M
def yY(a:Ad):qJ:=λds M Q=>JM λp x q l r ms=>ds=[.ref p,.ref q,.ref r]/\M p=some (.ins a.o (Wi.breaks x).nj)/\sC a M q l/\oA M r=some (List.map D.str ms)/\ms.length<=100/\x∈l.pn/\(∀m∈ms,m∈l.pn)/\Q (.bl (GC l x ms)) M
def HZ{l:oW}{x:Str}{v:tz}(h:l.mL x=some v):uX l x=v.2.2:=by unfold uX;rw[h];rfl
def qN{ks:List qQ}{i:Nat}{k:qQ}(h:ks[i]?=some k):vL (ks.map λk=>D.ref k.p) (i:Nat)=some (.ref k.p):=uz (by rw[dw,h];rfl)
def J8(ds:List D):L3.sT ds (some (-1:Int)) none=ds.drop (ds.length - 1):=by
 unfold L3.sT;have e:HT.sj ds.length 0 (some (-1:Int))=ds.length - 1:=by show(if (-1:Int)<0 then((-1:Int)+(ds.length:Int)).toNat else min (-1:Int).toNat ds.length)=ds.length - 1;rw[cX (by decide)];omega
 rw[e];show(ds.drop (ds.length - 1)).take (ds.length - (ds.length - 1))=_;exact gS (by rw[fX];exact c9 _)
theorem Dj{α:Type}:∀w:List α,w.drop (w.length - 1)=w.getLast?.toList
 | []=>rfl
 | [_]=>rfl
 | _::z::r=>by rw[List.getLast?_cons_cons,<-Dj (z::r)];rfl
def MP{M:Mp}{p q:Addr}{w:List Str}{x:Str}(h1:oA M p=some ((w.map D.str).drop ((w.map D.str).length - 1)))(h2:oA M q=some [D.str x]):CO M 9 (.ref p) (.ref q)=some (w.getLast?==some x):=by
 have e:(w.map D.str).drop ((w.map D.str).length - 1)=(w.getLast?.toList).map D.str:=by rw[cQ,<-ko];rw[Dj]
 rw[e]at h1;show(oA M p).bind (λi=>(oA M q).bind λj=>if i.length=j.length then tw (CO M 8) i j else some false)=_;rw[h1,h2];cases w.getLast? with
 | none=>rfl
 | some y=>show((some (y==x)).bind λp=>(some true).map λq=>p&&q)=some (some y==some x);show some ((y==x)&&true)=_;rw[Bool.and_true];rfl
def K0(G:Gl K mg a)(x:Str)(ns:List Str):Fq P w K mg base 6 a.aA (vY a (.bar x ns)):=by
 refine fq G.aA.toDG Ga (λr u=>⟨_,(oM (oR (qT (pC u U2 (oP v0)) (qS (pC u U3 (oP v0)))))),?_⟩)
 rintro ds M Q ⟨p,A,V,l,c,z,rfl,hp,_,_,_,q⟩
 refine oK hp ?_;refine qg (c:=c==x) (λg=>oK hp ⟨rfl,pG ns,M,.refl,?_⟩) (λg=>⟨M,.refl,?_⟩)
 .show Q (.bl (inD (.str z) (ns.map D.str))) M;rw[qO];dsimp only[Ap]at q;rw[g,eD]at q;exact q
 .dsimp only[Ap]at q;rw[show(c==x)=false from dB.mpr g,eN]at q;exact q
def LM(G:Gl K mg a)(x:Str)(ns:List Str):Fq P w K mg base 6 a.aB (vY a (.shut x ns)):=by
 refine fq G.aB.toDG Ej (λr u=>⟨_,(oM (oR (qT (pC u U3 (oP v0)) (qS (pC u U2 (oP v0)))))),?_⟩)
 rintro ds M Q ⟨p,A,V,l,c,z,rfl,hp,_,_,_,q⟩
 refine oK hp ?_;refine qg (c:=z==x) (λg=>oK hp ⟨rfl,pG ns,M,.refl,?_⟩) (λg=>⟨M,.refl,?_⟩)
 .show Q (.bl (inD (.str c) (ns.map D.str))) M;rw[qO];dsimp only[Ap]at q;rw[g,eD]at q;exact q
 .dsimp only[Ap]at q;rw[show(z==x)=false from dB.mpr g,eN]at q;exact q
def Ke(G:Gl K mg a)(x y:Str):Fq P w K mg base 6 a.aC (vY a (.always x y)):=by
 refine fq G.aC.toDG BI (λr u=>⟨_,(oM (oR (pC u U3 (oP v0)))),?_⟩)
 rintro ds M Q ⟨p,A,V,l,c,z,rfl,hp,_,_,_,q⟩
 exact oK hp ⟨M,.refl,q⟩
def FB(G:Gl K mg a):Fq P w K mg base 1 a.bJ (zx a):=by
 refine fq G.bJ.toDG yI (λr u=>⟨_,(oJ (pq (oV u (oP v0) (oP v0))
 (oM (oR (tP u (oP v0) U1 (oP v0))))
 oX)
 (oM (oR (CK (pC u U1 (oP v0)) (qS (pC u U1 (oP v0))))))),?_⟩)
 rintro ds M Q ⟨p,x,y,f,l,h,rfl,hp,q⟩
 refine oK hp (oK hp ?_);show if (decide (f<l))=true then _ else _
 unfold EQ at q;by_cases z:f<l
 .rw[cX z]at q;refine wU (dO z) (oK hp ?_);refine qg (c:=decide (f<=h)) (λg=>?_) (λg=>?_)
  .rw[g,eD]at q;exact oK hp ⟨M,.refl,q⟩
  .rw[show decide (f<=h)=false from dB.mpr g,eN]at q;exact⟨M,.refl,q⟩
 .rw[cV z]at q;refine LI (eJ z) (oK hp ?_);refine qg (c:=decide (h>=f)) (λg=>?_) (λg=>?_)
  .rw[g,gY]at q;exact⟨M,.refl,q⟩
  .rw[show decide (h>=f)=false from dB.mpr g,fG]at q;exact oK hp ⟨M,.refl,q⟩
def LB(G:Gl K mg a)(x y:Str)(f m:Int):Fq P w K mg base 6 a.aD (vY a (.night x y f m)):=by
 refine fq G.aD.toDG Cg (λr u=>⟨_,(oM (oR (qT (pC u U3 (oP v0)) (qS (pI v0 G.n.toCls G.bJ (FB G) r (pO (xE U1 G.c.toCls G.bK (FS G) r))))))),?_⟩)
 rintro ds M Q ⟨p,A,V,l,c,z,rfl,hp,rd,_,_,q⟩
 dsimp only[Ap]at q;refine oK hp ?_;refine qg (c:=z==x) (λg=>?_) (λg=>?_)
 .rw[g,eD]at q;exact oK hp ⟨rfl,_,⟨rfl,rfl⟩,oK rd.bd.at_ ⟨rfl,_,⟨rfl,rfl⟩,A,V,rfl,rd.bd,p,x,y,f,m,_,rfl,hp,M,.refl,q⟩⟩
 .rw[show(z==x)=false from dB.mpr g,eN]at q;exact⟨M,.refl,q⟩
def K'(G:Gl K mg a)(x y:Str):Fq P w K mg base 6 a.aE (vY a (.busy x y)):=by
 refine fq G.aE.toDG DQ (λr u=>⟨_,(oM (oR (qT (pC u U3 (oP v0)) (qS (oY (DX G) r G.M (qP U1 U2 U3)))))),?_⟩)
 rintro ds M Q ⟨p,A,V,l,c,z,rfl,hp,rd,hz,_,q⟩
 dsimp only[Ap]at q;refine oK hp ?_;refine qg (c:=z==x) (λg=>?_) (λg=>?_)
 .rw[g,eD]at q;exact⟨A,V,l,c,z,rfl,rd,hz,M,.refl,q⟩
 .rw[show(z==x)=false from dB.mpr g,eN]at q;exact⟨M,.refl,q⟩
def LR(G:Gl K mg a)(x y:Str)(n:Int):Fq P w K mg base 6 a.aF (vY a (.silent x y n)):=by
 refine fq G.aF.toDG Bc (λr u=>⟨_,(oM (oR uK)),?_⟩)
 rintro ds M Q ⟨p,A,V,l,c,z,rfl,hp,rd,hz,_,q⟩
 exact⟨M,.refl,q⟩
def Ks(G:Gl K mg a)(x:Str):Fq P w K mg base 6 a.aG (vY a (.wait x)):=by
 refine fq G.aG.toDG D9 (λr u=>⟨_,(oJ (pq (W3.b3 (vG (oV u U3 (oP v0)) (vv (oV u U2 (oP v0)))))
 (oM (oR uK))
 oX)
 (oM (oR (qT (oY (DX G) r G.M (qP U1 U2 U3)) (qS (Q3 (pI U1 G.c.toCls G.bL (Fo G) r (pO U3)))))))),?_⟩)
 rintro ds M Q ⟨p,A,V,l,c,z,rfl,hp,rd,hz,_,q⟩
 dsimp only[Ap]at q;refine oK hp ?_;refine qg (c:=!(z==x)) (λg=>?_) (λg=>?_)
 .rw[g,gY]at q;exact⟨M,.refl,q⟩
 rw[show(!(z==x))=false from dB.mpr g,fG]at q;refine oK hp ?_;refine qg (c:=c==x) (λg=>?_) (λg=>?_)
 .rw[g]at q;exact⟨M,.refl,q⟩
 rw[cV g]at q;refine⟨A,V,l,c,z,rfl,rd,hz,?_⟩;refine qg (c:=wQ l V c z) (λg=>?_) (λg=>?_)
 .rw[g,eD]at q;exact oK rd.bd.at_ ⟨rfl,_,⟨rfl,rfl⟩,A,V,z,rfl,rd.bd,rd.k,M,.refl,q⟩
 .rw[show wQ l V c z=false from dB.mpr g,eN]at q;exact⟨M,.refl,q⟩
def FT(G:Gl K mg a):Fq P w K mg base 2 a.bM (yY a):=by
 refine fq G.bM.toDG uH (λr u=>⟨_,(oJ (oZ 3 uH (pI U1 G.h.toCls G.aK (yR G) r (pO (oP v0))))
 (oM (oR (pB (AW rfl) rfl G.aN Bb (pO (qh rfl (xu (ix:=[none,some 1,some 3]) (N':=["member","plan","rank"])) (qd U2) (qe 0) rB (pC u (pI U1 G.h.toCls G.aK (yR G) r (pO v0)) U2))))))),?_⟩)
 rintro ds M Q ⟨p,x,q,l,r,ms,rfl,hp,pl,lr,h100,hx,hm,k⟩
 have hz:=dI;obtain⟨v,hv⟩:=vS hx;obtain⟨ph,gr,ws,W0,pr,gd,rs,i1,_⟩:=id pl;refine oK i1 ⟨rfl,_,⟨rfl,rfl⟩,oK hp (i' rfl ⟨q,x,v,l,rfl,pl,hv,?_⟩)⟩;refine i' lr (qy (f:=λd=>match d with|.str m=>.bl (decide (uX l m<uX l x))|_=>.mz) lr _ [] _ (by rw[cQ];show 0+ms.length<=sizeLine;omega) (λd hd k0 hk=>?_) λp1 XA=>?_)
 .obtain⟨m,hmm,rfl⟩:=dv.mp hd;obtain⟨u,hu⟩:=vS (hm m hmm);have hk:k0 (.bl (decide (uX l m<uX l x))) M:=hk;rw[HZ hu,HZ hv]at hk;exact oK i1 ⟨rfl,_,⟨rfl,rfl⟩,q,m,u,l,rfl,pl,hu,hk⟩
 .have em:[]++(ms.map D.str).map (λd=>match d with|.str m=>.bl (decide (uX l m<uX l x))|_=>.mz)=ms.map λm=>D.bl (decide (uX l m<uX l x)):=by rw[dS,dX];rfl
  rw[em];refine i' oS (i' (wm (λm=>decide (uX l m<uX l x)) ms) ⟨M,.new XA,?_⟩);unfold GC at k;rw[yz];exact k
def Mt(G:Gl K mg a)(x:Str):Fq P w K mg base 6 a.aH (vY a (.breaks x)):=by
 refine fq G.aH.toDG uO (λr u=>⟨_,(oJ (pq (W3.b3 (vG (oV u U2 (oP v0)) (vv (oV u U3 (oP v0)))))
 (oM (oR uK))
 oX)
 (oJ (pq (W3.b3 (vG (oV u U3 (xE (oP U1) G.h.toCls G.R (sO G) r)) (vv (um (tT (oY (DX G) r G.M (qP U1 U2 U3)))))))
 (oM (oR uK))
 oX)
 (oJ (oZ 4 uO (pI U1 G.c.toCls G.Q (yb G) r (pO U3)))
 (oJ (pq (oV u v4 qU)
 (oM (oR uK))
 oX)
 (oJ (oZ 5 uO (oP (o9 (oP U1) v4)))
 (oM (oR (qT (pC u (pB pU rfl G.g pQ (pO v5)) oN) (qS (pI v0 G.o.toCls G.bM (FT G) r (rJ (oP U1) v5))))))))))),?_⟩)
 rintro ds M Q ⟨p,A,V,l,c,z,rfl,hp,rd,WD,hx,q⟩
 have hx:x∈l.pn:=qk.mp hx;obtain⟨ph,gr,ws,W0,pr,gd,rs,i1,_⟩:=rd.pl;have p8:=rd.ok.p8;dsimp only[Ap,Gs]at q;refine oK hp ?_;refine qg (c:=!(c==x)) (λh1=>?_) (λh1=>?_)
 .rw[h1,gY]at q;exact⟨M,.refl,q⟩
 rw[show(!(c==x))=false from dB.mpr h1,fG]at q;refine oK hp ?_;refine qg (c:=z==x) (λh2=>?_) (λh2=>?_)
 .rw[h2]at q;exact⟨M,.refl,q⟩
 rw[cV h2]at q;refine oK rd.bd.at_ (i' rfl (oK i1 ⟨rfl,_,⟨rfl,rfl⟩,V.p,l,rfl,rd.pl,by omega,λq1 WC=>i' oS ⟨rfl,pG _,?_⟩⟩));have t:=pY.new (c:=.lst (l.pn.map D.str)) WC;have V7:=rd.sub t;generalize oU M q1 (.lst (l.pn.map D.str))=M1 at t V7 ⊢;show if (!(inD (.str z) (l.pn.map D.str)))=true then _ else _
 rw[qO];refine qg (c:=!(hasS l.pn z)) (λh3=>?_) (λh3=>?_)
 .rw[h3,gY]at q;exact⟨M,t,q⟩
 rw[show(!(hasS l.pn z))=false from dB.mpr h3,fG]at q;refine⟨A,V,l,c,z,rfl,V7,WD,?_⟩;refine qg (c:=!(wQ l V c z)) (λh4=>?_) (λh4=>?_)
 .rw[h4]at q;exact⟨M,t,q⟩
 rw[cV h4]at q;refine oK V7.bd.at_ ⟨rfl,_,⟨rfl,rfl⟩,A,V,z,rfl,V7.bd,V7.k,?_⟩;cases e:va V z with
 | none=>rw[e]at q;rw[show zK V z=.mz from by unfold zK;rw[e];rfl];exact⟨M,t,q⟩
 | some j=>
  rw[show zK V z=.int (j:Nat)from by unfold zK;rw[e];rfl];have hj:j<V.calls.length:=(ir.mp e).1;have e2:V.calls[j]?=some V.calls[j]:=cS hj;rw[e]at q;generalize V.calls[j]=k at e2;have q:Q (.bl (((V.calls[j]?).elim false λk=>(k.ms.length==2)&&GC l x k.ms))) M:=q;rw[e2]at q;have hj:j<A.cs.length:=by rw[rd.bd.len];exact hj
  have ek:A.cs[j]?=some A.cs[j]:=cS hj;obtain⟨ad,md,f1,f2,f3,f4,_⟩:=V7.bd.cs j _ k ek e2;refine oK V7.bd.at_ (i' rfl (i' rfl (i' V7.bd.ca (i' (qN ek) (oK f1 (i' rfl ?_))))));refine i' f4 ?_;have el:((((k.ms.map D.str).length:Nat):Int)==2)=(k.ms.length==2):=by rw[cQ,gf,fg,fg];omega
  show if ((((k.ms.map D.str).length:Nat):Int)==2)=true then _ else _
  rw[el];have q:Q (.bl ((k.ms.length==2)&&GC l x k.ms)) M:=q;refine qg (c:=k.ms.length==2) (λh5=>?_) (λh5=>?_)
  .rw[h5,eD]at q;have hm:=rd.ms k (qC e2);refine oK (t _ _ hp) ⟨rfl,_,⟨rfl,rfl⟩,oK V7.bd.at_ (i' rfl ⟨p,x,V.p,l,md,k.ms,rfl,t _ _ hp,V7.pl,f4,hm.2,hx,hm.1,M,t,q⟩)⟩
  .rw[show(k.ms.length==2)=false from dB.mpr h5,eN]at q;exact⟨M,t,q⟩
def K9(G:Gl K mg a):Fq P w K mg base 1 a.q FX:=by
 refine fq G.q.toDG BQ (λr u=>⟨_,(oM (oR uK)),?_⟩)
 rintro ds M Q ⟨x,y,rfl,q⟩
 exact⟨M,.refl,q⟩
def Q6(G:Gl K mg a)(x y:Str)(n:Int):Fq P w K mg base 1 a.av (PC a (.silent x y n)):=by
 refine fq G.av.toDG zk (λr u=>⟨_,(oM (oR (qT (pC u (rN (oP U1) (rW (EF oN)) sE) (qr (pO (oP v0)))) (qS (pC u (oP v0) (oP U1)))))),?_⟩)
 rintro ds M Q ⟨p,L,k,c,rfl,hp,⟨ad,md,h1,h2,h3,h4,_⟩,q⟩
 refine oK h1 (i' rfl (i' h2 λp1 XA=>?_));have t1:=pY.new (c:=.lst (L3.sT (c.way.map D.str) (some (-1:Int)) none)) XA;have l1:oA (oU M p1 (.lst (L3.sT (c.way.map D.str) (some (-1:Int)) none))) p1=some ((c.way.map D.str).drop ((c.way.map D.str).length - 1)):=by rw[oS,J8]
 show zq (oU M p1 (.lst (L3.sT (c.way.map D.str) (some (-1:Int)) none)) p) _;generalize oU M p1 (.lst (L3.sT (c.way.map D.str) (some (-1:Int)) none))=M1 at t1 l1 ⊢;refine oK (t1 _ _ hp) ⟨oG rfl,λp2 VH=>?_⟩;have t2:=pY.new (c:=.lst [D.str x]) VH;have l2:=@oS M1 p2 [D.str x];show Option.elim (CO (oU M1 p2 (.lst [D.str x])) 9 (.ref p1) (.ref p2)) False _;generalize oU M1 p2 (.lst [D.str x])=M2 at t2 l2 ⊢;have s2:=t1.trans t2;refine i' (MP (t2.lst l1) l2) ?_;dsimp only[Gd]at q;refine qg (c:=c.way.getLast?==some x) (λg=>?_) (λg=>?_)
 .rw[g,eD]at q;exact oK (s2 _ _ hp) (oK (s2 _ _ h1) ⟨M,s2,q⟩)
 .rw[show(c.way.getLast?==some x)=false from dB.mpr g,eN]at q;exact⟨M,s2,q⟩
def Rk(G:Gl K mg a):∀C sp,Kx a C sp->w9 P w K mg base 6 "fits" C (MB K sp):=by
 rintro C sp ⟨v,rfl,rfl⟩
 cases v with
 | bar x ns=>exact⟨G.r.toCls,_,_,_,G.aA.mR,K0 G x ns,G.aA.b⟩
 | shut x ns=>exact⟨G.t.toCls,_,_,_,G.aB.mR,LM G x ns,G.aB.b⟩
 | always x y=>exact⟨G.w.toCls,_,_,_,G.aC.mR,Ke G x y,G.aC.b⟩
 | night x y f m=>exact⟨G.n.toCls,_,_,_,G.aD.mR,LB G x y f m,G.aD.b⟩
 | busy x y=>exact⟨G.x.toCls,_,_,_,G.aE.mR,K' G x y,G.aE.b⟩
 | silent x y n=>exact⟨G.u.toCls,_,_,_,G.aF.mR,LR G x y n,G.aF.b⟩
 | wait x=>exact⟨G.v.toCls,_,_,_,G.aG.mR,Ks G x,G.aG.b⟩
 | breaks x=>exact⟨G.o.toCls,_,_,_,G.aH.mR,Mt G x,G.aH.b⟩
def SA(G:Gl K mg a):∀C sp,FY a C sp->w9 P w K mg base 1 "is_due" C (MB K sp):=by
 rintro C sp ⟨v,rfl,rfl⟩
 have F:=K9 (P:=P) (w:=w) (base:=base) G;cases v with
 | silent x y n=>exact⟨G.u.toCls,_,_,_,G.av.mR,Q6 G x y n,G.av.b⟩
 | bar _ _=>exact⟨G.r.toCls,_,_,_,G.ci,F,G.q.b⟩
 | shut _ _=>exact⟨G.t.toCls,_,_,_,G.cj,F,G.q.b⟩
 | always _ _=>exact⟨G.w.toCls,_,_,_,G.ck,F,G.q.b⟩
 | night _ _ _ _=>exact⟨G.n.toCls,_,_,_,G.cl,F,G.q.b⟩
 | busy _ _=>exact⟨G.x.toCls,_,_,_,G.cm,F,G.q.b⟩
 | wait _=>exact⟨G.v.toCls,_,_,_,G.cn,F,G.q.b⟩
 | breaks _=>exact⟨G.o.toCls,_,_,_,G.co,F,G.q.b⟩
def HC{es pre post:List D}{d:D}(e:pre++d::post=tY 0 es):∃x,es[pre.length]?=some x/\d=.tup [.int (pre.length:Nat),x]:=by
 have h:(tY 0 es)[pre.length]?=some d:=by rw[<-e];simp
 rw[yF]at h;cases q:es[pre.length]? with
 | none=>rw[q]at h;cases h
 | some x=>rw[q]at h;refine⟨x,rfl,?_⟩;have:=(de h).symm;rw[lZ]at this;exact this
def uN(n:Nat):∀es:List D,(tY n es).length=es.length:=λes=>by
 have h:∀i:Nat,(tY n es)[i]?=none↔es[i]?=none:=λi=>by rw[yF];cases es[i]?<;>simp
 have a:=(h es.length).mpr (gx (c9 _));have b:=(h (tY n es).length).mp (gx (c9 _));rw[List.getElem?_eq_none_iff]at a b;omega
def HD{l:oW}{V:qb}{f:Wi->Bool}{tt:zN}{ok:Mp->Prop}{Q:DK}{M:Mp}{rest:List (Option D)}(hl:V.on.length=l.mv.length)(h16:l.mv.length<=16)(mE:ok M) (ht:∀(i:Nat) (w:uM),l.mv[i]?=some w->∀(y:Option D) (k:Bool->Mp->Prop),k (f w.2) M->tt (some (.int (i:Nat))::y::rest) M k) (q:∀p,M p=none->Q (.ref p) (oU M p (.lst ((Gp l V f).map λn=>D.int (n:Nat))))):
  uo (Pw 2 (zu (tN 0) (zu (tN 1) F8))) (Ow (b3 (v3 1)) tt) (v3 0) ok Q (tY 0 (V.on.map D.bl)) [] (none::none::rest) M:=by
 have hz:=dI;refine xG (tY 0 (V.on.map D.bl)) (λpre acc δ M'=>M=M'/\acc=((List.range pre.length).filter λi=>V.on.getD i false&&(l.mv[i]?).elim false λw=>f w.2).map (λn=>D.int (n:Nat))/\∃y1 y2,δ=y1::y2::rest) (λ_ _ _ M' j=>by rw[<-j.1];exact mE) _ [] [] _ _ rfl ?_ ⟨rfl,rfl,none,none,rfl⟩ ?_ ?_
 .rw[uN,cQ,hl];simp only[dD];omega
 .rintro pre d post e acc δ M' ⟨rfl,rfl,y1,y2,rfl⟩ k k2 hk XE
  obtain⟨x,hx,rfl⟩:=HC e;rw[cU,dN,jP,im]at hk XE;rw[dw]at hx;cases eo:V.on[pre.length]? with
  | none=>rw[eo]at hx;cases hx
  | some b=>
   rw[eo]at hx;have hx:D.bl b=x:=de hx;subst hx;have hi:pre.length<l.mv.length:=by rw[<-hl];exact(cT.mp eo).1
   have ew:l.mv[pre.length]?=some l.mv[pre.length]:=cS hi;generalize l.mv[pre.length]=w0 at ew;have eg:V.on.getD pre.length false=b:=by rw[gz,eo];rfl
   have no:(b&&f w0.2)=false->k2 (some (.int (pre.length:Nat))::some (.bl b)::rest) M:=λg=>by refine XE _ _ ⟨rfl,?_,_,_,rfl⟩;rw[gj (by rw[eg,ew];show ¬(b&&f w0.2)=true;rw[g];exact df),iJ,eR]
   refine⟨rfl,?_⟩;show if b=true then _ else _
   cases b with
   | false=>exact xJ (no rfl)
   | true=>
    refine Dv (ht _ _ ew _ _ ?_);cases g:f w0.2 with
    | false=>exact xJ (no (by rw[g];rfl))
    | true=>refine Dv (hk _ _ _ ⟨rfl,?_,_,_,rfl⟩);rw[gi (by rw[eg,ew];show(true&&f w0.2)=true;rw[g];rfl),iJ,dM];rfl
 .rintro acc δ M' ⟨rfl,rfl,y1,y2,rfl⟩ p hp
  rw[uN,cQ];exact q p hp
def Av{a:Ad}{M:Mp}{rs:List Addr}{ws:List uM}(h:rR a M rs ws){i:Nat}{w:uM}(e:ws[i]?=some w):∃r,vL (rs.map D.ref) (i:Nat)=some (.ref r)/\M r=some (.ins (w.2.cls a) w.2.nj):=by
 have hi:i<rs.length:=by rw[h.1];exact(cT.mp e).1
 exact⟨rs[i],uz (by rw[dw,cS hi];rfl),h.2 i _ w (cS hi) e⟩
def Ms(ds:List D)(m:Nat):L3.sT ds none (some (m:Int))=ds.take m:=by
 unfold L3.sT;rw[HT.Bo,HT.Hr,iU,kN];by_cases h:m<=ds.length
 .rw[lQ h]
 .rw[Nat.min_eq_right (by omega),fE,gS (by omega)]
def Gw(ds:List D)(m:Nat)(h:m<=ds.length):L3.sT ds (some (m:Int)) none=ds.drop m:=by unfold L3.sT;rw[HT.Bo,HT.Hr,lQ h];exact gS (by rw[fX];exact c9 _)
def tR(l:oW)(V:qb):Prop:=∀z∈l.nm,(l.mD z=="turns")=true->∃v,V.ps.find? (λp=>decide (p.1=z))=some v/\0<=v.2/\v.2<=((l.mj z).length:Int)
def K8{l:oW}{V:qb}(h:tR l V){z:Str}(hz:z∈l.nm)(e:(l.mD z=="turns")=true):uS (sy V.ps) (.inr z)=some (.int (y0 V z:Nat))/\y0 V z<=(l.mj z).length:=by
 obtain⟨v,e1,e2,e3⟩:=h z hz e;have h1:y0 V z=v.2.toNat:=by unfold y0;rw[e1];rfl
 have h2:uS (sy V.ps) (.inr z)=(V.ps.find? λp=>decide (p.1=z)).map λp=>D.int p.2:=xH (λp:Str×Int=>p.1) (λp=>D.int p.2) z V.ps;rw[h2,e1,h1];exact⟨by show some (D.int v.2)=some (.int (v.2.toNat:Nat));rw[Int.toNat_of_nonneg e2],by omega⟩
def Gm(a:Ad):qJ:=λds M Q=>Fs λA V l c z=>ds=[.ref A.b,.str c,.str z]/\Rd a M A V l/\z∈l.nm/\Q (wR (De l V c z)) M
def Pc(a:Ad):qJ:=λds M Q=>Fs λA V l c z=>ds=[.ref A.b,.str c,.str z]/\Rd a M A V l/\z∈l.nm/\tR l V/\Q (names (xo l V c z)) M
def J1(a:Ad):qJ:=λds M Q=>Fs λA V l c z=>ds=[.ref A.b,.str c,.str z]/\Rd a M A V l/\z∈l.nm/\tR l V/\Q (He l V c z).d M
def Jt:qJ:=λds M Q=>Ck λx r z=>ds=[.tup (.str x::r),.str z]/\Q (if (x=="wait")=true then(vn.waits z).d else if (x=="break")=true then(vn.breaks z).d else vn.barred.d) M
noncomputable def qM(st:so):List D:=st.map λs=>.tup [.str s.1,wR s.2]
def Mj(a:Ad):qJ:=λds M Q=>RO λA V l c z r way=>ds=[.ref A.b,.str c,.str z,.ref r]/\Rd a M A V l/\z∈l.nm/\tR l V/\oA M r=some (List.map D.str way)/\way.length<=8000000/\∀q M',pY M M'->M q=none->oA M' q=some (qM (ur l V c z way).2)->Q (.tup [(ur l V c z way).1.d,.ref q]) M'
def EV{l:oW}{V:qb}{f:Wi->Bool}{i:Nat}(h:i∈Gp l V f):∃w,l.mv[i]?=some w/\f w.2=true:=by
 have h:=(fz.mp h).2;rw[dP]at h;cases e:l.mv[i]? with
 | none=>rw[e]at h;cases h.2
 | some w=>rw[e]at h;exact⟨w,rfl,h.2⟩
noncomputable def HS(l:oW)(way:List Str):Nat:=(l.nm.filter λx=>!(hasS way x)).length
def AF{l:oW}{way:List Str}{z:Str}(hz:z∈l.nm)(h:hasS way z=false):HS l (way++[z])<HS l way:=by
 unfold HS;have e:(l.nm.filter λx=>!(hasS (way++[z]) x))=(l.nm.filter λx=>!(hasS way x)).filter λx=>!(x==z):=by rw[List.filter_filter];refine List.filter_congr λx _=>?_;unfold hasS;rw[lP];show(!(way.any (·==x)||((z==x)||false)))=_;rw[jf,Bool.not_or,Bool.and_comm,lT]
 rw[e];refine Nat.lt_of_le_of_ne (gy _ _) λg=>?_;have:=kz.mp (List.Sublist.eq_of_length fU g) z (fz.mpr ⟨hz,by rw[h];rfl⟩);simp at this
def A7{l:oW}(ok:rg l){w:uM}(hw:w∈l.mv){z y:Str}(h:IH z w.2=.inr y):y∈l.nm:=by
 have o:=ok.wo w hw;cases e:w.2 with
 | bar _ _=>rw[e]at h;cases h
 | shut _ _=>rw[e]at h;cases h
 | always x u=>rw[e]at h o;cases h;exact qk.mp o.2.1
 | night x u f m=>rw[e]at h o;cases h;exact qk.mp o.2.1
 | busy x u=>rw[e]at h o;cases h;exact qk.mp o.2.1
 | silent x u n=>rw[e]at h o;cases h;exact qk.mp o.2.1
 | wait _=>rw[e]at h;cases h
 | breaks _=>rw[e]at h;cases h
theorem DR(x:Str):∀ss:List Str,x∈ss->Ab (.str x) (ss.map D.str)=some (ss.findIdx (·==x))
 | [],h=>by cases h
 | y::r,h=>by
  rw[dQ,List.findIdx_cons];unfold Ab;show(if (y==x)=true then some 0 else(Ab (.str x) (r.map D.str)).map (·+1))=_;cases e:y==x with
  | true=>rfl
  | false=>
   rw[cV df];have hr:x∈r:=by
    rcases cZ.mp h with g|g
    .rw[g,eE]at e;cases e
    .exact g
   rw[DR x r hr];rfl
def Gy(G:Gl K mg a):Fq P w K mg base 7 a.aP (Gm a):=by
 refine fq G.aP.toDG Ba (λr u=>⟨_,(oJ (oZ 3 Ba (oP (oP v0)))
 (oM (oR (pR uh rfl G.I ug (pO (qh rfl (xu (ix:=[none,none,some 3,some 0,some 1,some 2]) (N':=["i","on","wishes","board","caller","target"])) (wb rfl G.bU (pO (oP v0))) (uk (n:=2) rfl (pT (qe 0) (pT (qe 1) sD))) (vo (W3.b3 (wK (tT U1) (vZ (tT (Dq (R:=Kx a) (o9 U2 v0) (Rk G) (r.mono (by first|decide|omega)) (qP U3 v4 v5))))))) v0)))))),?_⟩)
 rintro ds M Q ⟨A,V,l,c,z,rfl,rd,hz,q⟩
 obtain⟨ph,gr,ws,W0,pr,gd,rs,i1,i2,i3,i4,i5,i6,i7,i8⟩:=rd.pl;refine oK rd.bd.at_ (i' rfl (oK i1 (i' rfl ?_)));refine oK rd.bd.at_ (i' rfl (i' rd.bd.on ?_));refine HD (rest:=[some (.ref ws),some (.ref A.b),some (.str c),some (.str z)]) rd.on rd.ok.w16 rd.bd.on (λi w0 ew y k hk=>?_) λp hp=>i' oS ⟨M,.new hp,q⟩;obtain⟨r,e1,e2⟩:=Av i8 ew;refine i' i4 (i' e1 (oK e2 ⟨by cases w0.2<;>rfl,_,⟨w0.2,rfl,rfl⟩,r,A,V,l,c,z,rfl,e2,rd,hz,rd.ok.wo w0 (qC ew),hk⟩))
def Ot(G:Gl K mg a):Fq P w K mg base 5 a.aQ (Pc a):=by
 refine fq G.aQ.toDG su (λr u=>⟨_,(oJ (oZ 3 su (pI v0 G.c.toCls G.aJ (zR G) r (rJ U1 U2)))
 (oJ (pq (oV u (pI (oP v0) G.h.toCls G.aI (xc G) r (pO U2)) oO)
 (oM (oR (pR uh rfl G.I ug (pO U3))))
 oX)
 (oJ (oZ 4 su (pI (oP v0) G.h.toCls G.V (tS G) r (pO U2)))
 (oJ (oZ 5 su (yU u (oP v0) U2))
 (oJ (uF (i:=6) su.nd rfl (Or.inl rfl) rfl (xu (ix:=[none,some 3]) (N':=["phone","free"])) (qd (pE (rN v4 (rW v5) sE) (rN v4 sE (rW v5)))) (qe 0) (vo (oV u v0 U1)) v0)
 (oM (oR (pR uh rfl G.I ug (pO (rN v6 sE (rW oN))))))))))),?_⟩)
 rintro ds M Q ⟨A,V,l,c,z,rfl,rd,WD,nx,q⟩
 have hz:=dI;have bd:=rd.bd;have pl:=rd.pl;obtain⟨ph,gr,ws,W0,pr,gd,rs,i1,_⟩:=rd.pl;obtain⟨⟨_,tf,_⟩,_⟩:=rd.ok.of WD;refine oK bd.at_ ⟨rfl,_,⟨rfl,rfl⟩,A,V,l,c,z,rfl,rd,WD,λq1 M1 s1 WC e1=>?_⟩;refine oK (s1 _ _ bd.at_) (i' rfl (oK (s1 _ _ i1) ⟨rfl,_,⟨rfl,rfl⟩,V.p,z,l,rfl,pl.sub s1,?_⟩));unfold xo at q;cases e:l.mD z=="turns" with
 | false=>rw[e]at q;exact wU (c:=!(l.mD z=="turns")) (by rw[e];rfl) (i' e1 ⟨M,s1,q⟩)
 | true=>
  obtain⟨hn,nl⟩:=K8 nx WD e;generalize y0 V z=n at hn nl q;rw[e,cX rfl]at q;refine LI (c:=!(l.mD z=="turns")) (by rw[e];rfl) ?_;refine oK (s1 _ _ bd.at_) (i' rfl (oK (s1 _ _ i1) ⟨rfl,_,⟨rfl,rfl⟩,V.p,z,l,rfl,pl.sub s1,λq2 XZ=>?_⟩));have s2:=s1.trans (pY.new (c:=.lst ((l.mj z).map D.str)) XZ);have c2:=@oS M1 q2 ((l.mj z).map D.str);have e2:=(pY.new (c:=.lst ((l.mj z).map D.str)) XZ).lst e1;generalize oU M1 q2 (.lst ((l.mj z).map D.str))=M2 at s2 c2 e2 ⊢;refine oK (s2 _ _ bd.at_) (i' rfl (i' rfl (i' (s2.dk bd.nx) (i' hn ?_))));refine i' c2 λq3 hq3=>?_;rw[Gw _ n (by rw[cQ];exact nl),<-ko];have t3:=pY.new (c:=.lst (((l.mj z).drop n).map D.str)) hq3;have c3':=@oS M2 q3 (((l.mj z).drop n).map D.str);generalize oU M2 q3 (.lst (((l.mj z).drop n).map D.str))=M3 at t3 c3' ⊢;refine i' (t3.lst c2) λq4 hq4=>?_;rw[Ms,<-lU];have t4:=pY.new (c:=.lst (((l.mj z).take n).map D.str)) hq4;have c4:=@oS M3 q4 (((l.mj z).take n).map D.str);generalize oU M3 q4 (.lst (((l.mj z).take n).map D.str))=M4 at t4 c4 ⊢;refine i' (t4.lst c3') (i' c4 ?_);refine⟨by rw[cQ,cQ,fX,fD];omega,λq5 hq5=>i' oS ?_⟩;rw[<-dM];have t5:=pY.new (c:=.lst ((uu (l.mj z) n).map D.str)) hq5;have c5:=@oS M4 q5 ((uu (l.mj z) n).map D.str);show uo _ _ _ _ _ ((uu (l.mj z) n).map D.str) _ _ (oU M4 q5 (.lst ((uu (l.mj z) n).map D.str)));generalize oU M4 q5 (.lst ((uu (l.mj z) n).map D.str))=M5 at t5 c5 ⊢;have s5:=t3.trans (t4.trans t5);have e5:=s5.lst e2;have tl:(uu (l.mj z) n).length<=200:=by unfold uu;rw[cU,fX,fD];omega
  refine sH (f:=id) (t:=λd=>inD d ((tU l V c z).map D.str)) c5 _ [] _ (by rw[cQ];simp only[dD];omega) (λd hd k hk=>?_) (λd hd _ k hk=>?_) λq6 hq6=>?_
  .obtain⟨x,hx,rfl⟩:=dv.mp hd;exact i' e5 ⟨rfl,pG _,hk⟩
  .obtain⟨x,hx,rfl⟩:=dv.mp hd;exact hk
  .have ef:[]++(List.filter (λd=>inD d ((tU l V c z).map D.str)) ((uu (l.mj z) n).map D.str)).map id=((uu (l.mj z) n).filter λx=>hasS (tU l V c z) x).map D.str:=by
    rw[dS,iW,gP];have:((λd=>inD d ((tU l V c z).map D.str))∘D.str)=λx=>hasS (tU l V c z) x:=by funext x;exact qO _ _
    rw[this]
   rw[ef];refine i' oS λq7 hq7=>i' oS ?_;rw[show L3.sT (((uu (l.mj z) n).filter λx=>hasS (tU l V c z) x).map D.str) none (some (1:Int))=(((uu (l.mj z) n).filter λx=>hasS (tU l V c z) x).take 1).map D.str from(Ms _ 1).trans (lU).symm];exact⟨M,s2.trans (s5.trans ((pY.new hq6).trans (.new hq7))),q⟩
def Mo(G:Gl K mg a):Fq P w K mg base 6 a.aR (J1 a):=by
 refine fq G.aR.toDG uw (λr u=>⟨_,(oJ (oZ 3 uw (oY (Ot G) r G.aQ (qP v0 U1 U2)))
 (oJ (pq (oV u (pB pU rfl G.g pQ (pO U3)) oN)
 (oM (oR (pk (rJ oO U2))))
 oX)
 (oM (oR (pk (qP oO U2 U3)))))),?_⟩)
 rintro ds M Q ⟨A,V,l,c,z,rfl,rd,hz,nx,q⟩
 refine⟨A,V,l,c,z,rfl,rd,hz,nx,?_⟩;unfold He at q;cases e:xo l V c z with
 | nil=>rw[e]at q;exact⟨oG rfl,M,.refl,q⟩
 | cons x r=>rw[e]at q;exact⟨oG rfl,M,.refl,q⟩
def IM(G:Gl K mg a):Fq P w K mg base 1 a.aS Jt:=by
 refine fq G.aS.toDG zm (λr u=>⟨_,(oJ (pq (oV u (o9 v0 oN) oO)
 (oM (oR (pk (rJ oO U1))))
 oX)
 (oJ (pq (oV u (o9 v0 oN) oO)
 (oM (oR (pk (rJ oO U1))))
 oX)
 (oM (oR (pk (pO oO)))))),?_⟩)
 rintro ds M Q ⟨x,r,z,rfl,q⟩
 refine i' (yT _ _) (qg (c:=x=="wait") (λg=>?_) (λg=>?_))
 .rw[cX g]at q;exact⟨oG rfl,M,.refl,q⟩
 rw[cV g]at q;refine i' (yT _ _) (qg (c:=x=="break") (λg=>?_) (λg=>?_))
 .rw[cX g]at q;exact⟨oG rfl,M,.refl,q⟩
 rw[cV g]at q;exact⟨oG rfl,M,.refl,q⟩
def Li(G:Gl K mg a):Fq P w K mg base 8 a.aT (Mj a):=by
 refine fq G.aT.toDG vE (λr u=>⟨_,(oJ (oZ 4 vE (pR sY rfl G.y sZ (pO U3)))
 (oJ (oZ 5 vE (qr rO))
 (oJ (L5 eU (oV u U2 v4)
 (oJ (pf (rk v4 (pO U2)))
 (oJ (oZ 6 vE (oY (Gy G) r G.aP (qP v0 U1 U2)))
 (oJ (pf (rk v5 (pO (pk (rJ U2 v6)))))
 (oJ (pq (oV u (pB pU rfl G.g pQ (pO v6)) oN)
 (oM (oR (pk (rJ (oY (Mo G) r G.aR (qP v0 U1 U2)) v5))))
 oX)
 (oJ (oZ 7 vE (Bg (R:=Iu a) (o9 (oP (oP v0)) (o9 v6 oN)) (NG G) (r.mono (by first|decide|omega))))
 (oJ (pq (oV u (o9 v7 oN) oO)
 (oM (oR (pk (rJ (oY (IM G) r G.aS (rJ v7 U2)) v5))))
 oX)
 (oM (oZ 2 vE (o9 v7 oN))))))))))
 (oM (oR (pk (rJ (pk (rJ oO (pR uh rfl G.I ug (pO (rN v4 (rW (wW v4 (pO U2))) sE))))) v5))))))),?_⟩)
 rintro ds M Q ⟨A,V,l,c,z0,r,WT,rfl,rd,hz0,nx,YM,hw0,q⟩
 have hz:=dI;have p8:=rd.ok.p8;have g3:=rd.ok.g3;have nl:l.nm.length<=11:=by unfold oW.nm oW.pn oW.gn;rw[cU,cQ,cQ];omega
 refine i' YM λp1 XA=>⟨oG rfl,λp2 VH=>?_⟩;have t1:=pY.new (c:=.lst (WT.map D.str)) XA;have t2:=pY.new (c:=.lst []) VH;have c1:oA (oU (oU M p1 (.lst (WT.map D.str))) p2 (.lst [])) p1=some (WT.map D.str):=t2.lst oS;have c2:=@oS (oU M p1 (.lst (WT.map D.str))) p2 [];have n12:p2≠p1:=λy=>by rw[y,pA]at VH;cases VH
 have m2:M p2=none:=t1.none VH;have s2:=t1.trans t2;generalize oU (oU M p1 (.lst (WT.map D.str))) p2 (.lst [])=M2 at c1 c2 s2 ⊢;refine⟨λm δ M'=>∃z way st,pY M M'/\oA M' p1=some (List.map D.str way)/\oA M' p2=some (qM st)/\z∈l.nm/\HS l way<m/\way.length+m<=8000012/\st.length+m<=100/\vW l V c m z way st=ur l V c z0 WT/\∃y6 y7,δ=[some (.ref A.b),some (.str c),some (.str z),some (.ref r),some (.ref p1),some (.ref p2),y6,y7],⟨l.nm.length+1,z0,WT,[],s2,c1,c2,hz0,Nat.lt_succ_of_le (gy _ _),by omega,by show 0+(l.nm.length+1)<=100;omega,rfl,none,none,rfl⟩,?_⟩
 rintro m δ M' ⟨z,way,st,sM,l1,l2,WD,VL,hwl,XU,er,y6,y7,rfl⟩
 obtain⟨m,rfl⟩:∃k,m=k+1:=⟨m - 1,by omega⟩;have q2:∀Vz,pY M Vz->oA Vz p2=some (qM (vW l V c (m+1) z way st).2)->Q (.tup [(vW l V c (m+1) z way st).1.d,.ref p2]) Vz:=λVz s ll=>by rw[er]at ll ⊢;exact q p2 Vz s m2 ll
 clear q;unfold vW at er q2;refine i' l1 ⟨rfl,pG way,?_⟩;show if (!(inD (.str z) (way.map D.str)))=true then _ else _
 rw[qO];refine qg (c:=!(hasS way z)) (λh1=>?_) (λh1=>?_)
 rotate_left
 .
  have h1:hasS way z=true:=by simpa using h1
  rw[cX h1]at q2;refine⟨by show(oA M' p1).isSome=true;rw[l1];rfl,i' l1 ⟨rfl,pG _,i' (DR z way (qk.mp h1)) (i' l1 λp3 V8=>?_)⟩⟩;have YI:way.findIdx (·==z)<=(way.map D.str).length:=by rw[cQ];exact List.findIdx_le_length
  rw[Gw _ _ YI,<-ko];refine i' oS ⟨oG rfl,oG rfl,_,.refl,q2 _ (sM.trans (.new V8)) ((pY.new V8).lst l2)⟩
 have h1:hasS way z=false:=by simpa using h1
 rw[h1,cV df]at er q2;refine⟨by show(oA M' p1).isSome=true;rw[l1];rfl,i' l1 ⟨by rw[cQ];omega,?_⟩⟩;have k3:rM p1 M' (oU M' p1 (.lst (way.map D.str++[D.str z]))):=.put;have s3:pY M (oU M' p1 (.lst (way.map D.str++[D.str z]))):=λx d hx=>by rw[tI (PJ hx XA)];exact sM x d hx
 have c3:=k3.lst n12 l2;have l3:oA (oU M' p1 (.lst (way.map D.str++[D.str z]))) p1=some ((way++[z]).map D.str):=by rw[oS,dM];rfl
 generalize oU M' p1 (.lst (way.map D.str++[D.str z]))=M3 at s3 c3 l3 ⊢;refine⟨A,V,l,c,z,rfl,rd.sub s3,WD,?_⟩;generalize hf:De l V c z=fs at er q2 ⊢;refine⟨by show(oA M3 p2).isSome=true;rw[c3];rfl,oG rfl,i' c3 ⟨by unfold qM;rw[cQ];omega,?_⟩⟩;have es:qM st++[.tup [.str z,wR fs]]=qM (st++[(z,fs)]):=by unfold qM;rw[dM];rfl
 rw[es];have s4:pY M (oU M3 p2 (.lst (qM (st++[(z,fs)])))):=λx d hx=>by rw[tI (PJ hx m2)];exact s3 x d hx
 have c4:=@oS M3 p2 (qM (st++[(z,fs)]));have l4:oA (oU M3 p2 (.lst (qM (st++[(z,fs)])))) p1=some ((way++[z]).map D.str):=rM.lst .put (dG n12) l3;generalize oU M3 p2 (.lst (qM (st++[(z,fs)])))=M4 at s4 c4 l4 ⊢;cases fs with
 | nil=>exact⟨A,V,l,c,z,rfl,rd.sub s4,WD,nx,oG rfl,M4,.refl,q2 M4 s4 c4⟩
 | cons i fr=>
  obtain⟨w0,ew,_⟩:=EV (l:=l) (V:=V) (f:=Ap l V c z) (i:=i) (by show i∈De l V c z;rw[hf];exact dH);dsimp only at er q2;rw[ew]at er q2;dsimp only[Option.elim]at er q2;obtain⟨ph,gr,ws,W0,pr,gd,rs,i1,i2,i3,i4,i5,i6,i7,i8⟩:=(rd.sub s4).pl;obtain⟨Yg,e1,e2⟩:=Av i8 ew;have hwo:=rd.ok.wo w0 (qC ew);have Yh:∀y,IH z w0.2=.inr y->y∈l.nm:=λy h=>A7 rd.ok (qC ew) h;refine oK (s4 _ _ rd.bd.at_) (i' rfl (oK i1 (i' rfl (i' (yT _ _) (i' i4 (i' e1 ?_))))));cases hv:w0.2 with
  | bar x ns=>rw[hv]at q2 e2;exact oK e2 ⟨rfl,_,.inl ⟨.inl rfl,rfl⟩,Yg,rfl,⟨"end",[],z,rfl,oG rfl,M4,.refl,q2 M4 s4 c4⟩⟩
  | shut x ns=>rw[hv]at q2 e2;exact oK e2 ⟨rfl,_,.inl ⟨.inr rfl,rfl⟩,Yg,rfl,⟨"end",[],z,rfl,oG rfl,M4,.refl,q2 M4 s4 c4⟩⟩
  | wait x=>rw[hv]at q2 e2;exact oK e2 ⟨rfl,_,.inr (.inr (.inl ⟨rfl,rfl⟩)),Yg,_,_,_,rfl,e2,rfl,⟨"wait",_,z,rfl,oG rfl,M4,.refl,q2 M4 s4 c4⟩⟩
  | breaks x=>rw[hv]at q2 e2;exact oK e2 ⟨rfl,_,.inr (.inr (.inr ⟨rfl,rfl⟩)),Yg,rfl,⟨"break",_,z,rfl,oG rfl,M4,.refl,q2 M4 s4 c4⟩⟩
  | always x y=>rw[hv]at er e2 Yh;exact oK e2 ⟨rfl,_,.inr (.inl ⟨.inl rfl,rfl⟩),Yg,_,_,_,rfl,e2,rfl,⟨m,fu _,y,way++[z],st++[(z,i::fr)],s4,l4,c4,Yh y rfl,by have:=AF WD h1;omega,by rw[cU];show way.length+1+m<=_;omega,by rw[cU];show st.length+1+m<=_;omega,er,_,_,rfl⟩⟩
  | night x y f mm=>rw[hv]at er e2 Yh;exact oK e2 ⟨rfl,_,.inr (.inl ⟨.inr (.inl rfl),rfl⟩),Yg,_,_,_,rfl,e2,rfl,⟨m,fu _,y,way++[z],st++[(z,i::fr)],s4,l4,c4,Yh y rfl,by have:=AF WD h1;omega,by rw[cU];show way.length+1+m<=_;omega,by rw[cU];show st.length+1+m<=_;omega,er,_,_,rfl⟩⟩
  | busy x y=>rw[hv]at er e2 Yh;exact oK e2 ⟨rfl,_,.inr (.inl ⟨.inr (.inr (.inl rfl)),rfl⟩),Yg,_,_,_,rfl,e2,rfl,⟨m,fu _,y,way++[z],st++[(z,i::fr)],s4,l4,c4,Yh y rfl,by have:=AF WD h1;omega,by rw[cU];show way.length+1+m<=_;omega,by rw[cU];show st.length+1+m<=_;omega,er,_,_,rfl⟩⟩
  | silent x y n=>rw[hv]at er e2 Yh;exact oK e2 ⟨rfl,_,.inr (.inl ⟨.inr (.inr (.inr rfl)),rfl⟩),Yg,_,_,_,rfl,e2,rfl,⟨m,fu _,y,way++[z],st++[(z,i::fr)],s4,l4,c4,Yh y rfl,by have:=AF WD h1;omega,by rw[cU];show way.length+1+m<=_;omega,by rw[cU];show st.length+1+m<=_;omega,er,_,_,rfl⟩⟩
noncomputable def x9(V:qb)(i:Nat)(c:oQ):qb:={V with calls:=V.calls.set i c}
def rG(V:qb)(i:Nat)(c d:oQ):x9 (x9 V i c) i d=x9 V i d:=by unfold x9;rw[iI]
structure CI(a:Ad)(M:Mp)(A:sQ)(V:qb)(i:Nat)(k:qQ)(c:oQ):Prop where
 bd:pb a M A V
 e1:A.cs[i]?=some k
 e2:V.calls[i]?=some c
noncomputable def cF(x:Str)(wy ad md:Addr)(k:Nat):List (Str×D):=List.take (α:=Str×D) k [("state",.str "rings"),("caller",.str x),("way",.ref wy),("at",.ref ad),("members",.ref md),("holder",.mz),("since",.int 0)]
variable {M':Mp}{i:Nat}{k:qQ}
section
variable {c:oQ}
def CI.cell(h:CI a M A V i k c):rh a M (A.lists++V.fo) k c:=h.bd.cs i k c h.e1 h.e2
def CI.sub(h:CI a M A V i k c)(s:pY M M'):CI a M' A V i k c:=⟨h.bd.sub s,h.e1,h.e2⟩
def CI.put(h:CI a M A V i k c)(c':oQ){ad md:Addr}(ew:c'.way=c.way)(la:oA M ad=some (c'.at_.map D.str))(lm:oA M md=some (c'.ms.map D.str))(na:ad∉A.lists++V.fo)(nm:md∉A.lists++V.fo):
  CI a (oU M k.p (.ins a.e (qL c' k.wy ad md))) A (x9 V i c') i k c'/\qz A M A (oU M k.p (.ins a.e (qL c' k.wy ad md))):=by
 obtain⟨b,s⟩:=h.bd.nO h.e1 h.e2 ew la lm na nm;refine⟨⟨b,h.e1,?_⟩,s⟩;show(V.calls.set i c')[i]?=some c';rw[eF (cT.mp h.e2).1]
end
inductive Po(i:Nat)(c:oQ):Ev->oQ->Prop
 | rings (ps:List Str):Po i c (.rings i ps) (c.ring ps)
 | quiet:Po i c (.quiet i) c.nq
 | waits (x:Str):Po i c (.waits i x) (c.wait x)
 | talks (ms:List Str):Po i c (.talks i ms) (c.m9 ms)
 | held (x:Str):Po i c (.held i x) (c.hold x)
 | leaves (x:Str):Po i c (.leaves i x) (c.drop x)
 | over (w:Str):Po i c (.over i w) (c.over w)
def Fv(a:Ad):qJ:=λds M Q=>Ay λp x=>ds=[.ref p,.str x]/\M p=some (.ins a.e [])/\∀M' wy ad md,rM p M M'->M wy=none->M ad=none->M md=none->ad≠wy->md≠wy->M' p=some (.ins a.e (qL (yt x) wy ad md))->oA M' wy=some []->oA M' ad=some []->oA M' md=some []->Q .mz M'
def ML(a:Ad):qJ:=λds M Q=>JM λA V i k c w=>ds=[.ref k.p,.str w]/\CI a M A V i k c/\∀M',qz A M A M'->pb a M' A (x9 V i (c.over w))->Q .mz M'
def KR(a:Ad):qJ:=λds M Q=>JM λA V i k c x=>ds=[.ref k.p,.str x]/\CI a M A V i k c/\c.at_.length<=100/\c.ms.length<=100/\∀M',qz A M A M'->pb a M' A (x9 V i (c.drop x))->Q .mz M'
def Jd(a:Ad):qJ:=λds M Q=>RO λA V i k c e c'=>ds=[.ref k.p,Ev.d e]/\CI a M A V i k c/\c.at_.length<=100/\c.ms.length<=100/\Po i c e c'/\∀M',qz A M A M'->pb a M' A (x9 V i c')->Q .mz M'
def Ov(G:Gl K mg a):Fq P w K mg base 1 a.ap (Fv a):=by
 refine fq G.ap.toDG DB (λr u=>⟨_,(oJ (pK v0 oO)
 (oJ (pK v0 U1)
 (oJ (pK v0 (qr rO))
 (oJ (pK v0 (qr rO))
 (oJ (pK v0 (qr rO))
 (oJ (pK v0 qU)
 (oJ (pK v0 oN)
 (oM (pK v0 qU))))))))),?_⟩)
 rintro ds M Q ⟨p,x,rfl,hb,q⟩
 refine oK hb ⟨(G.j "state" rfl),by show 0<1000;decide,?_⟩;have k1:rM p M (oU M p (.ins a.e [("state",.str "rings")])):=.put;have b1:oU M p (.ins a.e [("state",.str "rings")]) p=some (.ins a.e [("state",.str "rings")]):=pA;show tW _ _ _ _ (oU M p (.ins a.e [("state",.str "rings")]));generalize oU M p (.ins a.e [("state",.str "rings")])=N1 at k1 b1 ⊢;refine oK b1 ⟨(G.j "caller" rfl),by show 1<1000;decide,?_⟩;have k2:=k1.trans (rM.put (p:=p) (c:=.ins a.e [("state",.str "rings"),("caller",.str x)]));have b2:oU N1 p (.ins a.e [("state",.str "rings"),("caller",.str x)]) p=some (.ins a.e [("state",.str "rings"),("caller",.str x)]):=pA;show tW _ _ _ _ (oU N1 p (.ins a.e [("state",.str "rings"),("caller",.str x)]));generalize oU N1 p (.ins a.e [("state",.str "rings"),("caller",.str x)])=N2 at k2 b2 ⊢;refine⟨oG rfl,λwy hwy=>?_⟩;obtain⟨n3,e3,k3,c3,b3⟩:=sd (fs':=(cF x wy 0 0 3)) (c:=.lst []) b2 hwy;refine oK e3 ⟨(G.j "way" rfl),by show 2<1000;decide,?_⟩;show tW _ _ _ _ (oU (oU N2 wy (.lst [])) p (.ins a.e (cF x wy 0 0 3)));generalize oU (oU N2 wy (.lst [])) p (.ins a.e (cF x wy 0 0 3))=N3 at k3 c3 b3 ⊢;have z1:M wy=none:=qX k2 b2 hwy;have kk3:=k2.trans k3;have l3:oA N3 wy=some []:=rY c3;refine⟨oG rfl,λad XY=>?_⟩;obtain⟨n4,e4,k4,c4,b4⟩:=sd (fs':=(cF x wy ad 0 4)) (c:=.lst []) b3 XY;refine oK e4 ⟨(G.j "at" rfl),by show 3<1000;decide,?_⟩;show tW _ _ _ _ (oU (oU N3 ad (.lst [])) p (.ins a.e (cF x wy ad 0 4)));generalize oU (oU N3 ad (.lst [])) p (.ins a.e (cF x wy ad 0 4))=N4 at k4 c4 b4 ⊢;have z2:M ad=none:=qX kk3 b3 XY;have XB:=kk3.trans k4;have naw:ad≠wy:=λz=>by rw[z,c3]at XY;cases XY
 have l4:=k4.lst (pD l3 b3) l3;have m4:oA N4 ad=some []:=rY c4;refine⟨oG rfl,λmd hmd=>?_⟩;obtain⟨n5,e5,k5,c5,b5⟩:=sd (fs':=(cF x wy ad md 5)) (c:=.lst []) b4 hmd;refine oK e5 ⟨(G.j "members" rfl),by show 4<1000;decide,?_⟩;show tW _ _ _ _ (oU (oU N4 md (.lst [])) p (.ins a.e (cF x wy ad md 5)));generalize oU (oU N4 md (.lst [])) p (.ins a.e (cF x wy ad md 5))=N5 at k5 c5 b5 ⊢;have z3:M md=none:=qX XB b4 hmd;have XC:=XB.trans k5;have nmw:md≠wy:=λz=>by rw[z,pS l4]at hmd;cases hmd
 have l5:=k5.lst (pD l4 b4) l4;have m5:=k5.lst (pD m4 b4) m4;have o5:oA N5 md=some []:=rY c5;refine oK b5 ⟨(G.j "holder" rfl),by show 5<1000;decide,?_⟩;have k6:rM p N5 (oU N5 p (.ins a.e (cF x wy ad md 6))):=.put;have b6:oU N5 p (.ins a.e (cF x wy ad md 6)) p=some (.ins a.e (cF x wy ad md 6)):=pA;show tW _ _ _ _ (oU N5 p (.ins a.e (cF x wy ad md 6)));generalize oU N5 p (.ins a.e (cF x wy ad md 6))=N6 at k6 b6 ⊢;refine oK b6 ⟨(G.j "since" rfl),by show 6<1000;decide,?_⟩;have k7:=k6.trans (rM.put (p:=p) (c:=.ins a.e (cF x wy ad md 7)));have b7:oU N6 p (.ins a.e (cF x wy ad md 7)) p=some (.ins a.e (cF x wy ad md 7)):=pA;rw[show vq "since" (.int 0) (cF x wy ad md 6)=(cF x wy ad md 7)from rfl];generalize oU N6 p (.ins a.e (cF x wy ad md 7))=N7 at k7 b7 ⊢;refine oK b7 ⟨(G.j "word" rfl),by show 7<1000;decide,_,.refl,?_⟩;have k8:=k7.trans (rM.put (p:=p) (c:=.ins a.e (qL (yt x) wy ad md)));exact q _ wy ad md (XC.trans k8) z1 z2 z3 naw nmw pA (k8.lst (pD l5 b5) l5) (k8.lst (pD m5 b5) m5) (k8.lst (pD o5 b5) o5)
def HI(G:Gl K mg a):Fq P w K mg base 1 a.ab (ML a):=by
 refine fq G.ab.toDG Ff (λr u=>⟨_,(oJ (pK v0 oO)
 (oJ (pK v0 U1)
 (oJ (pK v0 (qr rO))
 (oJ (pK v0 (qr rO))
 (oM (pK v0 qU)))))),?_⟩)
 rintro ds M Q ⟨A,V,i,k,c,w0,rfl,h,q⟩
 obtain⟨ad,md,h1,h2,h3,h4,n1,n2⟩:=h.cell;refine oK h1 ⟨(G.j "state" rfl),by show 8<1000;decide,?_⟩;obtain⟨g1,s1⟩:=h.put {c with st:="over"} rfl h3 h4 n1 n2;show tW _ _ _ _ (oU M k.p (.ins a.e (qL {c with st:="over"} k.wy ad md)));generalize oU M k.p (.ins a.e (qL {c with st:="over"} k.wy ad md))=M1 at g1 s1 ⊢;clear h1 h2 h3 h4 n1 n2;obtain⟨ad,md,h1,h2,h3,h4,n1,n2⟩:=g1.cell;refine oK h1 ⟨(G.j "word" rfl),by show 8<1000;decide,?_⟩;obtain⟨g2,s2⟩:=g1.put {c with st:="over",wd:=some w0} rfl h3 h4 n1 n2;show tW _ _ _ _ (oU M1 k.p (.ins a.e (qL {c with st:="over",wd:=some w0} k.wy ad md)));generalize oU M1 k.p (.ins a.e (qL {c with st:="over",wd:=some w0} k.wy ad md))=M2 at g2 s2 ⊢;clear h1 h2 h3 h4 n1 n2;refine⟨oG rfl,λp hp=>?_⟩;have t3:=pY.new (c:=.lst []) hp;have lp:=@oS M2 p [];have np:=g2.bd.mT hp;have X1:=g2.sub t3;have s2':=s2.trans (.sub t3);generalize oU M2 p (.lst [])=M2' at t3 lp X1 s2' ⊢;obtain⟨ad,md,h1,h2,h3,h4,n1,n2⟩:=X1.cell;refine oK h1 ⟨(G.j "at" rfl),by show 8<1000;decide,?_⟩;obtain⟨g3,s3⟩:=X1.put {c with st:="over",wd:=some w0,at_:=[]} rfl lp h4 np n2;show tW _ _ _ _ (oU M2' k.p (.ins a.e (qL {c with st:="over",wd:=some w0,at_:=[]} k.wy p md)));generalize oU M2' k.p (.ins a.e (qL {c with st:="over",wd:=some w0,at_:=[]} k.wy p md))=M3 at g3 s3 ⊢;clear h1 h2 h3 h4 n1 n2 lp t3 np g2 X1;refine⟨oG rfl,λp2 VH=>?_⟩;have t4:=pY.new (c:=.lst []) VH;have lp:=@oS M3 p2 [];have np:=g3.bd.mT VH;have Yi:=g3.sub t4;have s3':=s3.trans (.sub t4);generalize oU M3 p2 (.lst [])=M3' at t4 lp Yi s3' ⊢;obtain⟨ad,md,h1,h2,h3,h4,n1,n2⟩:=Yi.cell;refine oK h1 ⟨(G.j "members" rfl),by show 8<1000;decide,?_⟩;obtain⟨g4,s4⟩:=Yi.put {c with st:="over",wd:=some w0,at_:=[],ms:=[]} rfl h3 lp n1 np;rw[show vq "members" (.ref p2) (qL {c with st:="over",wd:=some w0,at_:=[]} k.wy ad md)=qL {c with st:="over",wd:=some w0,at_:=[],ms:=[]} k.wy ad p2 from rfl];generalize oU M3' k.p (.ins a.e (qL {c with st:="over",wd:=some w0,at_:=[],ms:=[]} k.wy ad p2))=M4 at g4 s4 ⊢;clear h1 h2 h3 h4 n1 n2 lp t4 np g3 Yi;obtain⟨ad,md,h1,h2,h3,h4,n1,n2⟩:=g4.cell;refine oK h1 ⟨(G.j "holder" rfl),by show 8<1000;decide,_,.refl,?_⟩;obtain⟨g5,s5⟩:=g4.put (c.over w0) rfl h3 h4 n1 n2;refine q _ ((s1.trans s2').trans (s3'.trans (s4.trans s5))) ?_;have:=g5.bd;rw[rG,rG,rG,rG]at this;exact this
def Mu(G:Gl K mg a):Fq P w K mg base 1 a.ba (KR a):=by
 refine fq G.ba.toDG Cy (λr u=>⟨_,(oJ (pK v0 (qh rfl (xu (ix:=[none,some 1]) (N':=["other","phone"])) (qd (oP v0)) (qe 0) (vo (oV u v0 U1)) v0))
 (oM (pK v0 (qh rfl (xu (ix:=[none,some 1]) (N':=["other","phone"])) (qd (oP v0)) (qe 0) (vo (oV u v0 U1)) v0)))),?_⟩)
 rintro ds M Q ⟨A,V,i,k,c,x,rfl,h,la,lm,q⟩
 have hz:=dI;obtain⟨ad,md,h1,h2,h3,h4,n1,n2⟩:=h.cell;refine oK h1 (i' rfl (i' h3 (sH (f:=id) (t:=OT x) h3 _ [] _ (by rw[cQ];simp only[dD];omega) (λd hd k0 hk=>?_) (λd hd _ k0 hk=>?_) λp hp=>?_)))
 .obtain⟨y,hy,rfl⟩:=dv.mp hd;exact hk
 .obtain⟨y,hy,rfl⟩:=dv.mp hd;exact hk
 rw[AH];have t1:=pY.new (c:=.lst ((rb c.at_ x).map D.str)) hp;have lp:=@oS M p ((rb c.at_ x).map D.str);have np:=h.bd.mT hp;have h':=h.sub t1;have s1:qz A M A (oU M p (.lst ((rb c.at_ x).map D.str))):=.sub t1;generalize oU M p (.lst ((rb c.at_ x).map D.str))=M1 at t1 lp h' s1 ⊢;clear h1 h2 h3 h4 n1 n2;obtain⟨ad,md,h1,h2,h3,h4,n1,n2⟩:=h'.cell;refine oK h1 ⟨(G.j "at" rfl),by show 8<1000;decide,?_⟩;obtain⟨g2,s2⟩:=h'.put {c with at_:=rb c.at_ x} rfl lp h4 np n2;rw[show vq "at" (.ref p) (qL c k.wy ad md)=qL {c with at_:=rb c.at_ x} k.wy p md from rfl];generalize oU M1 k.p (.ins a.e (qL {c with at_:=rb c.at_ x} k.wy p md))=M2 at g2 s2 ⊢;clear h1 h2 h3 h4 n1 n2 lp np;obtain⟨ad,md,h1,h2,h3,h4,n1,n2⟩:=g2.cell;refine oK h1 (i' rfl (i' h4 (sH (f:=id) (t:=OT x) h4 _ [] _ (by rw[cQ];simp only[dD];show 0+c.ms.length<=sizeLine;omega) (λd hd k0 hk=>?_) (λd hd _ k0 hk=>?_) λp2 VH=>?_)))
 .obtain⟨y,hy,rfl⟩:=dv.mp hd;exact hk
 .obtain⟨y,hy,rfl⟩:=dv.mp hd;exact hk
 rw[AH];have t3:=pY.new (c:=.lst ((rb c.ms x).map D.str)) VH;have lp:=@oS M2 p2 ((rb c.ms x).map D.str);have np:=g2.bd.mT VH;have X1:=g2.sub t3;have s3:qz A M2 A (oU M2 p2 (.lst ((rb c.ms x).map D.str))):=.sub t3;generalize oU M2 p2 (.lst ((rb c.ms x).map D.str))=M3 at t3 lp X1 s3 ⊢;clear h1 h2 h3 h4 n1 n2;obtain⟨ad,md,h1,h2,h3,h4,n1,n2⟩:=X1.cell;refine oK h1 ⟨(G.j "members" rfl),by show 8<1000;decide,_,.refl,?_⟩;obtain⟨g4,s4⟩:=X1.put (c.drop x) rfl h3 lp n1 np;refine q _ ((s1.trans s2).trans (s3.trans s4)) ?_;have:=g4.bd;rw[rG]at this;exact this
def IU(G:Gl K mg a):Fq P w K mg base 2 a.bb (Jd a):=by
 refine fq G.bb.toDG xj (λr u=>⟨_,(oJ (oZ 2 xj (o9 U1 oN))
 (oM (pq (oV u U2 oO)
 (oJ (pK v0 oO)
 (oJ (pK v0 (pR sY rfl G.y sZ (pO (o9 U1 oN))))
 (oM (pK v0 oN))))
 (oM (pq (oV u U2 oO)
 (oM (pK v0 (qr rO)))
 (oM (pq (oV u U2 oO)
 (oJ (pK v0 oO)
 (oM (pK v0 (qr (pO (o9 U1 oN))))))
 (oM (pq (oV u U2 oO)
 (oJ (pK v0 oO)
 (oJ (pK v0 (pR sY rfl G.y sZ (pO (o9 U1 oN))))
 (oJ (pK v0 (qr rO))
 (oM (pK v0 qU)))))
 (oM (pq (oV u U2 oO)
 (oJ (pK v0 oO)
 (oM (pK v0 (o9 U1 oN))))
 (oM (pq (oV u U2 oO)
 (oM (pf (oY (Mu G) r G.ba (rJ v0 (o9 U1 oN)))))
 (oM (pq (oV u U2 oO)
 (oM (pf (oY (HI G) r G.ab (rJ v0 (o9 U1 oN)))))
 oX))))))))))))))),?_⟩)
 rintro ds M Q ⟨A,V,i,k,c,e,c',rfl,h,la,lm,hc,q⟩
 cases hc with
 | over w0=>exact⟨A,V,i,k,c,w0,rfl,h,λM' s b=>⟨M',.refl,q M' s b⟩⟩
 | leaves x=>exact⟨A,V,i,k,c,x,rfl,h,la,lm,λM' s b=>⟨M',.refl,q M' s b⟩⟩
 | quiet=>refine⟨oG rfl,λp hp=>?_⟩;have t3:=pY.new (c:=.lst []) hp;have lp:=@oS M p [];have np:=h.bd.mT hp;have g1:=h.sub t3;generalize oU M p (.lst [])=M1 at t3 lp g1 ⊢;obtain⟨ad,md,h1,h2,h3,h4,n1,n2⟩:=g1.cell;refine oK h1 ⟨(G.j "at" rfl),by show 8<1000;decide,_,.refl,?_⟩;obtain⟨g5,s5⟩:=g1.put c.nq rfl lp h4 np n2;exact q _ ((qz.sub t3).trans s5) g5.bd
 | waits x=>obtain⟨ad,md,h1,h2,h3,h4,n1,n2⟩:=h.cell;refine oK h1 ⟨(G.j "state" rfl),by show 8<1000;decide,?_⟩;obtain⟨g1,s1⟩:=h.put {c with st:="waits"} rfl h3 h4 n1 n2;show tW _ _ _ _ (oU M k.p (.ins a.e (qL {c with st:="waits"} k.wy ad md)));generalize oU M k.p (.ins a.e (qL {c with st:="waits"} k.wy ad md))=M1 at g1 s1 ⊢;clear h1 h2 h3 h4 n1 n2;refine⟨oG rfl,λp hp=>?_⟩;have t3:=pY.new (c:=.lst [D.str x]) hp;have lp:=@oS M1 p [D.str x];have np:=g1.bd.mT hp;have Xs:=g1.sub t3;generalize oU M1 p (.lst [D.str x])=M1' at t3 lp Xs ⊢;obtain⟨ad,md,h1,h2,h3,h4,n1,n2⟩:=Xs.cell;refine oK h1 ⟨(G.j "at" rfl),by show 8<1000;decide,_,.refl,?_⟩;obtain⟨g5,s5⟩:=Xs.put (c.wait x) rfl lp h4 np n2;refine q _ (s1.trans ((qz.sub t3).trans s5)) ?_;have:=g5.bd;rw[rG]at this;exact this
 | held x=>obtain⟨ad,md,h1,h2,h3,h4,n1,n2⟩:=h.cell;refine oK h1 ⟨(G.j "state" rfl),by show 8<1000;decide,?_⟩;obtain⟨g1,s1⟩:=h.put {c with st:="held"} rfl h3 h4 n1 n2;show tW _ _ _ _ (oU M k.p (.ins a.e (qL {c with st:="held"} k.wy ad md)));generalize oU M k.p (.ins a.e (qL {c with st:="held"} k.wy ad md))=M1 at g1 s1 ⊢;clear h1 h2 h3 h4 n1 n2;obtain⟨ad,md,h1,h2,h3,h4,n1,n2⟩:=g1.cell;refine oK h1 ⟨(G.j "holder" rfl),by show 8<1000;decide,_,.refl,?_⟩;obtain⟨g5,s5⟩:=g1.put (c.hold x) rfl h3 h4 n1 n2;refine q _ (s1.trans s5) ?_;have:=g5.bd;rw[rG]at this;exact this
 | rings ps=>obtain⟨ad,md,h1,h2,h3,h4,n1,n2⟩:=h.cell;refine oK h1 ⟨(G.j "state" rfl),by show 8<1000;decide,?_⟩;obtain⟨g1,s1⟩:=h.put {c with st:="rings"} rfl h3 h4 n1 n2;show tW _ _ _ _ (oU M k.p (.ins a.e (qL {c with st:="rings"} k.wy ad md)));generalize oU M k.p (.ins a.e (qL {c with st:="rings"} k.wy ad md))=M1 at g1 s1 ⊢;clear h1 h2 h3 h4 n1 n2;refine λp hp=>?_;have t3:=pY.new (c:=.lst (ps.map D.str)) hp;have lp:=@oS M1 p (ps.map D.str);have np:=g1.bd.mT hp;have Xs:=g1.sub t3;have s1':=s1.trans (.sub t3);generalize oU M1 p (.lst (ps.map D.str))=M1' at t3 lp Xs s1' ⊢;obtain⟨ad,md,h1,h2,h3,h4,n1,n2⟩:=Xs.cell;refine oK h1 ⟨(G.j "at" rfl),by show 8<1000;decide,?_⟩;obtain⟨g3,s3⟩:=Xs.put {c with st:="rings",at_:=ps} rfl lp h4 np n2;rw[show vq "at" (.ref p) (qL {c with st:="rings"} k.wy ad md)=qL {c with st:="rings",at_:=ps} k.wy p md from rfl];generalize oU M1' k.p (.ins a.e (qL {c with st:="rings",at_:=ps} k.wy p md))=M3 at g3 s3 ⊢;clear h1 h2 h3 h4 n1 n2 lp t3 np;obtain⟨ad,md,h1,h2,h3,h4,n1,n2⟩:=g3.cell;refine oK h1 ⟨(G.j "since" rfl),by show 8<1000;decide,_,.refl,?_⟩;obtain⟨g5,s5⟩:=g3.put (c.ring ps) rfl h3 h4 n1 n2;refine q _ (s1'.trans (s3.trans s5)) ?_;have:=g5.bd;rw[rG,rG]at this;exact this
 | talks ms=>obtain⟨ad,md,h1,h2,h3,h4,n1,n2⟩:=h.cell;refine oK h1 ⟨(G.j "state" rfl),by show 8<1000;decide,?_⟩;obtain⟨g1,s1⟩:=h.put {c with st:="talks"} rfl h3 h4 n1 n2;show tW _ _ _ _ (oU M k.p (.ins a.e (qL {c with st:="talks"} k.wy ad md)));generalize oU M k.p (.ins a.e (qL {c with st:="talks"} k.wy ad md))=M1 at g1 s1 ⊢;clear h1 h2 h3 h4 n1 n2;refine λp hp=>?_;have t3:=pY.new (c:=.lst (ms.map D.str)) hp;have lp:=@oS M1 p (ms.map D.str);have np:=g1.bd.mT hp;have Xs:=g1.sub t3;have s1':=s1.trans (.sub t3);generalize oU M1 p (.lst (ms.map D.str))=M1' at t3 lp Xs s1' ⊢;obtain⟨ad,md,h1,h2,h3,h4,n1,n2⟩:=Xs.cell;refine oK h1 ⟨(G.j "members" rfl),by show 8<1000;decide,?_⟩;obtain⟨g3,s3⟩:=Xs.put {c with st:="talks",ms:=ms} rfl h3 lp n1 np;show tW _ _ _ _ (oU M1' k.p (.ins a.e (qL {c with st:="talks",ms:=ms} k.wy ad p)));generalize oU M1' k.p (.ins a.e (qL {c with st:="talks",ms:=ms} k.wy ad p))=M3 at g3 s3 ⊢;clear h1 h2 h3 h4 n1 n2 lp t3 np;refine⟨oG rfl,λp2 VH=>?_⟩;have t4:=pY.new (c:=.lst []) VH;have lp:=@oS M3 p2 [];have np:=g3.bd.mT VH;have Yi:=g3.sub t4;have s3':=s3.trans (.sub t4);generalize oU M3 p2 (.lst [])=M3' at t4 lp Yi s3' ⊢;obtain⟨ad,md,h1,h2,h3,h4,n1,n2⟩:=Yi.cell;refine oK h1 ⟨(G.j "at" rfl),by show 8<1000;decide,?_⟩;obtain⟨g4,s4⟩:=Yi.put {c with st:="talks",ms:=ms,at_:=[]} rfl lp h4 np n2;rw[show vq "at" (.ref p2) (qL {c with st:="talks",ms:=ms} k.wy ad md)=qL {c with st:="talks",ms:=ms,at_:=[]} k.wy p2 md from rfl];generalize oU M3' k.p (.ins a.e (qL {c with st:="talks",ms:=ms,at_:=[]} k.wy p2 md))=M4 at g4 s4 ⊢;clear h1 h2 h3 h4 n1 n2 lp t4 np;obtain⟨ad,md,h1,h2,h3,h4,n1,n2⟩:=g4.cell;refine oK h1 ⟨(G.j "holder" rfl),by show 8<1000;decide,_,.refl,?_⟩;obtain⟨g5,s5⟩:=g4.put (c.m9 ms) rfl h3 h4 n1 n2;refine q _ (s1'.trans (s3'.trans (s4.trans s5))) ?_;have:=g5.bd;rw[rG,rG,rG]at this;exact this
theorem sG{α:Type}{f:α->α}:∀{l:List α} {i:Nat} {c:α},l[i]?=some c->l.modify i f=l.set i (f c)
 | [],_,_,h=>by simp at h
 | _::_,0,_,h=>by cases h;rfl
 | x::r,i+1,c,h=>by rw[List.modify_succ_cons,kQ,sG (l:=r) (by simpa using h)]
def Hk(ps:List (Str×Int))(z:Str)(n:Int):Bj (sy ps) (.inr z) (.int n)=sy (Bq ps z n):=by
 have ea:((sy ps).any λkv=>decide (kv.1=(Sum.inr z:qE)))=ps.any λp=>decide (p.1=z):=by unfold sy;rw[jE];congr 1;funext p;have:((Sum.inr p.1:qE)=Sum.inr z)=(p.1=z):=propext ⟨λh=>jR h,λh=>by rw[h]⟩;simp only[Function.comp,this]
 unfold Bj Bq;rw[ea];by_cases h:(ps.any λp=>decide (p.1=z))=true
 .rw[cX h,cX h];unfold sy;rw[dX,dX];refine gJ λp _=>?_;by_cases hp:p.1=z
  .simp[hp]
  .have:¬(Sum.inr p.1:qE)=Sum.inr z:=λy=>hp (jR y);simp[hp]
 .rw[cV h,cV h];unfold sy;rw[dM];rfl
def FK{α:Type}{l:List α}{i:Nat}{x:α}(h:l[i]?=some x):l.set i x=l:=by obtain⟨hi,e⟩:=cT.mp h;rw[<-e,List.set_getElem_self]
structure Vb(V:qb):Prop where
 lo:V.log.length<10000000
 le:V.mI.length<10000000
 ca:V.calls.length<=1000000
 ps:V.ps.length<10000000
 cs:∀c∈V.calls,c.way.length<10000000/\c.at_.length<=100/\c.ms.length<=100
def Ae(a:Ad):qJ:=λds M Q=>Fs λA V k c v=>ds=[.ref A.b,rD.d v]/\CI a M A V v.i k c/\V.mI.length<10000000/\c.way.length<10000000/\∀M',qz A M A M'->pb a M' A {x9 V v.i (c.go v.g)with mI:=V.mI++[v]}->Q .mz M'
def Cw(a:Ad):qJ:=λds M Q=>RJ λA V i j ki ci cj ms=>ds=[.ref A.b,.int (i:Nat),.int (j:Nat),names ms]/\CI a M A V i ki ci/\V.calls[j]?=some cj/\i≠j/\V.mI.length<10000000/\∀M' A',A'.b=A.b->qz A M A' M'->pb a M' A' {x9 (x9 V i (ci.over "merged")) j (cj.mem ms)with mI:=V.mI.map (rD.to i j)}->Q .mz M'
def yO(a:Ad):qJ:=λds M Q=>Ay λA V=>ds=[.ref A.b]/\pb a M A V/\∀M',qz A M A M'->pb a M' A {V with t:=V.t+1,calls:=V.calls.map oQ.tick}->Q .mz M'
def vh(a:Ad):qJ:=λds M Q=>AD λb A V e=>ds=[.ref b,Ev.d e]/\A.b=b/\pb a M A V/\Vb V/\e.ok V/\∀M' A',A'.b=A.b->qz A M A' M'->pb a M' A' (pN V e)->Q .mz M'
noncomputable def QQ(m k:Nat):D->D
 | .tup (.int i::r)=>if i=(m:Int)then .tup (.int (k:Nat)::r)else .tup (.int i::r)
 | d=>d
def RA(m k:Nat)(v:rD):QQ m k v.d=(v.to m k).d:=by
 show(if ((v.i:Nat):Int)=(m:Int)then _ else _)=_;unfold rD.to;by_cases h:v.i=m
 .rw[cX h,cX (by rw[h])];rfl
 .rw[cV h,cV (by omega)];rfl
def GS(G:Gl K mg a):Fq P w K mg base 1 a.bz (Ae a):=by
 refine fq G.bz.toDG zD (λr u=>⟨_,(oJ (pf (rk (oP v0) (pO U1)))
 (oM (pf (rk (oP (o9 (oP v0) (o9 U1 oN))) (pO (o9 U1 oN)))))),?_⟩)
 rintro ds M Q ⟨A,V,k,c,v,rfl,ci,l1,l2,q⟩
 have hz:=dI;have bd:=ci.bd;refine oK bd.at_ (i' rfl ⟨by show(oA M A.le).isSome=true;rw[bd.le];rfl,i' bd.le ⟨by rw[cQ];omega,?_⟩⟩);obtain⟨b1,s1⟩:=bd.nV (es:=V.mI++[v]);rw[dM]at b1 s1;have b1:pb a (oU M A.le (.lst (V.mI.map rD.d++[v.d]))) A {V with mI:=V.mI++[v]}:=b1;have s1:qz A M A (oU M A.le (.lst (V.mI.map rD.d++[v.d]))):=s1;generalize oU M A.le (.lst (V.mI.map rD.d++[v.d]))=M1 at b1 s1 ⊢;obtain⟨ad,md,h1,h2,h3,h4,n1,n2⟩:=b1.cs v.i k c ci.e1 ci.e2;refine oK b1.at_ (i' rfl (i' b1.ca (i' (qN ci.e1) (oK h1 (i' rfl ⟨by show(oA M1 k.wy).isSome=true;rw[h2];rfl,i' h2 ⟨by rw[cQ];omega,?_⟩⟩)))));obtain⟨b2,s2⟩:=b1.n9 (ws:=c.way++[v.g]) ci.e1 ci.e2;rw[dM]at b2 s2;exact⟨_,.refl,q _ (s1.trans s2) b2⟩
def LD(G:Gl K mg a):Fq P w K mg base 2 a.bA (Cw a):=by
 refine fq G.bA.toDG xh (λr u=>⟨_,(oJ (pf (oY (HI G) r G.ab (rJ (o9 (oP v0) U1) oO)))
 (oJ (pK v0 (qh rfl (xu (ix:=[none,some 1,some 2]) (N':=["leg","merged","kept"])) (qd (oP v0)) (qe 0) rB (PK (oV u (o9 v0 oN) U1) (pE (pk (pO U2)) (rN v0 (rW oN) sE)) v0)))
 (oJ (oZ 4 xh (o9 (oP v0) U2))
 (oM (pK v4 (pR sY rfl G.y sZ (pO U3))))))),?_⟩)
 rintro ds M Q ⟨A,V,i,j,ki,ci,cj,ms,rfl,hi,hj,Wx,l1,q⟩
 have hz:=dI;refine oK hi.bd.at_ (i' rfl (i' rfl (i' hi.bd.ca (i' (qN hi.e1) ⟨A,V,i,ki,ci,"merged",rfl,hi,λM1 s1 b1=>?_⟩))));have hj1:(x9 V i (ci.over "merged")).calls[j]?=some cj:=by show(V.calls.set i _)[j]?=_;rw[eK Wx];exact hj
 have le1:oA M1 A.le=some (V.mI.map rD.d):=b1.le;refine oK b1.at_ (i' rfl (i' le1 (qy (f:=QQ i j) le1 _ [] _ (by rw[cQ];simp only[dD];omega) (λd hd k hk=>?_) λp hp=>?_)))
 .obtain⟨v,_,rfl⟩:=dv.mp hd;refine i' rfl ?_;have hk:k (if ((v.i:Nat):Int)=(i:Int)then .tup [.int (j:Nat),.str v.f,.str v.g,.str v.y]else .tup [.int (v.i:Nat),.str v.f,.str v.g,.str v.y]) M1:=hk;refine qg (c:=((v.i:Nat):Int)==(i:Nat)) (λz=>?_) (λz=>?_)
  .rw[cX (eq_of_beq z)]at hk;exact⟨oG rfl,fF _ _,by show 1+3<=sizeLine;omega,hk⟩
  .rw[cV (λy=>z (by rw[y];exact eE _))]at hk;exact hk
 have em:[]++(V.mI.map rD.d).map (QQ i j)=(V.mI.map (rD.to i j)).map rD.d:=by rw[dS,dX,dX];exact gJ λv _=>RA i j v
 rw[em];obtain⟨b2,s2⟩:=b1.nU (es:=V.mI.map (rD.to i j)) hp;have t:=pY.new (c:=.lst ((V.mI.map (rD.to i j)).map rD.d)) hp;refine oK (t _ _ b1.at_) ⟨(G.C "legs" rfl),by show 8<1000;decide,?_⟩;show tW _ _ _ _ (oU (oU M1 p (.lst ((V.mI.map (rD.to i j)).map rD.d))) A.b (.ins a.c (sN (.ref V.p) V.h V.t A.ca p A.nx A.on A.lo)));have b2:pb a (oU (oU M1 p (.lst ((V.mI.map (rD.to i j)).map rD.d))) A.b (.ins a.c (sN (.ref V.p) V.h V.t A.ca p A.nx A.on A.lo))) {A with le:=p} {x9 V i (ci.over "merged")with mI:=V.mI.map (rD.to i j)}:=b2;have s2:qz A M1 {A with le:=p} (oU (oU M1 p (.lst ((V.mI.map (rD.to i j)).map rD.d))) A.b (.ins a.c (sN (.ref V.p) V.h V.t A.ca p A.nx A.on A.lo))):=s2;generalize oU (oU M1 p (.lst ((V.mI.map (rD.to i j)).map rD.d))) A.b (.ins a.c (sN (.ref V.p) V.h V.t A.ca p A.nx A.on A.lo))=M2 at b2 s2 ⊢;have hjk:j<A.cs.length:=by rw[hi.bd.len];exact(cT.mp hj).1
 have ej:A.cs[j]?=some A.cs[j]:=cS hjk;generalize A.cs[j]=kj at ej;have cj2:CI a M2 {A with le:=p} _ j kj cj:=⟨b2,ej,hj1⟩;refine oK b2.at_ (i' rfl (i' rfl (i' b2.ca (i' (qN ej) ?_))));refine λr YM=>?_;have t3:=pY.new (c:=.lst (ms.map D.str)) YM;have lr:=@oS M2 r (ms.map D.str);have nr:=b2.mT YM;have cj3:=cj2.sub t3;generalize oU M2 r (.lst (ms.map D.str))=M3 at t3 lr cj3 ⊢;obtain⟨ad,md,h1,h2,h3,h4,n1,n2⟩:=cj3.cell;refine oK h1 ⟨(G.j "members" rfl),by show 8<1000;decide,_,.refl,?_⟩;obtain⟨g5,s5⟩:=cj3.put (cj.mem ms) rfl h3 lr n1 nr;exact q _ {A with le:=p} rfl (s1.trans (s2.trans ((qz.sub t3).trans s5))) g5.bd
def ER(G:Gl K mg a):Fq P w K mg base 1 a.bB (yO a):=by
 refine fq G.bB.toDG uJ (λr u=>⟨_,(oJ (Di v0 oN)
 (oM (tM eU rfl (qd (oP v0)) (qI 1 uJ)
 (oM (pq (oV u (oP U1) oO)
 (oM (Di U1 oN))
 oX))))),?_⟩)
 rintro ds M Q ⟨A,V,rfl,bd,q⟩
 refine oK bd.at_ ⟨(G.C "turn" rfl),i' rfl (i' rfl (oK bd.at_ ⟨rfl,by show 8<1000;decide,?_⟩))⟩;obtain⟨b1,s1⟩:=bd.putT (t:=V.t+1);rw[show vq "turn" (.int (V.t+1)) (sN (.ref V.p) V.h V.t A.ca A.le A.nx A.on A.lo)=sN (.ref V.p) V.h (V.t+1) A.ca A.le A.nx A.on A.lo from rfl];generalize oU M A.b (.ins a.c (sN (.ref V.p) V.h (V.t+1) A.ca A.le A.nx A.on A.lo))=M1 at b1 s1 ⊢;refine oK b1.at_ (i' rfl (i' b1.ca ?_));refine uP (A.cs.map λk=>D.ref k.p) (λpre δ M'=>pb a M' A {V with t:=V.t+1,calls:=(V.calls.take pre.length).map oQ.tick++V.calls.drop pre.length}/\qz A M A M'/\∃y,δ=[some (.ref A.b),y]) (λ_ _ M' j=>j.1.ca) _ [] _ _ rfl ⟨b1,s1,none,rfl⟩ ?_ ?_
 .rintro pre d post e δ M' ⟨b2,s2,y,rfl⟩ nx VI
  have hd:(A.cs.map λk=>D.ref k.p)[pre.length]?=some d:=by rw[<-e];simp
  rw[dw]at hd;cases ek:A.cs[pre.length]? with
  | none=>rw[ek]at hd;cases hd
  | some k=>
   rw[ek]at hd;have hd:D.ref k.p=d:=de hd;subst hd;have hi:pre.length<V.calls.length:=by rw[<-bd.len];exact(cT.mp ek).1
   have ec:V.calls[pre.length]?=some V.calls[pre.length]:=cS hi;have ed:V.calls.drop pre.length=V.calls[pre.length]::V.calls.drop (pre.length+1):=gF hi;have et:V.calls.take (pre.length+1)=V.calls.take pre.length++[V.calls[pre.length]]:=by rw[gU,ec];rfl
   generalize V.calls[pre.length]=c at ec ed et;have hl:((V.calls.take pre.length).map oQ.tick).length=pre.length:=by rw[cQ,fD];omega
   have ec2:((V.calls.take pre.length).map oQ.tick++V.calls.drop pre.length)[pre.length]?=some c:=by rw[eO (by rw[hl];exact c9 _),hl,g9,ed];rfl
   rw[cU,dN,et]at VI;have en:((V.calls.take pre.length).map oQ.tick++V.calls.drop pre.length).set pre.length c.tick=(V.calls.take pre.length++[c]).map oQ.tick++V.calls.drop (pre.length+1):=by rw[j6 _ _ (by rw[hl];exact c9 _),hl,g9,ed,dM,e9];rfl
   have ci:CI a M' A _ pre.length k c:=⟨b2,ek,ec2⟩;obtain⟨ad,md,h1,h2,h3,h4,n1,n2⟩:=ci.cell;refine oK h1 (i' rfl ?_);have ht:c.tick=if (c.st=="rings")=true then{c with si:=c.si+1}else c:=rfl;refine qg (c:=c.st=="rings") (λg=>?_) (λg=>?_)
   .rw[cX g]at ht;refine oK h1 ⟨(G.j "since" rfl),i' rfl (i' rfl (oK h1 ⟨rfl,by show 8<1000;decide,?_⟩))⟩;obtain⟨g5,s5⟩:=ci.put c.tick (by rw[ht]) (by rw[ht];exact h3) (by rw[ht];exact h4) n1 n2;have b5:=g5.bd;unfold x9 at b5;rw[en]at b5;rw[ht]at b5 s5;exact VI _ _ ⟨b5,s2.trans s5,_,rfl⟩
   .rw[cV g]at ht;rw[ht,FK ec2]at en;rw[en]at b2;exact VI _ _ ⟨b2,s2,_,rfl⟩
 .rintro δ M' ⟨b2,s2,y,rfl⟩
  rw[cQ,bd.len,fE,jA,eR]at b2;exact⟨M',.refl,q M' s2 b2⟩
def qD(G:Gl K mg a):Fq P w K mg base 3 a.k (vh a):=by
 refine fq G.k.toDG xm (λr u=>⟨_,(oJ (pf (rk (oP v0) (pO U1)))
 (oJ (oZ 2 xm (o9 U1 oN))
 (oM (pq (oV u U2 oO)
 (oM (pf (rk (oP v0) (pO (uL (Ov G) r G.e G.ch G.ap.toDG (pO (o9 U1 oN)))))))
 (oM (pq (oV u U2 oO)
 (oM (pf (pI v0 G.c.toCls G.bz (GS G) r (pO (rN U1 (rW oN) sE)))))
 (oM (pq (oV u U2 oO)
 (oM (NZ u (oP v0) (o9 U1 oN) (o9 U1 oN)))
 (oM (pq (oV u U2 oO)
 (oM (pf (pI v0 G.c.toCls G.bA (LD G) r (qP (o9 U1 oN) (o9 U1 oN) (o9 U1 oN)))))
 (oM (pq (oV u U2 oO)
 (oM (pf (xE v0 G.c.toCls G.bB (ER G) r)))
 (oM (pq (oV u U2 (pk (rJ oO oO)))
 (oM (Hn (pC u U2 oO) (Rw (oP v0) (o9 U1 oN))))
 (oM (pq (oV u U2 oO)
 (oM (pf (oY (IU G) r G.bb (rJ (o9 (oP v0) (o9 U1 oN)) U1))))
 oX)))))))))))))))),?_⟩)
 rintro ds M Q ⟨_,A,V,e,rfl,rfl,bd,lim,ev,q⟩
 have hz:=dI;have ll:=lim.lo;have lc:=lim.ca;have lp:=lim.ps;refine oK bd.at_ (i' rfl ⟨by show(oA M A.lo).isSome=true;rw[bd.lo];rfl,i' bd.lo ⟨by rw[cQ];omega,?_⟩⟩);have hb:=bd.nW (es:=V.log++[e]);rw[dM]at hb;obtain⟨b1,s1⟩:pb a (oU M A.lo (.lst (V.log.map Ev.d++[e.d]))) A (qp V e)/\qz A M A (oU M A.lo (.lst (V.log.map Ev.d++[e.d]))):=hb;show tW _ _ _ _ (oU M A.lo (.lst (V.log.map Ev.d++[e.d])));generalize oU M A.lo (.lst (V.log.map Ev.d++[e.d]))=M1 at b1 s1 ⊢;have XF:∀i,i<V.calls.length->∃k c,A.cs[i]?=some k/\V.calls[i]?=some c/\c∈V.calls:=λi hi=>by
  have WM:i<A.cs.length:=by rw[bd.len];exact hi
  exact⟨_,_,cS WM,cS hi,hW hi⟩
 have YN:∀(i:Nat) (k:qQ) (c:oQ) (c':oQ) (f:oQ->oQ),A.cs[i]?=some k->V.calls[i]?=some c->f c=c'->pN V e=wZ (qp V e) i f->∀(M2:Mp),qz A M1 A M2->pb a M2 A (x9 (qp V e) i c')->∃Vz,pY Vz M2/\Q .mz Vz:=λi k c c' f e1 e2 e3 e4 M2 s2 b2=>⟨M2,.refl,q M2 A rfl (s1.trans s2) (by
  rw[e4];unfold wZ;rw[show(qp V e).calls=V.calls from rfl,sG e2,e3];exact b2)⟩
 cases e with
 | new n x=>refine oK b1.at_ (i' rfl ⟨by show(oA M1 A.ca).isSome=true;rw[b1.ca];rfl,λp hp=>⟨p,x,rfl,pA,λM2 wy ad md kp z1 z2 z3 n1 n2 h1 h2 h3 h4=>⟨rfl,?_⟩⟩⟩);have sp:=pY.new (c:=.ins a.e []) hp;have s2:pY M1 M2:=λy d hy=>kp y d (PJ hy hp) (sp y d hy);refine i' (s2.lst b1.ca) ⟨by rw[cQ,b1.len];show V.calls.length<sizeLine;omega,?_⟩;obtain⟨b3,s3⟩:=b1.nM s2 (c:=yt x) hp (sp.none z1) (sp.none z2) (sp.none z3) h1 h2 h3 h4 n1 n2;exact⟨_,.refl,q _ (A.add ⟨p,wy⟩) rfl (s1.trans s3) b3⟩
 | leg v=>obtain⟨k,c,ek,ec,hc⟩:=XF v.i ev;refine oK b1.at_ ⟨rfl,_,⟨rfl,rfl⟩,A,qp V (.leg v),k,c,v,rfl,⟨b1,ek,ec⟩,lim.le,(lim.cs c hc).1,λM2 s2 b2=>⟨M2,.refl,q M2 A rfl (s1.trans s2) ?_⟩⟩;show pb a M2 A {qp V (.leg v)with mI:=V.mI++[v],calls:=V.calls.modify v.i (·.go v.g)};rw[sG ec];exact b2
 | next z n=>refine oK b1.at_ (i' rfl (i' b1.nx ⟨by show(sy V.ps).length<sizeLine;unfold sy;rw[cQ];omega,?_⟩));rw[Hk];obtain⟨b2,s2⟩:=b1.oB (ps:=Bq V.ps z n);exact⟨_,.refl,q _ A rfl (s1.trans s2) b2⟩
 | merge i j ms=>obtain⟨hi,hj,hij,_⟩:=ev;obtain⟨ki,ci,eki,eci,hci⟩:=XF i hi;obtain⟨kj,cj,ekj,ecj,hcj⟩:=XF j hj;refine oK b1.at_ ⟨rfl,_,⟨rfl,rfl⟩,A,qp V (.merge i j ms),i,j,ki,ci,cj,ms,rfl,⟨b1,eki,eci⟩,ecj,hij,lim.le,λM2 A2 eb s2 b2=>⟨M2,.refl,q M2 A2 eb (s1.trans s2) ?_⟩⟩;show pb a M2 A2 {qp V (.merge i j ms)with calls:=(V.calls.modify i (·.over "merged")).modify j (·.mem ms),mI:=V.mI.map (rD.to i j)};rw[sG eci,sG (show(V.calls.set i _)[j]?=some cj by rw[eK hij];exact ecj)];exact b2
 | asks i z ns=>exact⟨oG rfl,rfl,rfl,M1,.refl,q M1 A rfl s1 b1⟩
 | turn=>exact oK b1.at_ ⟨rfl,_,⟨rfl,rfl⟩,A,qp V .turn,rfl,b1,λM2 s2 b2=>⟨M2,.refl,q M2 A rfl (s1.trans s2) b2⟩⟩
 | sw b i=>
  have hi:i<V.on.length:=ev;obtain⟨b2,s2⟩:=b1.oz (bs:=V.on.set i b);have es:(V.on.map D.bl).set i (.bl b)=(V.on.set i b).map D.bl:=(l0).symm;have ix:F5 (V.on.map D.bl).length (i:Nat)=some i:=by rw[cQ];unfold F5;simp[hi]
  have VB:∃Vz,pY Vz (oU M1 A.on (.lst ((V.on.map D.bl).set i (.bl b))))/\Q .mz Vz:=by rw[es];exact⟨_,.refl,q _ A rfl (s1.trans s2) b2⟩
  cases b with
  | true=>exact⟨oG rfl,rfl,rfl,oK b1.at_ (i' rfl (i' b1.on (i' ix VB)))⟩
  | false=>exact⟨oG rfl,rfl,rfl,oK b1.at_ (i' rfl (i' b1.on (i' ix VB)))⟩
 | rings i ps=>obtain⟨k,c,ek,ec,hc⟩:=XF i ev.1;exact⟨oG rfl,rfl,rfl,oK b1.at_ (i' rfl (i' b1.ca (i' (qN ek) ⟨A,qp V _,i,k,c,_,_,rfl,⟨b1,ek,ec⟩,(lim.cs c hc).2.1,(lim.cs c hc).2.2,.rings ps,YN i k c _ _ ek ec rfl rfl⟩)))⟩
 | quiet i=>obtain⟨k,c,ek,ec,hc⟩:=XF i ev;exact⟨oG rfl,rfl,rfl,oK b1.at_ (i' rfl (i' b1.ca (i' (qN ek) ⟨A,qp V _,i,k,c,_,_,rfl,⟨b1,ek,ec⟩,(lim.cs c hc).2.1,(lim.cs c hc).2.2,.quiet,YN i k c _ _ ek ec rfl rfl⟩)))⟩
 | waits i x=>obtain⟨k,c,ek,ec,hc⟩:=XF i ev;exact⟨oG rfl,rfl,rfl,oK b1.at_ (i' rfl (i' b1.ca (i' (qN ek) ⟨A,qp V _,i,k,c,_,_,rfl,⟨b1,ek,ec⟩,(lim.cs c hc).2.1,(lim.cs c hc).2.2,.waits x,YN i k c _ _ ek ec rfl rfl⟩)))⟩
 | talks i ms=>obtain⟨k,c,ek,ec,hc⟩:=XF i ev.1;exact⟨oG rfl,rfl,rfl,oK b1.at_ (i' rfl (i' b1.ca (i' (qN ek) ⟨A,qp V _,i,k,c,_,_,rfl,⟨b1,ek,ec⟩,(lim.cs c hc).2.1,(lim.cs c hc).2.2,.talks ms,YN i k c _ _ ek ec rfl rfl⟩)))⟩
 | held i x=>obtain⟨k,c,ek,ec,hc⟩:=XF i ev;exact⟨oG rfl,rfl,rfl,oK b1.at_ (i' rfl (i' b1.ca (i' (qN ek) ⟨A,qp V _,i,k,c,_,_,rfl,⟨b1,ek,ec⟩,(lim.cs c hc).2.1,(lim.cs c hc).2.2,.held x,YN i k c _ _ ek ec rfl rfl⟩)))⟩
 | leaves i x=>obtain⟨k,c,ek,ec,hc⟩:=XF i ev;exact⟨oG rfl,rfl,rfl,oK b1.at_ (i' rfl (i' b1.ca (i' (qN ek) ⟨A,qp V _,i,k,c,_,_,rfl,⟨b1,ek,ec⟩,(lim.cs c hc).2.1,(lim.cs c hc).2.2,.leaves x,YN i k c _ _ ek ec rfl rfl⟩)))⟩
 | over i w0=>obtain⟨k,c,ek,ec,hc⟩:=XF i ev;exact⟨oG rfl,rfl,rfl,oK b1.at_ (i' rfl (i' b1.ca (i' (qN ek) ⟨A,qp V _,i,k,c,_,_,rfl,⟨b1,ek,ec⟩,(lim.cs c hc).2.1,(lim.cs c hc).2.2,.over w0,YN i k c _ _ ek ec rfl rfl⟩)))⟩
noncomputable def HR:List Str:=["barred","ring","engaged","left","refused","done","merged"]
def Pj(o:Bool)(c:oQ):Prop:=(c.st="rings"/\c.ms=[]/\c.hd=none/\c.wd=none/\(o=true->c.at_=[])/\(o=false->c.at_≠[]))\/(o=false/\((c.st="waits"/\c.ms=[]/\c.hd=none/\c.wd=none/\c.at_.length=1)\/(c.st="talks"/\(c.ms.length=2\/c.ms.length=3)/\c.hd=none/\c.wd=none/\c.at_=[])\/
 (∃x,c.st="held"/\c.ms.length=2/\c.hd=some x/\x∈c.ms/\c.wd=none/\c.at_=[])\/(c.st="over"/\c.ms=[]/\c.hd=none/\c.at_=[]/\∃w∈HR,c.wd=some w)))
structure uR(l:oW)(o:Bool)(c:oQ):Prop where
 sh:Pj o c
 cr:c.cr∈l.pn
 at_:∀x∈c.at_,x∈l.pn
 ms:∀x∈c.ms,x∈l.pn
 an:c.at_.Nodup
 mn:c.ms.Nodup
 ca:c.cr∉c.at_
 wy:c.way≠[]/\∀z∈c.way,z∈l.nm
def zO(c:oQ)(x:Str):Prop:=c.mF x=true\/c.mB x=true
structure zb(l:oW)(V:qb)(o:Option Nat):Prop where
 ok:∀(i:Nat) c,V.calls[i]?=some c->uR l (o==some i) c
 un:∀(i j:Nat) ci cj x,V.calls[i]?=some ci->V.calls[j]?=some cj->zO ci x->zO cj x->i=j
 ln:∀x∈l.pn,(ut V x:Int)<=ub l x
 wt:∀(i j:Nat) ci cj x,V.calls[i]?=some ci->V.calls[j]?=some cj->ci.mx x=true->cj.mx x=true->i=j
 nx:tR l V
abbrev WF(l:oW)(V:qb):Prop:=zb l V none
structure Sz(V:qb)(c n:Nat):Prop where
 lo:V.log.length<=n
 le:V.mI.length<=n
 ca:V.calls.length<=c
 ps:V.ps.length<=n
 cs:∀k∈V.calls,k.way.length<=n/\k.at_.length<=100/\k.ms.length<=100
def Sz.mono{V:qb}{c n c' n':Nat}(h:Sz V c n)(hc:c<=c')(hn:n<=n'):Sz V c' n':=⟨dU h.lo hn,dU h.le hn,dU h.ca hc,dU h.ps hn,λk hk=>⟨dU (h.cs k hk).1 hn,(h.cs k hk).2⟩⟩
noncomputable def Ev.nw:Ev->Nat
 | .new _ _=>1
 | _=>0
def KO(ps:List (Str×Int))(z:Str)(n:Int):(Bq ps z n).length<=ps.length+1:=by
 unfold Bq;split
 .rw[cQ];omega
 .rw[cU];exact c9 _
def Iv(ss:List Str)(x:Str):(rb ss x).length<=ss.length:=gy _ _
def Es{α:Type}{f:α->α}{l:List α}{i:Nat}{x:α}(h:x∈l.modify i f):x∈l\/∃y∈l,x=f y:=by
 cases e:l[i]? with
 | none=>rw[kA (by simpa using e)]at h;exact .inl h
 | some c=>
  rw[sG e]at h;rcases List.mem_or_eq_of_mem_set h with g|g
  .exact .inl g
  .exact .inr ⟨c,fO e,g⟩
def Sz.step{V:qb}{c n:Nat}{e:Ev}(h:Sz V c n)(ok:e.ok V):Sz (pN V e) (c+e.nw) (n+1):=by
 have h1:Sz (qp V e) c (n+1):=⟨by show(V.log++[e]).length<=n+1;rw[cU];exact hZ h.lo,jl h.le,h.ca,jl h.ps,λk hk=>⟨jl (h.cs k hk).1,(h.cs k hk).2⟩⟩;have md:∀(i:Nat) (f:oQ->oQ),(∀k∈V.calls,(f k).way=k.way/\(f k).at_.length<=100/\(f k).ms.length<=100)->Sz (wZ (qp V e) i f) c (n+1):=λi f hf=>⟨h1.lo,h1.le,by show(V.calls.modify i f).length<=c;rw[gb];exact h.ca,h1.ps,λk hk=>by
  rcases Es hk with g|⟨y,hy,rfl⟩
  .exact h1.cs k g
  .obtain⟨a1,a2,a3⟩:=hf y hy;exact⟨by rw[a1];exact(h1.cs y hy).1,a2,a3⟩⟩
 cases e with
 | new m x=>
  refine⟨h1.lo,h1.le,by show(V.calls++[yt x]).length<=c+1;rw[cU];exact hZ h.ca,h1.ps,λk hk=>?_⟩;rcases dR.mp hk with g|g
  .exact h1.cs k g
  .rw[dg.mp g];exact⟨eQ _,eQ _,eQ _⟩
 | leg v=>
  refine⟨h1.lo,by show(V.mI++[v]).length<=n+1;rw[cU];exact hZ h.le,by show(V.calls.modify v.i _).length<=c;rw[gb];exact h.ca,h1.ps,λk hk=>?_⟩;rcases Es (l:=V.calls) hk with g|⟨y,hy,rfl⟩
  .exact h1.cs k g
  .exact⟨by show(y.way++[v.g]).length<=n+1;rw[cU];exact hZ (h.cs y hy).1,(h.cs y hy).2⟩
 | asks i z ns=>exact h1
 | next z m=>exact⟨h1.lo,h1.le,h1.ca,dU (KO _ _ _) (hZ h.ps),h1.cs⟩
 | merge i j ms=>
  have m1:=md i (·.over "merged") λk hk=>⟨rfl,eQ _,eQ _⟩;refine⟨h1.lo,by show(V.mI.map _).length<=n+1;rw[cQ];exact h1.le,by show((V.calls.modify i _).modify j _).length<=c;rw[gb,gb];exact h.ca,h1.ps,λk hk=>?_⟩;rcases Es (l:=V.calls.modify i (·.over "merged")) hk with g|⟨y,hy,rfl⟩
  .exact m1.cs k g
  .exact⟨(m1.cs y hy).1,(m1.cs y hy).2.1,ok.2.2.2⟩
 | turn=>
  refine⟨h1.lo,h1.le,by show(V.calls.map oQ.tick).length<=c;rw[cQ];exact h.ca,h1.ps,λk hk=>?_⟩;obtain⟨y,hy,rfl⟩:=dv.mp hk;have e:y.tick.way=y.way/\y.tick.at_=y.at_/\y.tick.ms=y.ms:=by unfold oQ.tick;split<;>exact⟨rfl,rfl,rfl⟩
  rw[e.1,e.2.1,e.2.2];exact h1.cs y hy
 | sw b i=>exact⟨h1.lo,h1.le,h1.ca,h1.ps,h1.cs⟩
 | rings i ps=>exact md i _ λk hk=>⟨rfl,ok.2,(h.cs k hk).2.2⟩
 | quiet i=>exact md i _ λk hk=>⟨rfl,eQ _,(h.cs k hk).2.2⟩
 | waits i x=>exact md i _ λk hk=>⟨rfl,by show 1<=100;decide,(h.cs k hk).2.2⟩
 | talks i ms=>exact md i _ λk hk=>⟨rfl,eQ _,ok.2⟩
 | held i x=>exact md i _ λk hk=>⟨rfl,(h.cs k hk).2.1,(h.cs k hk).2.2⟩
 | leaves i x=>exact md i _ λk hk=>⟨rfl,dU (Iv _ _) (h.cs k hk).2.1,dU (Iv _ _) (h.cs k hk).2.2⟩
 | over i w=>exact md i _ λk hk=>⟨rfl,eQ _,eQ _⟩
def PV(V:qb)(e:Ev):(pN V e).p=V.p/\(pN V e).h=V.h/\(pN V e).on.length=V.on.length:=by cases e<;>first|exact⟨rfl,rfl,rfl⟩|exact⟨rfl,rfl,ia⟩
structure tX(a:Ad)(M0 M:Mp)(b:Addr)(A:sQ)(V:qb)(l:oW)(c n:Nat):Prop where
 bd:pb a M A V
 pl0:sC a M0 V.p l
 s0:pY M0 M
 fr:∀x∈A.foot,M0 x=none
 b:A.b=b
 sz:Sz V c n
 ok:rg l
 on:V.on.length=l.mv.length
variable {M0:Mp}{b:Addr}{A':sQ}{V':qb}{l:oW}{n:Nat}
section
variable {c:Nat}
def tX.at_(h:tX a M0 M b A V l c n):M b=some (.ins a.c (sN (.ref V.p) V.h V.t A.ca A.le A.nx A.on A.lo)):=h.b ▸ h.bd.at_
def tX.sub(h:tX a M0 M b A V l c n)(s:pY M M'):tX a M0 M' b A V l c n:=⟨h.bd.sub s,h.pl0,h.s0.trans s,h.fr,h.b,h.sz,h.ok,h.on⟩
def tX.pl(h:tX a M0 M b A V l c n):sC a M V.p l:=h.pl0.sub h.s0
def tX.mono(h:tX a M0 M b A V l c n){c' n':Nat}(hc:c<=c')(hn:n<=n'):tX a M0 M b A V l c' n':=⟨h.bd,h.pl0,h.s0,h.fr,h.b,h.sz.mono hc hn,h.ok,h.on⟩
def tX.lim(h:tX a M0 M b A V l c n)(hc:c<=1000000)(hn:n<9000000):Vb V:=⟨io h.sz.lo (by omega),io h.sz.le (by omega),dU h.sz.ca hc,io h.sz.ps (by omega),λk hk=>⟨io (h.sz.cs k hk).1 (by omega),(h.sz.cs k hk).2⟩⟩
def tX.rd(h:tX a M0 M b A V l c n)(hc:c<=1000000){o:Option Nat}(wf:zb l V o):Rd a M A V l:=⟨h.bd,dU h.sz.ca hc,h.pl,h.ok,h.on,λk hk=>by
 obtain⟨i,hi,e⟩:=fM hk;exact⟨(wf.ok i k (by rw[cS hi,e])).ms,(h.sz.cs k hk).2.2⟩⟩
def tX.call(h:tX a M0 M b A V l c n){i:Nat}{v:oQ}(e:V.calls[i]?=some v):∃k,CI a M A V i k v:=by
 have hi:i<A.cs.length:=by rw[h.bd.len];exact(cT.mp e).1
 exact⟨A.cs[i],h.bd,cS hi,e⟩
def tX.after(h:tX a M0 M b A V l c n){e:Ev}(ok:e.ok V)(eb:A'.b=A.b)(st:qz A M A' M')(bd:pb a M' A' (pN V e)):tX a M0 M' b A' (pN V e) l (c+e.nw) (n+1):=by
 obtain⟨p1,p2,p3⟩:=PV V e;refine⟨bd,p1 ▸ h.pl0,λx d hx=>st.1 x d (λz=>?_) (h.s0 x d hx),λx hx=>?_,eb.trans h.b,h.sz.step ok,h.ok,p3.trans h.on⟩
 .rw[h.fr x z]at hx;cases hx
 .rcases st.2.1 x hx with z|z
  .exact h.fr x z
  .exact h.s0.none z
end
def Fh(l:oW)(V:qb)(c:Str):vn->Prop
 | .rings z ps=>z∈l.nm/\ps≠[]/\ps=xo l V c z
 | .breaks z=>∃x,x=c/\Gs l V x c z=true
 | .waits z=>z∈l.pn/\z≠c/\zI V z=false
 | .ring ns=>ns≠[]
 | _=>True
def FF{l:oW}{V:qb}{c z:Str}:(∀x∈xo l V c z,x∈tU l V c z/\x∈l.mj z)/\(xo l V c z).length<=(l.mj z).length:=by
 have hr:∀x∈tU l V c z,x∈l.mj z:=λx hx=>(fz.mp hx).1;unfold xo;split
 .refine⟨λx hx=>?_,?_⟩
  .have hx:=(fz.mp (iK hx)).2;have hx:=qk.mp hx;exact⟨hx,hr x hx⟩
  .cases e:(uu (l.mj z) (y0 V z)).filter λx=>hasS (tU l V c z) x with
   | nil=>exact eQ _
   | cons y r=>
    have hy:y∈uu (l.mj z) (y0 V z):=(fz.mp (by rw[e];exact dH)).1;have hy:y∈l.mj z:=by
     unfold uu at hy;rcases dR.mp hy with q|q
     .exact iL q
     .exact iK q
    rw[fD];have:=List.length_pos_of_mem hy;omega
 .exact⟨λx hx=>⟨hx,hr x hx⟩,gy _ _⟩
def O1{l:oW}{V:qb}{c z:Str}(hz:z∈l.nm):Fh l V c (He l V c z):=by
 unfold He;split
 .trivial
 .rename_i x r e;exact⟨hz,fF _ _,e.symm⟩
structure xB(l:oW)(V:qb)(c:Str)(n:Nat)(st:so)(r:vn×so):Prop where
 e:Fh l V c r.1
 len:r.2.length<=st.length+n
 nm:∀s∈r.2,s∈st\/s.1∈l.nm
 wy:∀ns,r.1=.ring ns->∀z∈ns,z∈l.nm
theorem yq{l:oW}{V:qb}{c:Str}(ok:rg l):∀(n:Nat) (z:Str) (way:List Str) (st:so),z∈l.nm->(∀x∈way,x∈l.nm)->xB l V c n st (vW l V c n z way st)
 | 0,z,way,st,_,_=>⟨trivial,c9 _,λs hs=>.inl hs,λns h=>by cases h⟩
 | n+1,z,way,st,hz,hw=>by
  unfold vW;by_cases h:hasS way z=true
  .rw[cX h];refine⟨?_,by show st.length<=_;omega,λs hs=>.inl hs,λns e y hy=>?_⟩
   .have h1:way.findIdx (·==z)<way.length:=List.findIdx_lt_length_of_exists ⟨z,qk.mp h,eE z⟩;show way.drop _≠[];intro g;have:=eL List.length g;rw[fX]at this;simp only[dD]at this;omega
   .cases e;exact hw y (iL hy)
  rw[cV h];have sn:∀(fs:List Nat),∀s∈st++[(z,fs)],s∈st\/s.1∈l.nm:=λfs s hs=>by
   rcases dR.mp hs with g|g
   .exact .inl g
   .rw[dg.mp g];exact .inr hz
  have sl:∀fs:List Nat,(st++[(z,fs)]).length=st.length+1:=λfs=>by rw[cU];rfl
  cases hf:De l V c z with
  | nil=>refine⟨O1 hz,by show(st++[(z,[])]).length<=_;rw[sl];omega,sn [],λns e=>?_⟩;have e:He l V c z=.ring ns:=e;unfold He at e;split at e<;>cases e
  | cons i r=>
   obtain⟨w,ew,Wb⟩:=EV (l:=l) (V:=V) (f:=Ap l V c z) (i:=i) (by show i∈De l V c z;rw[hf];exact dH);dsimp only;rw[ew];dsimp only[Option.elim];have stop:∀e:vn,Fh l V c e->(∀ns,e≠.ring ns)->xB l V c (n+1) st (e,st++[(z,i::r)]):=λe he VV=>⟨he,by show(st++[(z,i::r)]).length<=_;rw[sl];omega,sn _,λns g=>absurd g (VV ns)⟩
   have X2:∀y,IH z w.2=.inr y->xB l V c (n+1) st (vW l V c n y (way++[z]) (st++[(z,i::r)])):=λy hy=>by
    have hr:=yq (V:=V) (c:=c) ok n y (way++[z]) (st++[(z,i::r)]) (A7 ok (qC ew) hy) λx hx=>by
     rcases dR.mp hx with g|g
     .exact hw x g
     .rw[dg.mp g];exact hz
    refine⟨hr.e,by have:=hr.len;rw[sl]at this;omega,λs hs=>?_,hr.wy⟩;rcases hr.nm s hs with g|g
    .exact sn _ s g
    .exact .inr g
   cases hv:w.2 with
   | bar x ns=>exact stop _ trivial λns g=>by cases g
   | shut x ns=>exact stop _ trivial λns g=>by cases g
   | wait x=>
    rw[hv]at Wb;have hf2:(if (!(z==x)||(c==x))=true then false else wQ l V c z&&!(zI V z))=true:=Wb;have hx:wY l.pn x:=by have:=ok.wo w (qC ew);rw[hv]at this;exact this
    by_cases g:(!(z==x)||(c==x))=true
    .rw[cX g]at hf2;cases hf2
    rw[cV g]at hf2;simp only[gO,gC,fB,jm,dP]at g hf2;have ezx:=eq_of_beq g.1;subst ezx;exact stop _ ⟨qk.mp hx,λy=>g.2 (by rw[y];exact eE _),hf2.2⟩ λns g=>by cases g
   | breaks x=>
    rw[hv]at Wb;refine stop _ ⟨x,?_,?_⟩ λns g=>by cases g
    .have Wb:Gs l V x c z=true:=Wb;unfold Gs at Wb;by_cases g:(!(c==x)||(z==x))=true
     .rw[cX g]at Wb;cases Wb
     .simp only[gO,gC,fB,jm]at g;exact(eq_of_beq g.1).symm
    .exact Wb
   | always x y=>exact X2 y (by rw[hv];rfl)
   | night x y f m=>exact X2 y (by rw[hv];rfl)
   | busy x y=>exact X2 y (by rw[hv];rfl)
   | silent x y m=>exact X2 y (by rw[hv];rfl)
def FL{l:oW}{V:qb}{x c z:Str}(h:Gs l V x c z=true):∃j k,va V z=some j/\V.calls[j]?=some k/\k.st="talks"/\z∈k.ms/\k.ms.length=2/\z≠c:=by
 unfold Gs at h;by_cases g:(!(c==x)||(z==x))=true
 .rw[cX g]at h;cases h
 rw[cV g]at h;simp only[gO,gC,fB,jm]at g;by_cases g2:(!(hasS l.pn z)||!(wQ l V c z))=true
 .rw[cX g2]at h;cases h
 rw[cV g2]at h;cases e:va V z with
 | none=>rw[e]at h;cases h
 | some j=>obtain⟨hj,ht,_⟩:=ir.mp e;rw[e]at h;have h:((V.calls[j]?).elim false λk=>(k.ms.length==2)&&GC l x k.ms)=true:=h;rw[cS hj]at h;have h:((V.calls[j].ms.length==2)&&GC l x V.calls[j].ms)=true:=h;unfold oQ.mG at ht;rw[dP]at h ht;refine⟨j,V.calls[j],rfl,cS hj,eq_of_beq ht.1,qk.mp ht.2,eq_of_beq h.1,λy=>?_⟩;rw[y]at g;have:=eq_of_beq g.1;rw[this,eE]at g;exact absurd rfl g.2
noncomputable def oQ.bare(c:oQ):oQ:={c with way:=[]}
def sL(V V':qb):Prop:=V'.calls.map oQ.bare=V.calls.map oQ.bare
def sL.at_{V V':qb}(h:sL V V'){i:Nat}{c:oQ}(e:V.calls[i]?=some c):∃c',V'.calls[i]?=some c'/\c'.bare=c.bare:=by
 have:=eL (·[i]?) h;simp only[dw,e]at this;cases e':V'.calls[i]? with
 | none=>rw[e']at this;cases this
 | some c'=>rw[e']at this;exact⟨c',rfl,de this⟩
def yP(f:oQ->Bool)(hf:∀c,f c.bare=f c)(cs:List oQ):(cs.map oQ.bare).findIdx? f=cs.findIdx? f:=by rw[gX];congr 1;funext c;exact hf c
def sL.m9{V V':qb}(h:sL V V')(z:Str):va V' z=va V z:=by unfold va;rw[<-yP _ (λ_=>rfl) V'.calls,h,yP _ (λ_=>rfl)]
def sL.ends{l:oW}{V V':qb}(h:sL V V')(i:Nat)(e:vn):sA l V' i e=sA l V i e:=by
 cases e with
 | breaks z=>
  unfold sA;dsimp only;rw[h.m9];have key:∀j:Nat,(V'.calls[j]?).map oQ.bare=(V.calls[j]?).map oQ.bare:=λj=>by
   have:=eL (·[j]?) h
   simpa only [dw]using this
  have ki:=key i;cases va V z with
  | none=>rfl
  | some j=>
   have kj:=key j;cases e1:V.calls[i]? with
   | none=>rw[e1]at ki;rw[show V'.calls[i]?=none by cases q:V'.calls[i]? with|none=>rfl|some _=>rw[q]at ki;cases ki]
   | some c=>
    rw[e1]at ki;cases e2:V'.calls[i]? with
    | none=>rw[e2]at ki;cases ki
    | some c'=>
     rw[e2]at ki;have k1:c'.cr=c.cr:=by have kb:c'.bare=c.bare:=de ki;exact show c'.bare.cr=c.bare.cr by rw[kb]
     have k2:(V'.calls[j]?).elim [] oQ.ms=(V.calls[j]?).elim [] oQ.ms:=by
      cases e3:V.calls[j]? with
      | none=>rw[e3]at kj;rw[show V'.calls[j]?=none by cases q:V'.calls[j]? with|none=>rfl|some _=>rw[q]at kj;cases kj]
      | some d=>
       rw[e3]at kj;cases e4:V'.calls[j]? with
       | none=>rw[e4]at kj;cases kj
       | some d'=>rw[e4]at kj;exact show d'.bare.ms=d.bare.ms by rw[show d'.bare=d.bare from de kj]
     dsimp only;rw[k1,k2]
 | _=>rfl
def sL.trans{V V1 V2:qb}(h:sL V V1)(g:sL V1 V2):sL V V2:=Eq.trans g h
def yZ(V:qb)(v:rD):sL V (pN V (.leg v)):=by
 show(V.calls.modify v.i (·.go v.g)).map oQ.bare=V.calls.map oQ.bare;cases e:V.calls[v.i]? with
 | none=>rw[kA (by simpa using e)]
 | some c=>rw[sG e,l0,show(c.go v.g).bare=c.bare from rfl,FK (by rw[dw,e];rfl)]
def C4(V:qb)(i:Nat)(z:Str)(ns:List Nat):sL V (pN V (.asks i z ns)):=rfl
def sL.len{V V':qb}(h:sL V V'):V'.calls.length=V.calls.length:=by
 have:=eL List.length h
 rwa [cQ,cQ]at this
noncomputable def FP:Option Str->so->Option Str
 | o,[]=>o
 | _,(z,_)::r=>FP (some z) r
noncomputable def R0(i:Nat)(z:Str)(fs:List Nat):Option Str->List Ev
 | none=>[.asks i z fs]
 | some y=>[.leg ⟨i,y,z,y⟩,.asks i z fs]
theorem yc(i:Nat)(z:Str)(fs:List Nat):∀(st:so) (o:Option Str),rf i o (st++[(z,fs)])=rf i o st++R0 i z fs (FP o st)
 | [],none=>rfl
 | [],some _=>rfl
 | (y,gs)::r,none=>by show .asks i y gs::rf i (some y) (r++[(z,fs)])=_;rw[yc i z fs r];rfl
 | (y,gs)::r,some u=>by show .leg ⟨i,u,y,u⟩::.asks i y gs::rf i (some y) (r++[(z,fs)])=_;rw[yc i z fs r];rfl
theorem Bl(z:Str)(fs:List Nat):∀(st:so) (o:Option Str),FP o (st++[(z,fs)])=some z
 | [],_=>rfl
 | _::r,_=>Bl z fs r _
theorem uQ(i:Nat):∀(st:so) (o:Option Str) (V:qb),sL V (qo V (rf i o st))
 | [],_,V=>rfl
 | (y,gs)::r,none,V=>(C4 V i y gs).trans (uQ i r (some y) _)
 | (y,gs)::r,some u,V=>((yZ V ⟨i,u,y,u⟩).trans (C4 _ i y gs)).trans (uQ i r (some y) _)
def OB(a:Ad):qJ:=λds M Q=>LV λM0 b A V l c n i st r=>ds=[.ref b,.int ((i:Nat):Int),.ref r]/\tX a M0 M b A V l c n/\c<=1000000/\n<=8000000/\st.length<=100/\i<V.calls.length/\oA M r=some (qM st)/\r∉A.foot/\∀M' A',tX a M0 M' b A' (qo V (rf i none st)) l c (n+2*st.length)->qz A M A' M'->Q .mz M'
def LG(a:Ad):qJ:=λds M Q=>LV λM0 b A V l c n i z ps=>ds=[.ref b,.int ((i:Nat):Int),.str z,names ps]/\tX a M0 M b A V l c n/\c<=1000000/\n<=8000000/\i<V.calls.length/\z∈l.nm/\ps≠[]/\(∀x∈ps,x∈l.mj z)/\ps.length<=100/\∀M' A',tX a M0 M' b A' (qo V (sA l V i (.rings z ps))) l c (n+2)->qz A M A' M'->Q .mz M'
def Fe(l:oW)(V:qb)(i:Nat):vn->Prop
 | .rings z ps=>z∈l.nm/\ps≠[]/\(∀x∈ps,x∈l.mj z)/\ps.length<=100
 | .breaks z=>∃j k,va V z=some j/\V.calls[j]?=some k/\i≠j/\k.ms.length=2
 | _=>True
def MA(a:Ad):qJ:=λds M Q=>Ts λM0 b A V l c n i z=>ds=[.ref b,.int ((i:Nat):Int),.str z]/\tX a M0 M b A V l c n/\c<=1000000/\n<=8000000/\i<V.calls.length/\Fe l V i (.breaks z)/\∀M' A',tX a M0 M' b A' (qo V (sA l V i (.breaks z))) l c (n+2)->qz A M A' M'->Q .mz M'
def Hs(a:Ad):qJ:=λds M Q=>Ts λM0 b A V l c n i e=>ds=[.ref b,.int ((i:Nat):Int),vn.d e]/\tX a M0 M b A V l c n/\c<=1000000/\n<=8000000/\i<V.calls.length/\Fe l V i e/\∀M' A',tX a M0 M' b A' (qo V (sA l V i e)) l c (n+2)->qz A M A' M'->Q .mz M'
def Oa(a:Ad):qJ:=λds M Q=>Ts λM0 b A V l c n i k=>ds=[.ref b,.int ((i:Nat):Int)]/\tX a M0 M b A V l c n/\c<=1000000/\n<=7000000/\zb l V (some i)/\V.calls[i]?=some k/\∀M' A',tX a M0 M' b A' (qo V (wz l V i)) l c (n+30)->qz A M A' M'->Q .mz M'
def KF(a:Ad):qJ:=λds M Q=>Ts λM0 b A V l c n y z=>ds=[.ref b,.str y,.str z]/\tX a M0 M b A V l c n/\c<1000000/\n<=6000000/\zb l (qo V [.new V.calls.length y,.leg ⟨V.calls.length,y,z,y⟩]) (some V.calls.length)/\∀M' A',tX a M0 M' b A' (qo V (D6 l V y z)) l (c+1) (n+32)->qz A M A' M'->Q .mz M'
def LP{st:so}{pre post:List D}{d:D}(e:pre++d::post=qM st):∃z fs,st[pre.length]?=some (z,fs)/\d=.tup [.str z,wR fs]/\st.take (pre.length+1)=st.take pre.length++[(z,fs)]:=by
 have h:(qM st)[pre.length]?=some d:=by rw[<-e];simp
 unfold qM at h;rw[dw]at h;cases q:st[pre.length]? with
 | none=>rw[q]at h;cases h
 | some s=>rw[q]at h;refine⟨s.1,s.2,rfl,(de h).symm,?_⟩;rw[gU,q];rfl
noncomputable def T4:Option Str->D
 | none=>.mz
 | some x=>.str x
def NF{ss:List Str}{x:Str}(h:ss.getLast?=some x):vL (ss.map D.str) (-1)=some (.str x):=by
 have hp:0<ss.length:=by cases ss with|nil=>cases h|cons _ _=>exact l8 _
 unfold vL;have e:F5 (ss.map D.str).length (-1)=some (ss.length - 1):=by
  rw[cQ];unfold F5;have:¬((-1:Int)>=0):=by decide
  simp;omega
 rw[e];show(ss.map D.str)[ss.length - 1]?=_;rw[dw,<-jr,h];rfl
def KC(ds:List D):L3.sT ds none (some (-1:Int))=ds.dropLast:=by
 unfold L3.sT;have e:HT.sj ds.length ds.length (some (-1:Int))=ds.length - 1:=by show(if (-1:Int)<0 then((-1:Int)+(ds.length:Int)).toNat else min (-1:Int).toNat ds.length)=ds.length - 1;rw[cX (by decide)];omega
 rw[e,HT.Bo,iU,kN,List.dropLast_eq_take]
def OJ(G:Gl K mg a):Fq P w K mg base 4 a.aZ (OB a):=by
 refine fq G.aZ.toDG sU (λr u=>⟨_,(oJ (oZ 3 sU qU)
 (oM (tM eU rfl (qd U2) (uk (n:=2) rfl (pT (qI 4 sU) (pT (qI 5 sU) sD)))
 (oJ (pq (oV u U3 qU)
 (oM (pf (pI v0 G.c.toCls G.k (qD G) r (pO (pk (pF oO (pF U1 (qP U3 v4 U3))))))))
 oX)
 (oJ (pf (pI v0 G.c.toCls G.k (qD G) r (pO (pk (pF oO (qP U1 v4 v5))))))
 (oM (oZ 3 sU v4))))))),?_⟩)
 rintro ds M Q ⟨M0,b,A,V,l,c,n,i,st,r,rfl,cu,hc,hn,VS,hi,lr,nf,q⟩
 refine i' lr (uP (qM st) (λpre δ M'=>(∃A',tX a M0 M' b A' (qo V (rf i none (st.take pre.length))) l c (n+2*pre.length)/\qz A M A' M')/\∃y4 y5,δ=[some (.ref b),some (.int ((i:Nat):Int)),some (.ref r),some (T4 (FP none (st.take pre.length))),y4,y5]) (λpre δ M' j=>?_) _ [] _ _ rfl ⟨⟨A,cu,.refl⟩,none,none,rfl⟩ ?_ ?_)
 .obtain⟨⟨A',c1,Wf⟩,_⟩:=j;exact rY (Wf.1 r _ nf (pS lr))
 .rintro pre d post e δ M' ⟨⟨A',c1,Wf⟩,y4,y5,rfl⟩ nx VI
  obtain⟨z,fs,es,rfl,et⟩:=LP e;have hp:pre.length<100:=dF (cT.mp es).1 VS;rw[cU,dN,et,yc,Bl]at VI;have len:∀es,sL V (qo V es)->i<(qo V es).calls.length:=λes h=>by rw[h.len];exact hi
  have Xc:=len _ (uQ i (st.take pre.length) none V);generalize hV:qo V (rf i none (st.take pre.length))=V1 at c1 Xc;rw[ra,hV]at VI;refine⟨rfl,?_⟩;dsimp only[tN,zu,F8];have asks:∀(M2:Mp) (A2:sQ) (V2:qb) (m:Nat) (y3:Option D),m<9000000->tX a M0 M2 b A2 V2 l c m->qz A M A2 M2->(∀M3 A3,tX a M0 M3 b A3 (pN V2 (.asks i z fs)) l c (m+1)->qz A M A3 M3->nx [some (.ref b),some (.int ((i:Nat):Int)),some (.ref r),some (.str z),some (.str z),some (wR fs)] M3)->zq (M2 b) λC fs'=>fs'.lookup ("apply":Str)=none/\∃sp,(C=a.c/\sp=vh a)/\4<=sizeLine/\sp [.ref b,.tup [.str "asks",.int ((i:Nat):Int),.str z,wR fs]] M2 λ_ M3=>nx [some (.ref b),some (.int ((i:Nat):Int)),some (.ref r),some (.str z),some (.str z),some (wR fs)] M3:=λM2 A2 V2 m y3 hm c2 s2 k=>oK c2.at_ ⟨rfl,_,⟨rfl,rfl⟩,by rw[dI];decide,b,A2,V2,.asks i z fs,rfl,c2.b,c2.bd,c2.lim hc hm,trivial,λM3 A3 eb s3 bd=>k M3 A3 (c2.after trivial eb s3 bd) (s2.trans s3)⟩;cases hl:FP none (st.take pre.length)with
  | none=>rw[hl]at VI;refine asks M' A' V1 _ none (by omega) c1 Wf λM3 A3 c3 s3=>VI _ _ ⟨⟨A3,c3.mono (c9 _) (by omega),s3⟩,_,_,rfl⟩
  | some y=>rw[hl]at VI;refine oK c1.at_ ⟨rfl,_,⟨rfl,rfl⟩,oG rfl,b,A',V1,.leg ⟨i,y,z,y⟩,rfl,c1.b,c1.bd,c1.lim hc (by omega),Xc,λM2 A2 eb s2 bd=>?_⟩;have c2:=c1.after (e:=.leg ⟨i,y,z,y⟩) Xc eb s2 bd;refine asks M2 A2 _ _ none (by omega) c2 (Wf.trans s2) λM3 A3 c3 s3=>VI _ _ ⟨⟨A3,c3.mono (c9 _) (by omega),s3⟩,_,_,rfl⟩
 .rintro δ M' ⟨⟨A',c1,Wf⟩,_⟩
  have hl:(qM st).length=st.length:=by unfold qM;rw[cQ]
  rw[hl,fE]at c1;exact⟨M',.refl,q M' A' c1 Wf⟩
def J2(G:Gl K mg a):Fq P w K mg base 4 a.a0 (LG a):=by
 refine fq G.a0.toDG ua (λr u=>⟨_,(oJ (pq (oV u (pI (oP v0) G.h.toCls G.aI (xc G) r (pO U2)) oO)
 (oJ (oZ 4 ua (pI (oP v0) G.h.toCls G.V (tS G) r (pO U2)))
 (oJ (oZ 5 ua (pE (pE (wW v4 (pO (o9 U3 oN))) oN) (pB pU rfl G.g pQ (pO v4))))
 (oM (pf (pI v0 G.c.toCls G.k (qD G) r (pO (pk (qP oO U2 v5))))))))
 oX)
 (oM (pf (pI v0 G.c.toCls G.k (qD G) r (pO (pk (qP oO U1 U3))))))),?_⟩)
 rintro ds M Q ⟨M0,b,A,V,l,c,n,i,z,ps,rfl,cu,hc,hn,hi,hz,VV,hm,hps,q⟩
 obtain⟨ph,gr,ws,W0,pr,gd,rs,i1,_⟩:=cu.pl;have pl:=cu.pl;obtain⟨x,ps',rfl⟩:=fH VV;obtain⟨⟨pne,_⟩,_⟩:=cu.ok.of hz;refine RP (t:=Rm _ _ _) (λδ M'=>(∃A',tX a M0 M' b A' (qo V (if (l.mD z=="turns")=true then[.next z (Pu (l.mj z) x)]else[])) l c (n+1)/\qz A M A' M')/\∃y1 y2,δ=[some (.ref b),some (.int ((i:Nat):Int)),some (.str z),some (names (x::ps')),y1,y2]) (λnx h=>?_) ?_
 .refine oK cu.at_ (i' rfl (oK i1 ⟨rfl,_,⟨rfl,rfl⟩,V.p,z,l,rfl,pl,?_⟩));refine qg (c:=l.mD z=="turns") (λg=>?_) (λg=>?_)
  .rw[cX g]at h;refine oK cu.at_ (i' rfl (oK i1 ⟨rfl,_,⟨rfl,rfl⟩,V.p,z,l,rfl,pl,λp hp=>?_⟩));have t:=pY.new (c:=.lst ((l.mj z).map D.str)) hp;have lp:=@oS M p ((l.mj z).map D.str);have cu':=cu.sub t;have st0:qz A M A (oU M p (.lst ((l.mj z).map D.str))):=.sub t;generalize oU M p (.lst ((l.mj z).map D.str))=M1 at t lp cu' st0 ⊢;have ej:=DR x (l.mj z) (hm x dH);have lpos:0<(l.mj z).length:=eX.mpr pne;have el:(((l.mj z).map D.str).length:Int)=(l.mj z).length:=by rw[cQ]
   refine⟨by show(oA M1 p).isSome=true;rw[lp];rfl,i' (yT _ _) (i' lp ⟨rfl,pG _,i' ej (i' lp ⟨by rw[el];omega,?_⟩)⟩)⟩;rw[el];refine oK cu'.at_ ⟨rfl,_,⟨rfl,rfl⟩,oG rfl,b,A,V,.next z (Pu (l.mj z) x),rfl,cu'.b,cu'.bd,cu'.lim hc (by omega),trivial,λM2 A2 eb st W7=>?_⟩;exact h _ _ ⟨⟨A2,cu'.after (e:=.next z (Pu (l.mj z) x)) trivial eb st W7,st0.trans st⟩,_,_,rfl⟩
  .rw[cV g]at h;exact h _ _ ⟨⟨A,cu.mono (c9 _) (by omega),.refl⟩,_,_,rfl⟩
 rintro δ M1 ⟨⟨A1,c1,Wf⟩,y1,y2,rfl⟩
 have q:∀M' A',tX a M0 M' b A' (qo V ((if (l.mD z=="turns")=true then[.next z (Pu (l.mj z) x)]else[])++[.rings i (x::ps')])) l c (n+2)->qz A M A' M'->Q .mz M':=q;rw[ra]at q;have Xc:i<(qo V (if (l.mD z=="turns")=true then[.next z (Pu (l.mj z) x)]else[])).calls.length:=by
  split
  .exact hi
  .exact hi
 generalize qo V (if (l.mD z=="turns")=true then[.next z (Pu (l.mj z) x)]else[])=V1 at c1 q Xc;refine oK c1.at_ ⟨rfl,_,⟨rfl,rfl⟩,oG rfl,b,A1,V1,.rings i (x::ps'),rfl,c1.b,c1.bd,c1.lim hc (by omega),⟨Xc,hps⟩,λM2 A2 eb VW W7=>?_⟩;exact⟨M2,.refl,q M2 A2 (c1.after (e:=.rings i (x::ps')) ⟨Xc,hps⟩ eb VW W7) (Wf.trans VW)⟩
def Mn(G:Gl K mg a):Fq P w K mg base 4 a.a1 (MA a):=by
 refine fq G.a1.toDG xk (λr u=>⟨_,(oJ (oZ 3 xk (pI v0 G.c.toCls G.Q (yb G) r (pO U2)))
 (oJ (oZ 4 xk (pE (pR uh rfl G.I ug (pO (oP (o9 (oP v0) U3)))) (pk (pO (oP (o9 (oP v0) U1))))))
 (oM (pf (pI v0 G.c.toCls G.k (qD G) r (pO (pk (pF oO (qP U1 U3 v4))))))))),?_⟩)
 rintro ds M Q ⟨M0,b,A,V,l,c,n,i,z,rfl,cu,hc,hn,hi,⟨j,k,ej,ek,Wx,XE⟩,q⟩
 have hz:=dI;have ei:V.calls[i]?=some V.calls[i]:=cS hi;generalize V.calls[i]=ci at ei;obtain⟨ka,qi⟩:=cu.call ei;obtain⟨kb,qj⟩:=cu.call ek;obtain⟨ad,md,h1,h2,h3,h4,_⟩:=qi.cell;obtain⟨ad',md',g1,g2,g3,g4,_⟩:=qj.cell;have hee:sA l V i (.breaks z)=[.merge i j (k.ms++[ci.cr])]:=by unfold sA;dsimp only;rw[ej,ei];dsimp only;rw[ek];rfl
 rw[hee]at q;have ok:(Ev.merge i j (k.ms++[ci.cr])).ok V:=⟨hi,(cT.mp ek).1,Wx,by rw[cU,XE];show 3<=100;decide⟩;refine oK cu.at_ ⟨rfl,_,⟨rfl,rfl⟩,A,V,z,by rw[cu.b],cu.bd,dU cu.sz.ca hc,?_⟩;rw[show zK V z=.int (j:Nat)from by unfold zK;rw[ej];rfl];refine oK cu.at_ (i' rfl (i' rfl (i' cu.bd.ca (i' (qN qj.e1) (oK g1 (i' rfl (i' g4 ?_)))))));refine oK cu.at_ (i' rfl (i' rfl (i' cu.bd.ca (i' (qN qi.e1) (oK h1 (i' rfl ⟨oG rfl,?_⟩))))));refine⟨(by intro y;rw[List.map_eq_nil_iff]at y;rw[y]at XE;cases XE),(by rw[cQ,XE];show 2+1<=sizeLine;omega),?_⟩;rw[show k.ms.map D.str++[D.str ci.cr]=(k.ms++[ci.cr]).map D.str by rw[dM];rfl];refine oK cu.at_ ⟨rfl,_,⟨rfl,rfl⟩,oG rfl,b,A,V,.merge i j (k.ms++[ci.cr]),rfl,cu.b,cu.bd,cu.lim hc (by omega),ok,λM2 A2 eb VW W7=>?_⟩;exact⟨M2,.refl,q M2 A2 ((cu.after ok eb VW W7).mono (c9 _) (by omega)) VW⟩
def Nr(G:Gl K mg a):Fq P w K mg base 5 a.a2 (Hs a):=by
 refine fq G.a2.toDG xb (λr u=>⟨_,(oJ (oZ 3 xb (o9 U2 oN))
 (oM (pq (oV u U3 oO)
 (oM (pf (oY (J2 G) r G.a0 (pF v0 (qP U1 (o9 U2 oN) (o9 U2 oN))))))
 (oM (pq (oV u U3 oO)
 (oM (pf (pI v0 G.c.toCls G.k (qD G) r (pO (pk (qP oO U1 (o9 U2 oN)))))))
 (oM (pq (oV u U3 oO)
 (oM (pf (oY (Mn G) r G.a1 (qP v0 U1 (o9 U2 oN)))))
 (oM (pf (pI v0 G.c.toCls G.k (qD G) r (pO (pk (qP oO U1 U3))))))))))))),?_⟩)
 rintro ds M Q ⟨M0,b,A,V,l,c,n,i,e,rfl,cu,hc,hn,hi,he,q⟩
 have one:∀(ev:Ev) (ok:ev.ok V),ev.nw=0->sA l V i e=[ev]->∀M2 A2,A2.b=A.b->qz A M A2 M2->pb a M2 A2 (pN V ev)->∃Vz,pY Vz M2/\Q .mz Vz:=λev ok h0 h1 M2 A2 eb VW W7=>by rw[h1]at q;have c2:=cu.after ok eb VW W7;rw[h0]at c2;exact⟨M2,.refl,q M2 A2 (c2.mono (c9 _) (by omega)) VW⟩
 cases e with
 | rings z ps=>exact⟨M0,b,A,V,l,c,n,i,z,ps,rfl,cu,hc,hn,hi,he.1,he.2.1,he.2.2.1,he.2.2.2,λM' A' c1 st=>⟨M',.refl,q M' A' c1 st⟩⟩
 | waits z=>exact oK cu.at_ ⟨rfl,_,⟨rfl,rfl⟩,oG rfl,b,A,V,.waits i z,rfl,cu.b,cu.bd,cu.lim hc (by omega),hi,one (.waits i z) hi rfl rfl⟩
 | breaks z=>exact⟨M0,b,A,V,l,c,n,i,z,rfl,cu,hc,hn,hi,he,λM' A' c1 st=>⟨M',.refl,q M' A' c1 st⟩⟩
 | engaged z=>exact oK cu.at_ ⟨rfl,_,⟨rfl,rfl⟩,oG rfl,b,A,V,.over i "engaged",rfl,cu.b,cu.bd,cu.lim hc (by omega),hi,one (.over i "engaged") hi rfl rfl⟩
 | barred=>exact oK cu.at_ ⟨rfl,_,⟨rfl,rfl⟩,oG rfl,b,A,V,.over i "barred",rfl,cu.b,cu.bd,cu.lim hc (by omega),hi,one (.over i "barred") hi rfl rfl⟩
 | ring ns=>exact oK cu.at_ ⟨rfl,_,⟨rfl,rfl⟩,oG rfl,b,A,V,.over i "ring",rfl,cu.b,cu.bd,cu.lim hc (by omega),hi,one (.over i "ring") hi rfl rfl⟩
def KH{l:oW}{V:qb}{i:Nat}{k:oQ}{e:vn}(ok:rg l)(wf:zb l V (some i))(hk:V.calls[i]?=some k)(h:Fh l V k.cr e):Fe l V i e:=by
 cases e with
 | rings z ps=>obtain⟨hz,VV,rfl⟩:=h;have h1:=(FF (l:=l) (V:=V) (c:=k.cr) (z:=z));have h2:=(ok.of hz).1.2.1;exact⟨hz,VV,λx hx=>(h1.1 x hx).2,by have:=h1.2;omega⟩
 | breaks z=>
  obtain⟨x,rfl,hb⟩:=h;obtain⟨j,d,e1,e2,e3,e4,e5,_⟩:=FL hb;refine⟨j,d,e1,e2,λy=>?_,e5⟩;subst y;rw[hk]at e2;cases e2;have sh:=(wf.ok i k hk).sh;rw[show(some i==some i)=true from eE _]at sh;rcases sh with g|g
  .rw[g.1]at e3;exact absurd e3 (by decide)
  .cases g.1
 | _=>trivial
def Ia(G:Gl K mg a):Fq P w K mg base 9 a.aa (Oa a):=by
 refine fq G.aa.toDG vH (λr u=>⟨_,(oJ (oZ 2 vH (o9 (oP v0) U1))
 (oJ (oZ 3 vH (oY (Li G) r G.aT (pF v0 (qP (oP U2) (o9 (oP U2) (EF oN)) (rN (oP U2) sE (rW (EF oN)))))))
 (oJ (oZ 4 vH (o9 U3 oN))
 (oJ (oZ 5 vH (o9 U3 oN))
 (oJ (pf (oY (OJ G) r G.aZ (qP v0 U1 v5)))
 (oJ (pq (W3.b3 (wK (oV u (o9 v4 oN) oO) (vZ (oV u (pB pU rfl G.g pQ (pO v5)) oN))))
 (oJ (oZ 6 vH (o9 (o9 v5 (EF oN)) oN))
 (oM (pf (pI v0 G.c.toCls G.k (qD G) r (pO (pk (pF oO (pF U1 (qP v6 (o9 (o9 v4 oN) oN) v6)))))))))
 oX)
 (oM (pf (oY (Nr G) r G.a2 (qP v0 U1 v4)))))))))),?_⟩)
 rintro ds M Q ⟨M0,b,A,V,l,c,n,i,k,rfl,cu,hc,hn,wf,hk,q⟩
 obtain⟨ka,ci⟩:=cu.call hk;obtain⟨ad,md,h1,h2,h3,h4,n1,n2⟩:=ci.cell;have WE:=wf.ok i k hk;have hi:=(cT.mp hk).1;obtain⟨z,hz⟩:∃z,k.way.getLast?=some z:=by
  cases e:k.way.getLast? with
  | none=>exact absurd (gG.mp e) WE.wy.1
  | some z=>exact⟨z,rfl⟩
 have WD:z∈l.nm:=WE.wy.2 z (iM hz);have hdn:∀x∈k.way.dropLast,x∈l.nm:=λx hx=>WE.wy.2 x (iN _ hx);have hwl:=(cu.sz.cs k (qC hk)).1;have hev:wz l V i=rf i none (ur l V k.cr z k.way.dropLast).2++(sW i (ur l V k.cr z k.way.dropLast).2 (ur l V k.cr z k.way.dropLast).1++sA l V i (ur l V k.cr z k.way.dropLast).1):=by
  unfold wz;rw[hk];have:k.way.getLastD Str.empty=z:=by rw[ib,hz];rfl
  dsimp only[Option.elim];rw[this]
 rw[hev]at q;have ro:xB l V k.cr (l.nm.length+1) [] (ur l V k.cr z k.way.dropLast):=yq cu.ok _ _ _ _ WD hdn;have rl:=ro.len;have eo:=KH cu.ok wf hk ro.e;have nl:l.nm.length<=11:=by have p8:=cu.ok.p8;have g3:=cu.ok.g3;unfold oW.nm oW.pn oW.gn;rw[cU,cQ,cQ];omega
 have re:=ro.e;refine RP (t:=FR _ _) (λδ M'=>M=M'/\δ=[some (.ref b),some (.int ((i:Nat):Int)),some (.ref ka.p),none,none,none,none]) (λnx0 h=>oK cu.at_ (i' rfl (i' rfl (i' ci.bd.ca (i' (qN ci.e1) (h _ _ ⟨rfl,rfl⟩)))))) ?_
 rintro δ _ ⟨rfl,rfl⟩
 refine RP (t:=FR _ _) (λδ M'=>pY M M'/\∃r,M r=none/\oA M' r=some (qM (ur l V k.cr z k.way.dropLast).2)/\δ=[some (.ref b),some (.int ((i:Nat):Int)),some (.ref ka.p),some (.tup [(ur l V k.cr z k.way.dropLast).1.d,.ref r]),none,none,none]) (λnx0 h=>?_) ?_
 .refine oK h1 (i' rfl (oK h1 (i' rfl (i' h2 (i' (NF hz) (oK h1 (i' rfl (i' h2 λp hp=>?_))))))));rw[show L3.sT (k.way.map D.str) none (some (-1:Int))=k.way.dropLast.map D.str from(KC _).trans (List.map_dropLast).symm];have t:=pY.new (c:=.lst (k.way.dropLast.map D.str)) hp;have lp:=@oS M p (k.way.dropLast.map D.str);refine⟨A,V,l,k.cr,z,p,k.way.dropLast,by rw[cu.b],(cu.rd hc wf).sub t,WD,wf.nx,lp,by rw[List.length_dropLast];omega,λr M' s hr lr=>?_⟩;exact h _ _ ⟨t.trans s,r,t.none hr,lr,rfl⟩
 rintro δ M1 ⟨s1,r,hr,lr,rfl⟩
 generalize ur l V k.cr z k.way.dropLast=R at lr ro rl eo re q;obtain⟨e,st⟩:=R;have cu1:=cu.sub s1;have rl:st.length<=0+(l.nm.length+1):=rl;refine⟨M0,b,A,V,l,c,n,i,st,r,rfl,cu1,hc,by omega,by omega,hi,lr,cu.bd.nz hr,λM2 A2 c2 VW=>?_⟩;have same:=uQ i st none V;have WM:i<(qo V (rf i none st)).calls.length:=by rw[same.len];exact hi
 have Yj:oA M2 r=some (qM st):=rY (VW.1 r _ (cu.bd.nz hr) (pS lr));rw[ra,ra]at q;have hee:=λV' (h:sL V V')=>h.ends (l:=l) i e;have hat:∀V',sL V V'->Fe l V' i e:=λV' h=>by
  cases e with
  | breaks z'=>obtain⟨j,d,a1,a2,a3,a4⟩:=eo;obtain⟨d',b1,b2⟩:=h.at_ a2;exact⟨j,d',by rw[h.m9];exact a1,b1,a3,by rw[show d'.ms=d.ms from show d'.bare.ms=d.bare.ms by rw[b2]];exact a4⟩
  | rings _ _=>exact eo
  | _=>trivial
 generalize qo V (rf i none st)=V2 at c2 WM same q;have WG:∀(M3:Mp) (A3:sQ) (V3:qb),tX a M0 M3 b A3 V3 l c (n+2*st.length+1)->qz A M A3 M3->sL V V3->i<V3.calls.length->V3=qo V2 (sW i st e)->Hs a [.ref b,.int ((i:Nat):Int),e.d] M3 λ_ M'=>∃Vz,pY Vz M'/\Q .mz Vz:=λM3 A3 V3 c3 s3 WH hi3 e3=>⟨M0,b,A3,V3,l,c,_,i,e,rfl,c3,hc,by omega,hi3,hat V3 WH,λM4 A4 c4 s4=>⟨M4,.refl,q M4 A4 (by
  rw[<-e3];rw[hee V3 WH]at c4;exact c4.mono (c9 _) (by omega)) (s3.trans s4)⟩⟩
 have c2':=c2.mono (c9 c) (show n+2*st.length<=n+2*st.length+1 by omega);have WU:=(qz.sub s1 (A:=A)).trans VW;cases e with
 | ring ns=>
  obtain⟨x,ns',rfl⟩:=fH (show ns≠[]from re);refine i' Yj ?_;cases hl:st.getLast? with
  | none=>have:st=[]:=gG.mp hl;subst this;exact WG M2 A2 V2 c2' WU same WM rfl
  | some s0=>
   have W6:0<st.length:=by cases st with|nil=>cases hl|cons _ _=>exact l8 _
   have hd:decide ((0:Int)<((qM st).length:Int))=true:=dO (by unfold qM;rw[cQ];omega);refine wU (c:=decide ((0:Int)<((qM st).length:Int))) hd ?_;have hat1:vL (qM st) (-1)=some (.tup [.str s0.1,wR s0.2]):=by
    unfold vL;have e1:F5 (qM st).length (-1)=some (st.length - 1):=by unfold qM;rw[cQ];unfold F5;simp;omega
    rw[e1];show(qM st)[st.length - 1]?=_;unfold qM;rw[dw,<-jr,hl];rfl
   have hrv:sW i st (.ring (x::ns'))=[.leg ⟨i,s0.1,x,s0.1⟩]:=by unfold sW;dsimp only;rw[hl];rfl
   rw[hrv]at WG;refine i' Yj (i' hat1 ?_);refine oK c2.at_ ⟨rfl,_,⟨rfl,rfl⟩,i' (yT _ _) ⟨oG rfl,b,A2,V2,.leg ⟨i,s0.1,x,s0.1⟩,rfl,c2.b,c2.bd,c2.lim hc (by omega),WM,λM3 A3 eb Wp bd3=>?_⟩⟩;have WH:=same.trans (yZ V2 ⟨i,s0.1,x,s0.1⟩);exact WG M3 A3 _ (c2.after (e:=.leg ⟨i,s0.1,x,s0.1⟩) WM eb Wp bd3) (WU.trans Wp) WH (by rw[WH.len];exact hi) rfl
 | rings z' ps=>exact WG M2 A2 V2 c2' WU same WM rfl
 | waits z'=>exact WG M2 A2 V2 c2' WU same WM rfl
 | breaks z'=>exact WG M2 A2 V2 c2' WU same WM rfl
 | engaged z'=>exact WG M2 A2 V2 c2' WU same WM rfl
 | barred=>exact WG M2 A2 V2 c2' WU same WM rfl
def Lh(G:Gl K mg a):Fq P w K mg base 10 a.a3 (KF a):=by
 refine fq G.a3.toDG yy (λr u=>⟨_,(oJ (oZ 3 yy (pB pU rfl G.g pQ (pO (oP v0))))
 (oJ (pf (pI v0 G.c.toCls G.k (qD G) r (pO (pk (qP oO U3 U1)))))
 (oJ (pf (pI v0 G.c.toCls G.k (qD G) r (pO (pk (pF oO (pF U3 (qP U1 U2 U1)))))))
 (oM (pf (oY (Ia G) r G.aa (rJ v0 U3))))))),?_⟩)
 rintro ds M Q ⟨M0,b,A,V,l,c,n,y,z,rfl,cu,hc,hn,wf,q⟩
 have lc:((A.cs.map λk=>D.ref k.p).length:Int)=(V.calls.length:Nat):=by rw[cQ,cu.bd.len]
 refine oK cu.at_ (i' rfl (i' cu.bd.ca ?_));rw[lc];refine oK cu.at_ ⟨rfl,_,⟨rfl,rfl⟩,oG rfl,b,A,V,.new V.calls.length y,rfl,cu.b,cu.bd,cu.lim (by omega) (by omega),trivial,λM1 A1 eb1 Wf bd1=>?_⟩;have c1:=cu.after (e:=.new V.calls.length y) trivial eb1 Wf bd1;have ok2:(Ev.leg ⟨V.calls.length,y,z,y⟩).ok (pN V (.new V.calls.length y)):=by show V.calls.length<(V.calls++[yt y]).length;rw[cU];exact fu _
 refine oK c1.at_ ⟨rfl,_,⟨rfl,rfl⟩,oG rfl,b,A1,_,.leg ⟨V.calls.length,y,z,y⟩,rfl,c1.b,c1.bd,c1.lim (by show c+1<=_;omega) (by omega),ok2,λM2 A2 eb2 VW W7=>?_⟩;have c2:=c1.after ok2 eb2 VW W7;obtain⟨k,hk⟩:∃k,(qo V [.new V.calls.length y,.leg ⟨V.calls.length,y,z,y⟩]).calls[V.calls.length]?=some k:=by
  have:V.calls.length<(qo V [.new V.calls.length y,.leg ⟨V.calls.length,y,z,y⟩]).calls.length:=by show V.calls.length<((V.calls++[yt y]).modify _ _).length;rw[gb];exact ok2
  exact⟨_,cS this⟩
 refine⟨M0,b,A2,_,l,c+1,n+2,V.calls.length,k,rfl,c2,by omega,by omega,wf,hk,λM3 A3 c3 Wp=>⟨M3,.refl,q M3 A3 ?_ (Wf.trans (VW.trans Wp))⟩⟩;unfold D6;rw[ra];exact c3.mono (c9 _) (by omega)
noncomputable def Ez(V:qb)(x:Str):D:=FJ (tZ V x)
abbrev Do:=JC Ez
def Mr(a:Ad):qJ:=λds M Q=>Fs λA V l x z=>ds=[.ref A.b,.str x,.str z]/\Rd a M A V l/\x∈l.pn/\Q (FJ (F' l V x z)) M
inductive uY(a:Ad)(M:Mp)(L:List Addr):List qQ->List oQ->Prop
 | nil:uY a M L [] []
 | cons (k:qQ) (c:oQ) (ks:List qQ) (cs:List oQ) (h:rh a M L k c) (r:uY a M L ks cs):uY a M L (k::ks) (c::cs)
def tG.nf(w:Str)(m:Nat):Prop:=((w="answer"\/w="hang"\/w="hold"\/w="back")/\m=1)\/((w="hand"\/w="join")/\m=2)
def Lg(a:Ad):qJ:=λds M Q=>JM λwd x r L ks cs=>ds=[.str wd,.str x,.ref r]/\oA M r=some (List.map (λk:qQ=>D.ref k.p) ks)/\uY a M L ks cs/\tG.nf wd cs.length/\Q (.bl (IA wd x cs)) M
def IJ(a:Ad):qJ:=λds M Q=>JM λA V l wd x ns=>ds=[.ref A.b,.str wd,.str x,.tup (List.map D.int ns)]/\Rd a M A V l/\x∈l.pn/\tG.nf wd ns.length/\Q (FJ (Lf l V wd x ns)) M
def P5(a:Ad):qJ:=λds M Q=>AD λA V b i=>ds=[.ref A.b,.str (RV b),.int i]/\pb a M A V/\Q (FJ (NC V b i)) M
def G0(a:Ad):qJ:=λds M Q=>AD λA V l e=>ds=[.ref A.b,tG.d e]/\Rd a M A V l/\e.mX/\Q (FJ (xl l V e)) M
noncomputable def U'(m:Nat):D->D
 | .int i=>.bl (yS m i)
 | _=>.bl false
noncomputable def U6(A:sQ):D->D
 | .int i=>(A.cs[i.toNat]?).elim .mz λk=>.ref k.p
 | _=>.mz
theorem Py{a:Ad}{M:Mp}{A:sQ}{V:qb}(bd:pb a M A V):∀{ns:List Int},ns.all (yS V.calls.length)=true->∃ks,uY a M (A.lists++V.fo) ks (sJ V ns)/\(ns.map D.int).map (U6 A)=ks.map (λk:qQ=>D.ref k.p)/\(sJ V ns).length=ns.length/\∀i∈ns,∃k,0<=i/\A.cs[i.toNat]?=some k
 | [],_=>⟨[],.nil,rfl,rfl,λi hi=>by cases hi⟩
 | i::r,h=>by
  rw[gg,dP]at h;obtain⟨ks,h1,h2,h3,h4⟩:=Py bd h.2;have hh:(decide (0<=i)&&decide (i<V.calls.length))=true:=h.1;rw[dP,d6,d6]at hh;have hi:i.toNat<V.calls.length:=by omega
  have hk:i.toNat<A.cs.length:=by rw[bd.len];exact hi
  have e1:A.cs[i.toNat]?=some A.cs[i.toNat]:=cS hk;have e2:V.calls[i.toNat]?=some V.calls[i.toNat]:=cS hi;have ec:sJ V (i::r)=V.calls[i.toNat]::sJ V r:=by unfold sJ;rw[List.filterMap_cons_some (f:=λi:Int=>V.calls[i.toNat]?) e2]
  rw[ec];refine⟨A.cs[i.toNat]::ks,.cons _ _ _ _ (bd.cs _ _ _ e1 e2) h1,?_,eL Nat.succ h3,λj hj=>?_⟩
  .rw[dQ,dQ,h2];show(A.cs[i.toNat]?).elim _ _::_=_;rw[e1];rfl
  .rcases cZ.mp hj with rfl|hj
   .exact⟨_,hh.1,e1⟩
   .exact h4 j hj
def uY.sub{a:Ad}{M M':Mp}{L:List Addr}{ks:List qQ}{cs:List oQ}(h:uY a M L ks cs)(s:pY M M'):uY a M' L ks cs:=by
 induction h with
 | nil=>exact .nil
 | cons k c ks cs h r ih=>exact .cons k c ks cs (h.sub s) ih
def Rh{bs:List Bool}{i:Int}(h:yS bs.length i=true):vL (bs.map D.bl) i=some (.bl (bs.getD i.toNat false)):=by
 have hh:(decide (0<=i)&&decide (i<bs.length))=true:=h;rw[dP,d6,d6]at hh;obtain⟨n,rfl⟩:=dY hh.1;have hn:n<bs.length:=by omega
 refine uz ?_;rw[dw,cS hn];show some (D.bl bs[n])=some (.bl (bs.getD n false));rw[gz,cS hn];rfl
def Dh(G:Gl K mg a):Fq P w K mg base 4 a.Z (Do a):=by
 refine fq G.Z.toDG yk (λr u=>⟨_,(oJ (pq (oV u (pI v0 G.c.toCls G.bC (Mv G) r (pO U1)) qU)
 (oM (oR oO))
 oX)
 (oJ (pq (oV u (pI v0 G.c.toCls G.bD (GL G) r (pO U1)) qU)
 (oM (oR oO))
 oX)
 (oM (oR qU)))),?_⟩)
 rintro ds M Q ⟨A,V,x,rfl,bd,hk,q⟩
 unfold Ez tZ at q;refine oK bd.at_ ⟨rfl,_,⟨rfl,rfl⟩,A,V,x,rfl,bd,hk,?_⟩;unfold LQ;cases e:Eo V x with
 | some j=>rw[e]at q;exact⟨M,.refl,q⟩
 | none=>
  rw[e]at q;refine oK bd.at_ ⟨rfl,_,⟨rfl,rfl⟩,A,V,x,rfl,bd,hk,?_⟩;unfold Ss;cases e:Im V x with
  | some j=>rw[e]at q;exact⟨M,.refl,q⟩
  | none=>rw[e]at q;exact⟨M,.refl,q⟩
def L4(G:Gl K mg a):Fq P w K mg base 5 a.aU (Mr a):=by
 refine fq G.aU.toDG vK (λr u=>⟨_,(oJ (pq (oV u U2 (xE (oP v0) G.h.toCls G.bx (Cr G) r))
 (oM (oR oO))
 oX)
 (oJ (oZ 3 vK (oY (Dh G) r G.Z (rJ v0 U1)))
 (oJ (pq (W3.b3 (wK (oV u U3 qU) (vZ (um (tT (pI v0 G.c.toCls G.S (xY G) r (pO U1)))))))
 (oM (oR oO))
 oX)
 (oM (oR U3))))),?_⟩)
 rintro ds M Q ⟨A,V,l,x,z,rfl,rd,hx,q⟩
 obtain⟨ph,gr,ws,W0,pr,gd,rs,i1,_⟩:=rd.pl;have p8:=rd.ok.p8;have g3:=rd.ok.g3;unfold F' at q;refine oK rd.bd.at_ (i' rfl (oK i1 ⟨rfl,_,⟨rfl,rfl⟩,V.p,l,rfl,rd.pl,by omega,by omega,λp hp=>i' oS ⟨rfl,pG _,?_⟩⟩));have t:=pY.new (c:=.lst (l.nm.map D.str)) hp;have V7:=rd.sub t;generalize oU M p (.lst (l.nm.map D.str))=M1 at t V7 ⊢;show if (!(inD (.str z) (l.nm.map D.str)))=true then _ else _
 rw[qO];refine qg (c:=!(hasS l.nm z)) (λg=>?_) (λg=>?_)
 .rw[cX (by simpa using g)]at q;exact⟨M,t,q⟩
 rw[cV (by simpa using g)]at q;refine⟨A,V,x,rfl,V7.bd,V7.k,?_⟩;unfold Ez;cases e:tZ V x with
 | some w0=>rw[e]at q;exact⟨M,t,q⟩
 | none=>
  rw[e]at q;refine oK V7.bd.at_ ⟨rfl,_,⟨rfl,rfl⟩,A,V,l,x,rfl,V7,hx,?_⟩;refine qg (c:=!(sV l V x)) (λg=>?_) (λg=>?_)
  .rw[g]at q;exact⟨M,t,q⟩
  .rw[show(!(sV l V x))=false from dB.mpr g]at q;exact⟨M,t,q⟩
def LZ(G:Gl K mg a):Fq P w K mg base 3 a.aV (Lg a):=by
 refine fq G.aV.toDG LS (λr u=>⟨_,(oJ (pq (oV u v0 oO)
 (oM (oR (pC u U1 (oP (o9 U2 oN)))))
 oX)
 (oJ (pq (oV u v0 oO)
 (oM (oR (pI (o9 U2 oN) G.e.toCls G.bG (Mf G) r (pO U1))))
 oX)
 (oJ (pq (oV u v0 oO)
 (oM (oR (pI (o9 U2 oN) G.e.toCls G.au (Fc G) r (pO U1))))
 oX)
 (oJ (pq (oV u v0 oO)
 (oM (oR (pC u (oP (o9 U2 oN)) U1)))
 oX)
 (oM (oR (qT (pC u (oP (o9 U2 oN)) U1) (qS (pI (o9 U2 oN) G.e.toCls G.au (Fc G) r (pO U1)))))))))),?_⟩)
 rintro ds M Q ⟨wd,x,r,L,ks,cs,rfl,lr,X7,hw,q⟩
 cases X7 with
 | nil=>rcases hw with⟨_,h⟩|⟨_,h⟩<;>cases h
 | cons k c ks cs hc Wm=>
 obtain⟨ad,md,h1,h2,h3,h4,_⟩:=id hc;have a0:=yT (.ref k.p) (ks.map λk:qQ=>D.ref k.p);have hold:∀K:DK,K (.bl (c.hd==some x)) M->Option.elim (CO M 9 (FJ c.hd) (.str x)) False λb=>K (.bl b) M:=λK hK=>by
  cases e:c.hd with
  | none=>rw[e]at hK;exact hK
  | some y=>rw[e]at hK;exact hK
 rcases hw with⟨rfl|rfl|rfl|rfl,h⟩|⟨hw,h⟩
 .exact i' lr (i' a0 (oK h1 (i' rfl (C5 h3 ⟨M,.refl,q⟩))))
 .exact i' lr (i' a0 (oK h1 ⟨rfl,_,⟨rfl,rfl⟩,L,k,c,x,rfl,hc,M,.refl,q⟩))
 .exact i' lr (i' a0 (oK h1 ⟨rfl,_,⟨rfl,rfl⟩,L,k,c,x,rfl,hc,M,.refl,q⟩))
 .exact i' lr (i' a0 (oK h1 (i' rfl (hold _ ⟨M,.refl,q⟩))))
 .cases Wm with
  | nil=>cases h
  | cons k' d ks cs hd _=>
   obtain⟨ad',md',f1,_⟩:=id hd;have a1:vL (.ref k.p::.ref k'.p::ks.map λk:qQ=>D.ref k.p) 1=some (.ref k'.p):=uz (j:=1) rfl;have qq:Q (.bl ((c.hd==some x)&&d.mH x)) M:=by
    rcases hw with rfl|rfl
    .exact q
    .exact q
   rcases hw with rfl|rfl
   all_goals
    refine i' lr (i' a0 (oK h1 (i' rfl ?_)));cases e:c.hd with
    | none=>rw[e]at qq;exact⟨M,.refl,qq⟩
    | some y=>
     rw[e]at qq;have qq:Q (.bl ((y==x)&&d.mH x)) M:=qq;refine qg (c:=y==x) (λg=>?_) (λg=>?_)
     .rw[g,eD]at qq;exact i' lr (i' a1 (oK f1 ⟨rfl,_,⟨rfl,rfl⟩,L,k',d,x,rfl,hd,M,.refl,qq⟩))
     .rw[show(y==x)=false from dB.mpr g,eN]at qq;exact⟨M,.refl,qq⟩
def MZ(G:Gl K mg a):Fq P w K mg base 5 a.aW (IJ a):=by
 refine fq G.aW.toDG sP (λr u=>⟨_,(oJ (pq (um (tT (pB (AW rfl) rfl G.aN Bb (pO (qh rfl (xu (ix:=[none,some 0]) (N':=["number","board"])) (qd U3) (qe 0) rB (tP u oN v0 (pB pU rfl G.g pQ (pO (oP U1)))))))))
 (oM (oR oO))
 oX)
 (oJ (uF (i:=4) sP.nd rfl (Or.inl rfl) rfl (xu (ix:=[none,some 0]) (N':=["number","board"])) (qd U3) (qe 0) rB (o9 (oP U1) v0))
 (oJ (pq (um (tT (oY (LZ G) r G.aV (qP U1 U2 v4))))
 (oM (oR oO))
 oX)
 (oJ (pq (oV u U1 (pk (rJ oO oO)))
 (oM (oR qU))
 oX)
 (oJ (oZ 5 sP (oY (Dh G) r G.Z (rJ v0 U2)))
 (oJ (pq (W3.b3 (wK (oV u v5 qU) (wK (tT (pI (o9 v4 oN) G.e.toCls G.aq (E2 G) r (pO U2))) (vZ (um (tT (pI v0 G.c.toCls G.S (xY G) r (pO U2))))))))
 (oM (oR oO))
 oX)
 (oM (oR v5)))))))),?_⟩)
 rintro ds M Q ⟨A,V,l,wd,x,ns,rfl,rd,hx,hw,q⟩
 have hz:=dI;have Ym:ns.length<=2:=by rcases hw with⟨_,h⟩|⟨_,h⟩<;>omega
 have lca:((A.cs.map λk=>D.ref k.p).length:Int)=V.calls.length:=by rw[cQ,rd.bd.len]
 unfold Lf at q;refine qy (f:=U' V.calls.length) trivial _ [] _ (by rw[cQ];simp only[dD];omega) (λd hd k hk=>?_) λp hp=>?_
 .obtain⟨i,_,rfl⟩:=dv.mp hd;have hk:k (.bl (decide (0<=i)&&decide (i<V.calls.length))) M:=hk;refine qg (c:=decide (0<=i)) (λg=>?_) (λg=>?_)
  .rw[g,eD]at hk;refine oK rd.bd.at_ (i' rfl (i' rd.bd.ca ?_));rw[lca];exact hk
  .rw[show decide (0<=i)=false from dB.mpr g,eN]at hk;exact hk
 have em:[]++(ns.map D.int).map (U' V.calls.length)=ns.map λi=>D.bl (yS V.calls.length i):=by rw[dS,dX];rfl
 rw[em];have t:=pY.new (c:=.lst (ns.map λi=>D.bl (yS V.calls.length i))) hp;refine i' oS (i' (wm (yS V.calls.length) ns) ?_);have V7:=rd.sub t;generalize oU M p (.lst (ns.map λi=>D.bl (yS V.calls.length i)))=M1 at t V7 ⊢;rw[yz];refine qg (c:=!(ns.all (yS V.calls.length))) (λg=>?_) (λWh=>?_)
 .rw[cX (by simpa using g)]at q;exact⟨M,t,q⟩
 have Wh:ns.all (yS V.calls.length)=true:=by simpa using Wh
 rw[cV (by rw[Wh];exact Bool.noConfusion)]at q;obtain⟨ks,hks,eks,lcs,Xu⟩:=Py V7.bd Wh;refine qy (f:=U6 A) trivial _ [] _ (by rw[cQ];simp only[dD];omega) (λd hd k0 hk=>?_) λp2 VH=>?_
 .obtain⟨i,hi,rfl⟩:=dv.mp hd;obtain⟨k,i0,e1⟩:=Xu i hi;obtain⟨n,rfl⟩:=dY i0;have e1:A.cs[n]?=some k:=e1;have hk:k0 ((A.cs[n]?).elim .mz λk=>.ref k.p) M1:=hk;rw[e1]at hk;exact oK V7.bd.at_ (i' rfl (i' rfl (i' V7.bd.ca (i' (qN e1) hk))))
 rw[dS,eks];have t2:=pY.new (c:=.lst (ks.map λk:qQ=>D.ref k.p)) VH;have l2:=@oS M1 p2 (ks.map λk:qQ=>D.ref k.p);have XG:=V7.sub t2;have s2:=t.trans t2;generalize oU M1 p2 (.lst (ks.map λk:qQ=>D.ref k.p))=M2 at l2 XG s2 t2 ⊢;have hks:=hks.sub t2;generalize sJ V ns=cs at hks lcs q;refine⟨wd,x,p2,_,ks,cs,rfl,l2,hks,by rw[lcs];exact hw,?_⟩;refine qg (c:=!IA wd x cs) (λg=>?_) (λg=>?_)
 .rw[cX (by simpa using g)]at q;exact⟨M,s2,q⟩
 rw[cV (by simpa using g)]at q;have two:∀wd:Str,(wd=="answer"||wd=="back")=true->Q (FJ (if ((tZ V x).isNone&&(cs.head?.elim false (λc=>c.mx x)&&!(sV l V x)))=true then some "full" else tZ V x)) M->cs.length=1->Do a [.ref A.b,.str x] M2 λdue M3=>tW (Rm (Ow (b3 (k3 .Is (v3 5) (c3 .mz))) (Ow (b3 (zU "waits_with" (λD s=>D=a.e/\s=vg a) (i3 (v3 4) (c3 (.int 0))) (uG (v3 2) xf))) (S7 (b3 (zU "is_free" (λD s=>D=a.c/\s=wu a) (v3 0) (uG (v3 2) xf)))))) (Qp (c3 (.str "full"))) TH) (Qp (v3 5)) {nx:=λ_ M'=>∃Vz,pY Vz M'/\Q .mz Vz,rt:=λd M'=>∃Vz,pY Vz M'/\Q d Vz} [some (.ref A.b),some (.str wd),some (.str x),some (.tup (ns.map D.int)),some (.ref p2),some due] M3:=λwd _ q hl=>by
  cases hks with
  | nil=>cases hl
  | cons k c ks cs hc _=>
  have q:Q (FJ (if ((tZ V x).isNone&&(c.mx x&&!(sV l V x)))=true then some "full" else tZ V x)) M:=q;obtain⟨ad,md,h1,_⟩:=id hc;refine⟨A,V,x,rfl,XG.bd,XG.k,?_⟩;unfold Ez;cases e:tZ V x with
  | some w0=>rw[e]at q;exact⟨M,s2,q⟩
  | none=>
   rw[e]at q;refine i' l2 (i' (yT _ _) (oK h1 ⟨rfl,_,⟨rfl,rfl⟩,_,k,c,x,rfl,hc,?_⟩));refine qg (c:=c.mx x) (λg1=>?_) (λg1=>?_)
   .rw[g1]at q;refine oK XG.bd.at_ ⟨rfl,_,⟨rfl,rfl⟩,A,V,l,x,rfl,XG,hx,?_⟩;refine qg (c:=!(sV l V x)) (λg=>?_) (λg=>?_)
    .rw[g]at q;exact⟨M,s2,q⟩
    .rw[show(!(sV l V x))=false from dB.mpr g]at q;exact⟨M,s2,q⟩
   .rw[show c.mx x=false from dB.mpr g1]at q;exact⟨M,s2,q⟩
 rcases hw with⟨rfl|rfl|rfl|rfl,h⟩|⟨rfl|rfl,h⟩
 .exact⟨oG rfl,rfl,rfl,two "answer" rfl q (lcs.trans h)⟩
 .exact⟨oG rfl,rfl,rfl,M,s2,q⟩
 .exact⟨oG rfl,rfl,rfl,M,s2,q⟩
 .exact⟨oG rfl,rfl,rfl,two "back" rfl q (lcs.trans h)⟩
 .exact⟨oG rfl,rfl,rfl,M,s2,q⟩
 .exact⟨oG rfl,rfl,rfl,M,s2,q⟩
def Qe(G:Gl K mg a):Fq P w K mg base 1 a.aX (P5 a):=by
 refine fq G.aX.toDG yg (λr u=>⟨_,(oJ (pq (um (E4 u oN U2 (pB pU rfl G.g pQ (pO (oP v0)))))
 (oM (oR oO))
 oX)
 (oJ (pq (oV u (o9 (oP v0) U2) (pC u U1 oO))
 (oM (oR oO))
 oX)
 (oM (oR qU)))),?_⟩)
 rintro ds M Q ⟨A,V,b,i,rfl,bd,q⟩
 unfold NC at q;have Xu:yS V.on.length i=(decide (0<=i)&&decide (i<V.on.length)):=rfl;have lon:((V.on.map D.bl).length:Int)=V.on.length:=by rw[cQ]
 have no:yS V.on.length i=false->Q (.str "wish") M:=λh=>by rw[cX h]at q;exact q
 have yes:yS V.on.length i=true->Q (FJ (if (V.on.getD i.toNat false==b)=true then some "wish" else none)) M:=λh=>by rw[h,cV Bool.noConfusion]at q;exact q
 refine qg (c:=decide (0<=i)) (λg0=>?_) (λg0=>⟨M,.refl,no (by rw[Xu,show decide (0<=i)=false from dB.mpr g0];rfl)⟩);refine oK bd.at_ (i' rfl (i' bd.on ?_));rw[lon];refine qg (c:=!(decide (i<(V.on.length:Int)))) (λg1=>⟨M,.refl,no (by rw[Xu,g0,show decide (i<(V.on.length:Int))=false by simpa using g1];rfl)⟩) (λg1=>?_);have h:yS V.on.length i=true:=by rw[Xu,g0,show decide (i<(V.on.length:Int))=true by simpa using g1];rfl
 have q:=yes h;refine oK bd.at_ (i' rfl (i' rfl (i' bd.on (i' (Rh h) ?_))));have es:(RV b=="on")=b:=by cases b<;>rfl
 show if (V.on.getD i.toNat false==(RV b=="on"))=true then _ else _
 rw[es];refine qg (λg=>?_) (λg=>?_)
 .rw[cX g]at q;exact⟨M,.refl,q⟩
 .rw[cV g]at q;exact⟨M,.refl,q⟩
def GQ(G:Gl K mg a):Fq P w K mg base 6 a.aY (G0 a):=by
 refine fq G.aY.toDG AL (λr u=>⟨_,(oJ (oZ 2 AL (o9 U1 oN))
 (oJ (pq (oV u U2 oO)
 (oM (oR qU))
 oX)
 (oJ (pq (oV u U2 (pk (rJ oO oO)))
 (oM (oR (oY (Qe G) r G.aX (qP v0 U2 (o9 U1 oN)))))
 oX)
 (oJ (pq (oV u (o9 U1 oN) (xE (oP v0) G.h.toCls G.R (sO G) r))
 (oM (oR oO))
 oX)
 (oJ (pq (oV u U2 oO)
 (oM (oR (oY (L4 G) r G.aU (qP v0 (o9 U1 oN) (o9 U1 oN)))))
 oX)
 (oM (oR (oY (MZ G) r G.aW (pF v0 (qP U2 (o9 U1 oN) (rN U1 (rW oN) sE))))))))))),?_⟩)
 rintro ds M Q ⟨A,V,l,e,rfl,rd,hf,q⟩
 obtain⟨ph,gr,ws,W0,pr,gd,rs,i1,_⟩:=rd.pl;have p8:=rd.ok.p8;cases e with
 | turn=>exact⟨M,.refl,q⟩
 | sw b i=>
  cases b with
  | true=>exact⟨oG rfl,rfl,rfl,A,V,true,i,rfl,rd.bd,M,.refl,q⟩
  | false=>exact⟨oG rfl,rfl,rfl,A,V,false,i,rfl,rd.bd,M,.refl,q⟩
 | call x z=>
  have q:Q (FJ (if hasS l.pn x=false then some "name" else F' l V x z)) M:=q;refine⟨oG rfl,rfl,rfl,?_⟩;refine oK rd.bd.at_ (i' rfl (oK i1 ⟨rfl,_,⟨rfl,rfl⟩,V.p,l,rfl,rd.pl,by omega,λp VH=>i' oS ⟨rfl,pG _,?_⟩⟩));have t:=pY.new (c:=.lst (l.pn.map D.str)) VH;have V7:=rd.sub t;generalize oU M p (.lst (l.pn.map D.str))=M1 at t V7 ⊢;show if (!(inD (.str x) (l.pn.map D.str)))=true then _ else _
  rw[qO];refine qg (c:=!(hasS l.pn x)) (λg=>?_) (λg=>?_)
  .rw[cX (by simpa using g)]at q;exact⟨M,t,q⟩
  .have g:hasS l.pn x=true:=by simpa using g
   rw[g,cV Bool.noConfusion]at q;exact⟨A,V,l,x,z,rfl,V7,qk.mp g,M,t,q⟩
 | num wd x ns=>
  have q:Q (FJ (if hasS l.pn x=false then some "name" else Lf l V wd x ns)) M:=q;have hf:tG.nf wd ns.length:=hf;have key:∀(M1:Mp),pY M M1->if (!(inD (.str x) (l.pn.map D.str)))=true then(∃Vz,pY Vz M1/\Q (.str "name") Vz)else IJ a [.ref A.b,.str wd,.str x,.tup (ns.map D.int)] M1 λd M'=>∃Vz,pY Vz M'/\Q d Vz:=λM1 t=>by
   rw[qO];refine qg (c:=!(hasS l.pn x)) (λg=>?_) (λg=>?_)
   .rw[cX (by simpa using g)]at q;exact⟨M,t,q⟩
   .have g:hasS l.pn x=true:=by simpa using g
    rw[g,cV Bool.noConfusion]at q;exact⟨A,V,l,wd,x,ns,rfl,rd.sub t,qk.mp g,hf,M,t,q⟩
  have one:ns.length=1->∃i,ns=[i]:=List.length_eq_one_iff.mp;have two:ns.length=2->∃i j,ns=[i,j]:=λh=>by
   match ns,h with
   | [i,j],_=>exact⟨i,j,rfl⟩
  rcases id hf with⟨rfl|rfl|rfl|rfl,h⟩|⟨rfl|rfl,h⟩
  .obtain⟨i,rfl⟩:=one h;exact⟨oG rfl,rfl,rfl,oK rd.bd.at_ (i' rfl (oK i1 ⟨rfl,_,⟨rfl,rfl⟩,V.p,l,rfl,rd.pl,by omega,λp VH=>i' oS ⟨rfl,pG _,key _ (.new VH)⟩⟩))⟩
  .obtain⟨i,rfl⟩:=one h;exact⟨oG rfl,rfl,rfl,oK rd.bd.at_ (i' rfl (oK i1 ⟨rfl,_,⟨rfl,rfl⟩,V.p,l,rfl,rd.pl,by omega,λp VH=>i' oS ⟨rfl,pG _,key _ (.new VH)⟩⟩))⟩
  .obtain⟨i,rfl⟩:=one h;exact⟨oG rfl,rfl,rfl,oK rd.bd.at_ (i' rfl (oK i1 ⟨rfl,_,⟨rfl,rfl⟩,V.p,l,rfl,rd.pl,by omega,λp VH=>i' oS ⟨rfl,pG _,key _ (.new VH)⟩⟩))⟩
  .obtain⟨i,rfl⟩:=one h;exact⟨oG rfl,rfl,rfl,oK rd.bd.at_ (i' rfl (oK i1 ⟨rfl,_,⟨rfl,rfl⟩,V.p,l,rfl,rd.pl,by omega,λp VH=>i' oS ⟨rfl,pG _,key _ (.new VH)⟩⟩))⟩
  .obtain⟨i,j,rfl⟩:=two h;exact⟨oG rfl,rfl,rfl,oK rd.bd.at_ (i' rfl (oK i1 ⟨rfl,_,⟨rfl,rfl⟩,V.p,l,rfl,rd.pl,by omega,λp VH=>i' oS ⟨rfl,pG _,key _ (.new VH)⟩⟩))⟩
  .obtain⟨i,j,rfl⟩:=two h;exact⟨oG rfl,rfl,rfl,oK rd.bd.at_ (i' rfl (oK i1 ⟨rfl,_,⟨rfl,rfl⟩,V.p,l,rfl,rd.pl,by omega,λp VH=>i' oS ⟨rfl,pG _,key _ (.new VH)⟩⟩))⟩
def Cq(V:qb)(x:Str):Prop:=∀c∈V.calls,¬zO c x
def Ec{V:qb}{x:Str}(h:tZ V x=none):Cq V x:=by
 unfold tZ at h;cases e1:Eo V x with
 | some j=>rw[e1]at h;cases h
 | none=>
  cases e2:Im V x with
  | some j=>rw[e1,e2]at h;cases h
  | none=>
   intro c hc g;have h1:=js.mp e1 c hc;have h2:=js.mp e2 c hc;rcases g with g|g
   .rw[h1]at g;cases g
   .rw[h2]at g;cases g
def rS{c:oQ}(h:c.st="rings"){x:Str}:zO c x↔x=c.cr:=by unfold zO oQ.mF oQ.mB oQ.mG;rw[h];simp(decide:=true)
def C6{c:oQ}(h:c.st="waits"){x:Str}:zO c x↔x=c.cr:=by unfold zO oQ.mF oQ.mB oQ.mG;rw[h];simp(decide:=true)
def sI{c:oQ}(h:c.st="talks"){x:Str}:zO c x↔x∈c.ms:=by unfold zO oQ.mF oQ.mB oQ.mG;rw[h,<-qk];simp(decide:=true)
def AJ{c:oQ}(h:c.st="held"){x:Str}:zO c x↔x∈c.ms/\c.hd≠some x:=by unfold zO oQ.mF oQ.mB;rw[h,<-qk];simp(decide:=true)
def Fw{c:oQ}(h:c.st="over"){x:Str}:¬zO c x:=by unfold zO oQ.mF oQ.mB oQ.mG;rw[h];simp(decide:=true)
def rT{c:oQ}(h:c.st="rings"){x:Str}:c.hasB x=true↔x=c.cr\/x∈c.at_:=by unfold oQ.hasB;rw[h,<-qk];simp(decide:=true)
def CT{c:oQ}(h:c.st="waits"){x:Str}:c.hasB x=true↔x=c.cr:=by unfold oQ.hasB;rw[h];simp(decide:=true)
def r6{c:oQ}(h:c.st="talks"\/c.st="held"){x:Str}:c.hasB x=true↔x∈c.ms:=by unfold oQ.hasB;rw[<-qk];rcases h with h|h<;>(rw[h];simp(decide:=true))
def Gb{c:oQ}(h:c.st="over"){x:Str}:c.hasB x=false:=by unfold oQ.hasB;rw[h];simp(decide:=true)
def rF{c:oQ}{x:Str}:c.mx x=true↔c.st="waits"/\x∈c.at_:=by unfold oQ.mx;rw[dP,fg,qk]
theorem EE{α:Type}(f:α->Bool):∀{l:List α} {i:Nat} {c:α} (c':α),l[i]?=some c->((l.set i c').filter f).length+(if f c=true then 1 else 0)=(l.filter f).length+(if f c'=true then 1 else 0)
 | [],_,_,_,h=>by simp at h
 | x::r,0,c,c',h=>by cases h;rw[List.set_cons_zero,gq,gq];split<;>split<;>simp
 | x::r,i+1,c,c',h=>by
  have ih:=EE f (l:=r) (i:=i) (c:=c) c' (by simpa using h);rw[kQ,gq,gq];split
  .rw[dW,dW];omega
  .exact ih
def zb.set{l:oW}{V V':qb}{o o':Option Nat}{i:Nat}{c c':oQ}(h:zb l V o)(e:V'.calls=V.calls.set i c')(hc:V.calls[i]?=some c)(ho:∀j,j≠i->(o==some j)=(o'==some j))(ok:uR l (o'==some i) c')(he:∀x,zO c' x->zO c x\/Cq V x)(hu:∀x,c'.hasB x=true->c.hasB x=true\/(ut V x:Int)<ub l x)(hw:∀x,c'.mx x=true->c.mx x=true\/zI V x=false)(nx:tR l V'):zb l V' o':=by
 have si:∀{j:Nat} {d:oQ},V'.calls[j]?=some d->(j=i/\d=c')\/(j≠i/\V.calls[j]?=some d):=λ{j d} g=>by rw[e]at g;exact(Et g).imp (λg=>⟨g.1,g.2.1⟩) id
 have key:∀(j:Nat) cj x,j≠i->V.calls[j]?=some cj->zO c' x->zO cj x->False:=λj cj x hj e1 g1 g2=>by
  rcases he x g1 with z|z
  .exact hj (h.un j i cj c x e1 hc g2 z)
  .exact z cj (qC e1) g2
 have keyw:∀(j:Nat) cj x,j≠i->V.calls[j]?=some cj->c'.mx x=true->cj.mx x=true->False:=λj cj x hj e1 g1 g2=>by
  rcases hw x g1 with z|z
  .exact hj (h.wt j i cj c x e1 hc g2 z)
  .unfold zI at z;exact absurd g2 (by rw[kU.mp z cj (qC e1)|>dB.mpr];exact Bool.noConfusion)
 refine⟨λj d g=>?_,λm n cm cn x e1 e2 g1 g2=>?_,λx hx=>?_,λm n cm cn x e1 e2 g1 g2=>?_,nx⟩
 .rcases si g with⟨rfl,rfl⟩|⟨hj,g⟩
  .exact ok
  .rw[<-ho j hj];exact h.ok j d g
 .rcases si e1 with⟨rfl,rfl⟩|⟨hm,e1⟩<;>rcases si e2 with⟨rfl,rfl⟩|⟨hn,e2⟩
  .rfl
  .exact(key n cn x hn e2 g1 g2).elim
  .exact(key m cm x hm e1 g2 g1).elim
  .exact h.un m n cm cn x e1 e2 g1 g2
 .have cs:=EE (λk:oQ=>k.hasB x) c' hc;have hl:=h.ln x hx;unfold ut at hl ⊢;rw[e];by_cases g:c'.hasB x=true
  .rw[cX g]at cs;rcases hu x g with z|z
   .rw[cX z]at cs;omega
   .unfold ut at z;omega
  .rw[cV g]at cs;omega
 .rcases si e1 with⟨rfl,rfl⟩|⟨hm,e1⟩<;>rcases si e2 with⟨rfl,rfl⟩|⟨hn,e2⟩
  .rfl
  .exact(keyw n cn x hn e2 g1 g2).elim
  .exact(keyw m cm x hm e1 g2 g1).elim
  .exact h.wt m n cm cn x e1 e2 g1 g2
def zb.add{l:oW}{V V':qb}{c':oQ}(h:WF l V)(e:V'.calls=V.calls++[c'])(ok:uR l true c')(he:∀x,zO c' x->Cq V x)(hu:∀x,c'.hasB x=true->(ut V x:Int)<ub l x)(hw:∀x,c'.mx x=false)(nx:tR l V'):zb l V' (some V.calls.length):=by
 have si:∀{j:Nat} {d:oQ},V'.calls[j]?=some d->(j=V.calls.length/\d=c')\/(j≠V.calls.length/\V.calls[j]?=some d):=λ{j d} g=>by
  rw[e]at g;by_cases z:j<V.calls.length
  .rw[eS z]at g;exact .inr ⟨by omega,g⟩
  .have:=(cT.mp g).1;rw[cU,dN]at this;have z:j=V.calls.length:=by omega
   subst z;rw[eO (c9 _)]at g;simp only[g9,ip,jk]at g;exact .inl ⟨rfl,g.symm⟩
 refine⟨λj d g=>?_,λm n cm cn x e1 e2 g1 g2=>?_,λx hx=>?_,λm n cm cn x e1 e2 g1 g2=>?_,nx⟩
 .rcases si g with⟨rfl,rfl⟩|⟨hj,g⟩
  .rw[eE];exact ok
  .rw[show(some V.calls.length==some j)=false by simpa using dG hj];exact h.ok j d g
 .rcases si e1 with⟨rfl,rfl⟩|⟨hm,e1⟩<;>rcases si e2 with⟨rfl,rfl⟩|⟨hn,e2⟩
  .rfl
  .exact(he x g1 cn (qC e2) g2).elim
  .exact(he x g2 cm (qC e1) g1).elim
  .exact h.un m n cm cn x e1 e2 g1 g2
 .have hl:=h.ln x hx;unfold ut at hl ⊢;rw[e,im,cU,gq];split
  .rename_i g;have:=hu x g;unfold ut at this;simp only[iJ,dN];omega
  .simp only[iJ,dD];omega
 .rcases si e1 with⟨rfl,rfl⟩|⟨hm,e1⟩<;>rcases si e2 with⟨rfl,rfl⟩|⟨hn,e2⟩
  .rfl
  .rw[hw x]at g1;cases g1
  .rw[hw x]at g2;cases g2
  .exact h.wt m n cm cn x e1 e2 g1 g2
noncomputable def oQ.core(c:oQ):oQ:={c with way:=[],si:=0}
def yV(V V':qb):Prop:=V'.calls.map oQ.core=V.calls.map oQ.core
def yV.at_{V V':qb}(h:yV V V'){i:Nat}{c':oQ}(e:V'.calls[i]?=some c'):∃c,V.calls[i]?=some c/\c'.core=c.core:=by
 have:=eL (·[i]?) h;simp only[dw,e]at this;cases e':V.calls[i]? with
 | none=>rw[e']at this;cases this
 | some c=>rw[e']at this;exact⟨c,rfl,de this⟩
def yV.used{V V':qb}(h:yV V V')(x:Str):ut V' x=ut V x:=by
 have key:∀cs:List oQ,(cs.filter (·.hasB x)).length=((cs.map oQ.core).filter (·.hasB x)).length:=λcs=>by rw[gP,cQ];rfl
 unfold ut;rw[key,h,<-key]
def yV.wf{l:oW}{V V':qb}{o:Option Nat}(h:yV V V')(wf:zb l V o)(hw:∀(i:Nat) c',V'.calls[i]?=some c'->c'.way≠[]/\∀z∈c'.way,z∈l.nm)(nx:tR l V'):zb l V' o:=by
 refine⟨λi c' e=>?_,λi j ci cj x e1 e2 g1 g2=>?_,λx hx=>by rw[h.used];exact wf.ln x hx,λi j ci cj x e1 e2 g1 g2=>?_,nx⟩
 .obtain⟨c,ec,ee⟩:=h.at_ e;have k:=wf.ok i c ec;have k1:c'.at_=c.at_:=show c'.core.at_=c.core.at_ by rw[ee]
  have k2:c'.ms=c.ms:=show c'.core.ms=c.core.ms by rw[ee]
  have k3:c'.cr=c.cr:=show c'.core.cr=c.core.cr by rw[ee]
  exact⟨by show Pj _ c'.core;rw[ee];exact k.sh,by rw[k3];exact k.cr,by rw[k1];exact k.at_,by rw[k2];exact k.ms,by rw[k1];exact k.an,by rw[k2];exact k.mn,by rw[k1,k3];exact k.ca,hw i c' e⟩
 .obtain⟨di,a1,a2⟩:=h.at_ e1;obtain⟨dj,b1,b2⟩:=h.at_ e2;exact wf.un i j di dj x a1 b1 (by show zO di.core x;rw[<-a2];exact g1) (by show zO dj.core x;rw[<-b2];exact g2)
 .obtain⟨di,a1,a2⟩:=h.at_ e1;obtain⟨dj,b1,b2⟩:=h.at_ e2;exact wf.wt i j di dj x a1 b1 (by show di.core.mx x=true;rw[<-a2];exact g1) (by show dj.core.mx x=true;rw[<-b2];exact g2)
def sL.core{V V':qb}(h:sL V V'):yV V V':=by have:=eL (List.map oQ.core) h;rw[dX,dX]at this;exact this
def JI(V:qb):yV V (pN V .turn):=by show(V.calls.map oQ.tick).map oQ.core=V.calls.map oQ.core;rw[dX];refine gJ λc _=>?_;show(oQ.tick c).core=c.core;unfold oQ.tick;split<;>rfl
def Em{l:oW}{V:qb}(wf:WF l V):WF l (pN V .turn):=(JI V).wf wf (λi c' e=>by
 have e:(V.calls.map oQ.tick)[i]?=some c':=e;rw[dw]at e;cases q:V.calls[i]? with
 | none=>rw[q]at e;cases e
 | some c=>
  rw[q]at e;have e:c.tick=c':=de e;have hw:c.tick.way=c.way:=by unfold oQ.tick;split<;>rfl
  rw[<-e,hw];exact(wf.ok i c q).wy) wf.nx
def Tp{l:oW}{V:qb}{b:Bool}{i:Nat}(wf:WF l V):WF l (pN V (.sw b i)):=⟨wf.ok,wf.un,wf.ln,wf.wt,wf.nx⟩
def EB{l:oW}{V:qb}{o:Option Nat}{i:Nat}{z:Str}{ns:List Nat}(wf:zb l V o):zb l (pN V (.asks i z ns)) o:=⟨wf.ok,wf.un,wf.ln,wf.wt,wf.nx⟩
def G4{l:oW}{V:qb}{o:Option Nat}{v:rD}(wf:zb l V o)(hz:v.g∈l.nm):zb l (pN V (.leg v)) o:=(yZ V v).core.wf wf (λi c' e=>by
 have e:(V.calls.modify v.i (·.go v.g))[i]?=some c':=e;rw[iO]at e;cases q:V.calls[i]? with
 | none=>rw[q]at e;cases e
 | some c=>
  rw[q]at e;have k:=(wf.ok i c q).wy;have e:(if v.i=i then c.go v.g else c)=c':=de e;by_cases g:v.i=i
  .rw[cX g]at e;rw[<-e];refine⟨by show c.way++[v.g]≠[];simp,λz hz'=>?_⟩;rcases dR.mp (show z∈c.way++[v.g]from hz')with y|y
   .exact k.2 z y
   .rw[dg.mp y];exact hz
  .rw[cV g]at e;rw[<-show c=c' from e];exact k) wf.nx
theorem AU{l:oW}{o:Option Nat}(i:Nat):∀(st:so) (q:Option Str) {V:qb},zb l V o->(∀s∈st,s.1∈l.nm)->zb l (qo V (rf i q st)) o
 | [],_,V,wf,_=>wf
 | (y,gs)::r,none,V,wf,h=>AU i r (some y) (EB wf) λs hs=>h s (dA _ hs)
 | (y,gs)::r,some u,V,wf,h=>AU i r (some y) (EB (G4 wf (h _ dH))) λs hs=>h s (dA _ hs)
def qR{V:qb}{i:Nat}{c:oQ}{f:oQ->oQ}(h:V.calls[i]?=some c):(wZ V i f).calls=V.calls.set i (f c):=by unfold wZ;rw[sG h]
def Aw{i:Nat}:∀j,j≠i->((some i:Option Nat)==some j)=((none:Option Nat)==some j):=λj hj=>by rw[show((some i:Option Nat)==some j)=false by simpa using dG hj];rfl
def Ux{l:oW}{V:qb}{i:Nat}{c:oQ}(wf:zb l V (some i))(hc:V.calls[i]?=some c):c.st="rings"/\c.ms=[]/\c.hd=none/\c.wd=none/\c.at_=[]:=by
 have sh:=(wf.ok i c hc).sh;rw[eE]at sh;rcases sh with g|g
 .exact⟨g.1,g.2.1,g.2.2.1,g.2.2.2.1,g.2.2.2.2.1 rfl⟩
 .cases g.1
def MW{l:oW}{c:oQ}{o:Bool}{w:Str}(k:uR l o c)(hw:w∈HR):uR l false (c.over w):=⟨.inr ⟨rfl,.inr (.inr (.inr ⟨rfl,rfl,rfl,rfl,w,hw,rfl⟩))⟩,k.cr,(λx hx=>by cases hx),(λx hx=>by cases hx),eC,eC,(λhx=>by cases hx),k.wy⟩
def wj{l:oW}{V V':qb}{o:Option Nat}{i:Nat}{c:oQ}{w:Str}(wf:zb l V o)(hc:V.calls[i]?=some c)(ho:o=none\/o=some i)(hw:w∈HR)(e:V'.calls=V.calls.set i (c.over w))(nx:tR l V'):WF l V':=
 wf.set e hc (λj hj=>by rcases ho with rfl|rfl;rfl;exact Aw j hj) (MW (wf.ok i c hc) hw) (λx g=>(Fw rfl g).elim) (λx g=>by rw[Gb (c:=c.over w) rfl]at g;cases g) (λx g=>by have:=(rF.mp g).1;exact absurd this (show("over":Str)≠"waits" by decide)) nx
def GB{l:oW}{V:qb}{c z:Str}(h:(l.mj z).Nodup):(xo l V c z).Nodup:=by
 unfold xo;split
 .cases(uu (l.mj z) (y0 V z)).filter λx=>hasS (tU l V c z) x with
  | nil=>exact eC
  | cons y r=>exact dJ.mpr ⟨dz,eC⟩
 .exact h.sublist fU
def Md(ps:List (Str×Int))(z:Str)(n:Int)(y:Str):(Bq ps z n).find? (λp=>decide (p.1=y))=if y=z then some (z,n)else ps.find? λp=>decide (p.1=y):=by
 unfold Bq;by_cases h:ps.any (λp=>decide (p.1=z))=true
 .rw[cX h];induction ps with
  | nil=>cases h
  | cons p r ih=>
   rw[dQ,fA,fA];by_cases hp:p.1=z
   .rw[cX hp];by_cases hy:y=z
    .rw[cX hy,hy];simp[hp]
    .rw[cV hy];have n1:decide (p.1=y)=false:=eJ (λq=>hy (q.symm.trans hp));simp only[n1];by_cases hr:r.any (λp=>decide (p.1=z))=true
     .have:=ih hr;rw[cV hy]at this;exact this
     .have hr:∀q∈r,¬q.1=z:=λq hq g=>hr (gp.mpr ⟨q,hq,dO g⟩);rw[show r.map (λp=>if p.1=z then(p.1,n)else p)=r from(gJ λq hq=>cV (hr q hq)).trans (iW _)]
   .rw[cV hp];have hr:r.any (λp=>decide (p.1=z))=true:=by
     rw[fW,gO]at h;rcases h with g|g
     .exact absurd (fK g) hp
     .exact g
    have ih:=ih hr;by_cases hy:y=z
    .rw[cX hy]at ih ⊢;have n1:decide (p.1=y)=false:=eJ (λq=>hp (q.trans hy));simp only[n1];exact ih
    .rw[cV hy]at ih ⊢;cases decide (p.1=y)with
     | true=>rfl
     | false=>exact ih
 .rw[cV h,List.find?_append];have hr:∀q∈ps,¬q.1=z:=λq hq g=>h (gp.mpr ⟨q,hq,dO g⟩);by_cases hy:y=z
  .subst hy;rw[cX rfl,gQ.mpr λq hq=>by simpa using hr q hq,Option.none_or];simp
  .rw[cV hy,fA,eJ (λq:z=y=>hy q.symm)];simp
def K3{l:oW}{V:qb}{z:Str}{n:Int}(h:tR l V)(h0:0<=n)(h1:n<=((l.mj z).length:Int)):tR l (pN V (.next z n)):=λy hy ht=>by
 show ∃v,(Bq V.ps z n).find? _=some v/\_;rw[Md];by_cases e:y=z
 .subst e;rw[cX rfl];exact⟨_,rfl,h0,h1⟩
 .rw[cV e];exact h y hy ht
def Ep{l:oW}{V:qb}{x:Str}(h:sV l V x=true):(ut V x:Int)<ub l x:=fK h
def JA{l:oW}{V V':qb}{o:Option Nat}{i:Nat}{c:oQ}{w x:Str}(wf:zb l V o)(hc:V.calls[i]?=some c)(e:V'.calls=V.calls.set i (c.over w))(hx:zO c x):Cq V' x:=λd hd g=>by
 rw[e]at hd;obtain⟨j,hj,ed⟩:=fM hd;have ej:(V.calls.set i (c.over w))[j]?=some d:=by rw[cS hj,ed]
 rcases Et ej with⟨_,rfl,_⟩|⟨VV,ej⟩
 .exact Fw rfl g
 .exact VV (wf.un j i d c x ej hc g hx)
def Jf{V V':qb}{i:Nat}{c:oQ}{w x:Str}(hc:V.calls[i]?=some c)(e:V'.calls=V.calls.set i (c.over w))(hx:c.hasB x=true):ut V' x+1=ut V x:=by
 have:=EE (λk:oQ=>k.hasB x) (c.over w) hc;unfold ut;rw[e];simp only[hx,iz,Gb (c:=c.over w) rfl]at this
 simpa using this
def Gf{l:oW}{V V':qb}{o:Option Nat}{i j:Nat}{c d:oQ}{ms:List Str}(wf:zb l V o)(ho:o=none\/o=some i)(hc:V.calls[i]?=some c)(hd:V.calls[j]?=some d)(Wx:i≠j)(e:V'.calls=(V.calls.set i (c.over "merged")).set j (d.mem ms))(nx:tR l V')(dt:d.st="talks")(m1:ms.Nodup)(m2:ms.length=2\/ms.length=3)(m3:∀x∈ms,x∈d.ms\/(zO c x/\c.hasB x=true))(m4:∀x∈ms,x∈l.pn):WF l V':=by
 have e1:(wZ V i (·.over "merged")).calls=V.calls.set i (c.over "merged"):=qR hc;have w1:WF l (wZ V i (·.over "merged")):=wj wf hc ho (by decide) e1 wf.nx;have hd1:(wZ V i (·.over "merged")).calls[j]?=some d:=by rw[e1,eK Wx];exact hd
 have kd:=w1.ok j d hd1;have kd':d.hd=none/\d.wd=none/\d.at_=[]:=by
  rcases kd.sh with g|⟨_,g|g|⟨_,g⟩|g⟩
  .rw[dt]at g;exact absurd g.1 (by decide)
  .rw[dt]at g;exact absurd g.1 (by decide)
  .exact⟨g.2.2.1,g.2.2.2.1,g.2.2.2.2⟩
  .rw[dt]at g;exact absurd g.1 (by decide)
  .rw[dt]at g;exact absurd g.1 (by decide)
 refine w1.set (c':=d.mem ms) (by rw[e,e1]) hd1 (λ_ _=>rfl) ⟨.inr ⟨rfl,.inr (.inl ⟨dt,m2,kd'.1,kd'.2.1,kd'.2.2⟩)⟩,kd.cr,kd.at_,m4,kd.an,m1,kd.ca,kd.wy⟩ (λx g=>?_) (λx g=>?_) (λx g=>?_) nx
 .have g:=(sI (c:=d.mem ms) dt).mp g;rcases m3 x g with y|y
  .exact .inl ((sI dt).mpr y)
  .exact .inr (JA wf hc e1 y.1)
 .have g:=(r6 (c:=d.mem ms) (.inl dt)).mp g;rcases m3 x g with y|y
  .exact .inl ((r6 (.inl dt)).mpr y)
  .have:=Jf hc e1 y.2;have:=wf.ln x (m4 x g);exact .inr (by omega)
 .have:=(rF.mp g).1;rw[show(d.mem ms).st="talks" from dt]at this;exact absurd this (by decide)
def QB{l:oW}{V V1:qb}{i:Nat}{c:oQ}{e:vn}(ok:rg l)(wf:zb l V1 (some i))(same:yV V V1)(hc:V1.calls[i]?=some c)(he:Fh l V c.cr e):WF l (qo V1 (sA l V1 i e)):=by
 obtain⟨p1,p2,p3,p4,p5⟩:=Ux wf hc;have k:=wf.ok i c hc;have hi:=(cT.mp hc).1;cases e with
 | rings z ps=>
  obtain⟨hz,VV,rfl⟩:=he;obtain⟨⟨q1,q2,q3,q4⟩,_⟩:=ok.of hz;obtain⟨r1,r2⟩:=FF (l:=l) (V:=V) (c:=c.cr) (z:=z);generalize hps:xo l V c.cr z=ps at VV r1 r2;have VB:∀V2:qb,V2.calls=V1.calls->tR l V2->WF l (pN V2 (.rings i ps)):=λV2 e2 nx=>by
   have e3:(pN V2 (.rings i ps)).calls=V1.calls.set i (c.ring ps):=by show(wZ (qp V2 _) i _).calls=_;rw[qR (c:=c) (by show V2.calls[i]?=_;rw[e2];exact hc)];show V2.calls.set i _=_;rw[e2]
   have free:∀x∈ps,sV l V x=true/\x≠c.cr:=λx hx=>by have h:=(fz.mp (r1 x hx).1).2;simp only[dP,gC]at h;exact⟨h.2,by simpa using h.1⟩
   refine wf.set e3 hc Aw ⟨.inl ⟨rfl,p2,p3,p4,(λh=>by cases h),λ_=>VV⟩,k.cr,λx hx=>q4 x (r1 x hx).2,k.ms,by rw[<-hps];exact GB q3,k.mn,λhx=>(free _ hx).2 rfl,k.wy⟩ (λx g=>?_) (λx g=>?_) (λx g=>?_) nx
   .exact .inl ((rS p1).mpr ((rS (c:=c.ring ps) rfl).mp g))
   .rcases(rT (c:=c.ring ps) rfl).mp g with y|y
    .exact .inl ((rT p1).mpr (.inl y))
    .refine .inr ?_;rw[same.used];exact Ep (free x y).1
   .exact absurd (rF.mp g).1 (show("rings":Str)≠"waits" by decide)
  show WF l (qo V1 ((if (l.mD z=="turns")=true then _ else _)++[.rings i ps]));rw[ra];by_cases ht:(l.mD z=="turns")=true
  .rw[cX ht];have lp:0<(l.mj z).length:=eX.mpr q1;refine VB _ rfl (K3 wf.nx (eM _ (by omega)) (Int.le_of_lt (eI _ (by omega))))
  .rw[cV ht];exact VB V1 rfl wf.nx
 | waits z=>
  obtain⟨hz,VV,hw⟩:=he;have e3:(pN V1 (.waits i z)).calls=V1.calls.set i (c.wait z):=qR (V:=qp V1 _) hc;have hw1:zI V1 z=false:=by
   unfold zI at hw ⊢;have key:∀cs:List oQ,cs.any (·.mx z)=(cs.map oQ.core).any (·.mx z):=λcs=>by rw[jE];rfl
   rw[key,same,<-key];exact hw
  refine wf.set e3 hc Aw ⟨.inr ⟨rfl,.inl ⟨rfl,p2,p3,p4,rfl⟩⟩,k.cr,λx hx=>by rw[dg.mp hx];exact hz,k.ms,dJ.mpr ⟨dz,eC⟩,k.mn,λhx=>VV (dg.mp hx).symm,k.wy⟩ (λx g=>?_) (λx g=>?_) (λx g=>?_) wf.nx
  .exact .inl ((rS p1).mpr ((C6 (c:=c.wait z) rfl).mp g))
  .exact .inl ((rT p1).mpr (.inl ((CT (c:=c.wait z) rfl).mp g)))
  .have:=(rF.mp g).2;rw[dg.mp this];exact .inr hw1
 | breaks z=>
  obtain⟨x,rfl,hb⟩:=he;obtain⟨j,d0,t1,t2,t3,t4,t5,t6⟩:=FL hb;have ht:va V1 z=some j:=by
   rw[<-t1];unfold va;have key:∀cs:List oQ,cs.findIdx? (·.mG z)=(cs.map oQ.core).findIdx? (·.mG z):=λcs=>by rw[gX];rfl
   rw[key,same,<-key]
  obtain⟨d,ed,ec⟩:∃d,V1.calls[j]?=some d/\d.core=d0.core:=by
   have:=eL (·[j]?) same;simp only[dw,t2]at this;cases q:V1.calls[j]? with
   | none=>rw[q]at this;cases this
   | some d=>rw[q]at this;exact⟨d,rfl,de this⟩
  have ds:d.st="talks":=by rw[show d.st=d0.st from show d.core.st=d0.core.st by rw[ec]];exact t3
  have dm:d.ms=d0.ms:=show d.core.ms=d0.core.ms by rw[ec]
  have Wx:i≠j:=λy=>by subst y;rw[hc]at ed;cases ed;rw[p1]at ds;exact absurd ds (by decide)
  have hee:sA l V1 i (.breaks z)=[.merge i j (d.ms++[c.cr])]:=by unfold sA;dsimp only;rw[ht,hc];dsimp only;rw[ed];rfl
  rw[hee];have ncr:c.cr∉d.ms:=λy=>Wx (wf.un i j c d c.cr hc ed ((rS p1).mpr rfl) ((sI ds).mpr y));have kd:=wf.ok j d ed;refine Gf (V':=pN V1 (.merge i j (d.ms++[c.cr]))) (ms:=d.ms++[c.cr]) wf (.inr rfl) hc ed Wx ?_ wf.nx ds ?_ (.inr ?_) (λx hx=>?_) (λx hx=>?_)
  .show(V1.calls.modify i _).modify j _=_;rw[sG hc,sG (show(V1.calls.set i _)[j]?=some d by rw[eK Wx];exact ed)]
  .refine fQ.mpr ⟨kd.mn,dJ.mpr ⟨dz,eC⟩,λx hx y hy q=>ncr ?_⟩;rw[dg.mp hy]at q;rw[<-q];exact hx
  .rw[cU,dm,t5];rfl
  .rcases dR.mp hx with y|y
   .exact .inl y
   .rw[dg.mp y];exact .inr ⟨(rS p1).mpr rfl,(rT p1).mpr (.inl rfl)⟩
  .rcases dR.mp hx with y|y
   .exact kd.ms x y
   .rw[dg.mp y];exact k.cr
 | engaged z=>exact wj (V':=pN V1 (.over i "engaged")) wf hc (.inr rfl) (by decide) (qR (V:=qp V1 _) hc) wf.nx
 | barred=>exact wj (V':=pN V1 (.over i "barred")) wf hc (.inr rfl) (by decide) (qR (V:=qp V1 _) hc) wf.nx
 | ring ns=>exact wj (V':=pN V1 (.over i "ring")) wf hc (.inr rfl) (by decide) (qR (V:=qp V1 _) hc) wf.nx
def Pm{l:oW}{V:qb}{i:Nat}{k:oQ}(ok:rg l)(wf:zb l V (some i))(hk:V.calls[i]?=some k):WF l (qo V (wz l V i)):=by
 have WE:=wf.ok i k hk;unfold wz;rw[hk];dsimp only[Option.elim];obtain⟨z,hz⟩:∃z,k.way.getLast?=some z:=by
  cases e:k.way.getLast? with
  | none=>exact absurd (gG.mp e) WE.wy.1
  | some z=>exact⟨z,rfl⟩
 rw[show k.way.getLastD Str.empty=z by rw[ib,hz];rfl];have ro:xB l V k.cr (l.nm.length+1) [] (ur l V k.cr z k.way.dropLast):=yq ok _ _ _ _ (WE.wy.2 z (iM hz)) λx hx=>WE.wy.2 x (iN _ hx);generalize ur l V k.cr z k.way.dropLast=R at ro;obtain⟨e,st⟩:=R;have snm:∀s∈st,s.1∈l.nm:=λs hs=>(ro.nm s hs).elim (λh=>by cases h) id;have w1:=AU i st none wf snm;have Wd:=uQ i st none V;rw[ra,ra];dsimp only;have VB:∀V1:qb,zb l V1 (some i)->sL V V1->WF l (qo V1 (sA l V i e)):=λV1 w s=>by
  rw[<-s.ends];obtain⟨c',e1,e2⟩:=s.at_ hk;have hcr:c'.cr=k.cr:=show c'.bare.cr=k.bare.cr by rw[e2]
  exact QB ok w s.core e1 (by rw[hcr];exact ro.e)
 cases e with
 | ring ns=>
  obtain⟨x,ns',rfl⟩:=fH (show ns≠[]from ro.e);cases hl:st.getLast? with
  | none=>rw[show sW i st (.ring (x::ns'))=[]by unfold sW;dsimp only;rw[hl];rfl];exact VB _ w1 Wd
  | some s0=>rw[show sW i st (.ring (x::ns'))=[.leg ⟨i,s0.1,x,s0.1⟩]by unfold sW;dsimp only;rw[hl];rfl];exact VB _ (G4 (v:=⟨i,s0.1,x,s0.1⟩) w1 (ro.wy _ rfl x dH)) (Wd.trans (yZ _ _))
 | rings _ _=>exact VB _ w1 Wd
 | waits _=>exact VB _ w1 Wd
 | breaks _=>exact VB _ w1 Wd
 | engaged _=>exact VB _ w1 Wd
 | barred=>exact VB _ w1 Wd
def GO{l:oW}{V:qb}{y z:Str}(wf:WF l V)(hy:y∈l.pn)(hz:z∈l.nm)(hi:Cq V y)(hf:sV l V y=true):zb l (qo V [.new V.calls.length y,.leg ⟨V.calls.length,y,z,y⟩]) (some V.calls.length):=by
 have e:(qo V [.new V.calls.length y,.leg ⟨V.calls.length,y,z,y⟩]).calls=V.calls++[(yt y).go z]:=by show(V.calls++[yt y]).modify V.calls.length _=_;rw[sG (c:=yt y) (by rw[eO (c9 _),g9];rfl),j6 _ _ (c9 _),g9];rfl
 refine wf.add e ⟨.inl ⟨rfl,rfl,rfl,rfl,λ_=>rfl,(λh=>by cases h)⟩,hy,(λx h=>by cases h),(λx h=>by cases h),eC,eC,(λh=>by cases h),fF _ _,λx h=>by rw[dg.mp h];exact hz⟩ (λx h=>?_) (λx h=>?_) (λx=>?_) wf.nx
 .rw[(rS (c:=(yt y).go z) rfl).mp h];exact hi
 .rcases(rT (c:=(yt y).go z) rfl).mp h with g|g
  .rw[g];exact Ep hf
  .cases g
 .cases q:((yt y).go z).mx x with
  | false=>rfl
  | true=>exact absurd (rF.mp q).1 (show("rings":Str)≠"waits" by decide)
def Kt{V:qb}{y z:Str}:∃k,(qo V [.new V.calls.length y,.leg ⟨V.calls.length,y,z,y⟩]).calls[V.calls.length]?=some k:=by
 have:V.calls.length<(qo V [.new V.calls.length y,.leg ⟨V.calls.length,y,z,y⟩]).calls.length:=by show V.calls.length<((V.calls++[yt y]).modify _ _).length;rw[gb,cU];exact fu _
 exact⟨_,cS this⟩
def D4{l:oW}{V:qb}{i:Nat}{c:oQ}{x y:Str}{fs:List Nat}(wf:WF l V)(hc:V.calls[i]?=some c)(hs:c.st="rings")(hy:y∈l.nm):zb l (qo V [.asks i x fs,.quiet i,.leg ⟨i,x,y,x⟩]) (some i):=by
 refine G4 (v:=⟨i,x,y,x⟩) ?_ hy;have k:=wf.ok i c hc;have w1:WF l (pN V (.asks i x fs)):=EB wf;have sh:c.ms=[]/\c.hd=none/\c.wd=none:=by
  rcases k.sh with g|⟨_,g|g|⟨_,g⟩|g⟩
  .exact⟨g.2.1,g.2.2.1,g.2.2.2.1⟩
  all_goals(rw[hs]at g;exact absurd g.1 (by decide))
 refine w1.set (i:=i) (c:=c) (c':=c.nq) (qR (V:=qp (pN V (.asks i x fs)) _) hc) hc (λj hj=>(Aw j hj).symm) ?_ (λx g=>.inl ?_) (λx g=>.inl ?_) (λx g=>?_) wf.nx
 .rw[eE];exact⟨.inl ⟨hs,sh.1,sh.2.1,sh.2.2,λ_=>rfl,(λh=>by cases h)⟩,k.cr,(λx h=>by cases h),k.ms,eC,k.mn,(λh=>by cases h),k.wy⟩
 .exact(rS hs).mpr ((rS (c:=c.nq) hs).mp g)
 .rcases(rT (c:=c.nq) hs).mp g with y|y
  .exact(rT hs).mpr (.inl y)
  .cases y
 .have:=(rF.mp g).1;rw[show c.nq.st="rings" from hs]at this;exact absurd this (by decide)
inductive TN(l:oW)(V:qb)(i:Nat):List Nat->Prop
 | no:TN l V i []
 | on (c:oQ) (k:Nat) (r:List Nat) (b:Bool) (x y:Str) (n:Int):V.calls[i]?=some c->c.st="rings"->l.mv[k]?=some (b,.silent x y n)->c.way.getLast?=some x->y∈l.nm->TN l V i (k::r)
def GK{l:oW}{V:qb}{i:Nat}(ok:rg l):TN l V i (yr l V i):=by
 unfold yr;cases e:V.calls[i]? with
 | none=>exact .no
 | some c=>
  dsimp only[Option.elim];by_cases hs:(c.st=="rings")=true
  .rw[cX hs];cases q:Gp l V (Gd c)with
   | nil=>exact .no
   | cons k r=>
    obtain⟨⟨b,w⟩,e1,e2⟩:=EV (i:=k) (by rw[q];exact dH);cases w with
    | silent x y n=>unfold Gd at e2;rw[dP,fg]at e2;exact .on c k r b x y n e (eq_of_beq hs) e1 e2.1 (A7 ok (fO e1) (z:=Str.empty) rfl)
    | _=>cases e2
  .rw[cV hs];exact .no
def zd{l:oW}{V:qb}{i k:Nat}{r:List Nat}{b:Bool}{x y:Str}{n:Int}(h:l.mv[k]?=some (b,.silent x y n)):sX l V i (k::r)=[.asks i x (k::r),.quiet i,.leg ⟨i,x,y,x⟩]++wz l (qo V [.asks i x (k::r),.quiet i,.leg ⟨i,x,y,x⟩]) i:=by unfold sX;simp only[List.head?_cons,lJ,h]
def Eg{V:qb}{i:Nat}{c:oQ}{x y:Str}{fs:List Nat}(h:V.calls[i]?=some c):(qo V [.asks i x fs,.quiet i,.leg ⟨i,x,y,x⟩]).calls[i]?=some (c.nq.go y):=by show((V.calls.modify i oQ.nq).modify i _)[i]?=_;rw[iO,iO,h];simp
def HU{l:oW}{V:qb}{i:Nat}(ok:rg l)(wf:WF l V):WF l (qo V (sX l V i (yr l V i))):=by
 have d:=GK (V:=V) (i:=i) ok;generalize yr l V i=fs at d;cases d with
 | no=>exact wf
 | on c k r b x y n hc hs hk hw hy=>rw[zd hk,ra];exact Pm ok (D4 wf hc hs hy) (Eg hc)
theorem Eu{l:oW}(ok:rg l):∀(is:List Nat) {V:qb},WF l V->WF l (qo V (rA l is V))
 | [],_,wf=>wf
 | i::r,V,wf=>by unfold rA;rw[ra];exact Eu ok r (HU ok wf)
theorem CS(l:oW)(i:Nat):∀(is:List Nat) (V:qb),rA l (is++[i]) V=rA l is V++sX l (qo V (rA l is V)) i (yr l (qo V (rA l is V)) i)
 | [],V=>by show sX l V i _++[]=[]++_;rw[eR];rfl
 | j::r,V=>by show sX l V j _++rA l (r++[i]) _=(sX l V j _++rA l r _)++_;rw[CS l i r,e9,show rA l (j::r) V=sX l V j (yr l V j)++rA l r (qo V (sX l V j (yr l V j)))from rfl,ra]
def sS{ss:List Str}{x y:Str}:y∈rb ss x↔y∈ss/\y≠x:=by unfold rb;rw[fz,gC,fL]
theorem wI{x:Str}:∀{ss:List Str},ss.Nodup->x∈ss->(rb ss x).length+1=ss.length
 | [],_,h=>by cases h
 | y::r,nd,h=>by
  have nd:=dJ.mp nd;unfold rb;rw[gq];by_cases e:y=x
  .subst e;rw[show(!(y==y))=false by simp,cV (by decide),kz.mpr λz hz=>by
    have:z≠y:=λq=>nd.1 (q ▸ hz)
    simpa using this]
   rfl
  .have h:x∈r:=by
    rcases cZ.mp h with q|q
    .exact absurd q.symm e
    .exact q
   rw[cX (by simpa using e)];have:=wI nd.2 h;unfold rb at this;rw[dW,dW,this]
def Nz{l:oW}{V:qb}{i:Nat}{c:oQ}{x:Str}(wf:WF l V)(hc:V.calls[i]?=some c)(hl:c.mW x=true):WF l (qo V (vM V x i)):=by
 have k:=wf.ok i c hc;unfold vM;rw[hc];dsimp only[Option.elim];by_cases h1:c.mB x=true
 .rw[cX h1];exact wj (V':=pN V (.over i "left")) wf hc (.inl rfl) (by decide) (qR (V:=qp V _) hc) wf.nx
 .rw[cV h1];have e1:(pN V (.leaves i x)).calls=V.calls.set i (c.drop x):=qR (V:=qp V _) hc;by_cases h2:hasS c.at_ x=true
  .rw[cX h2];by_cases h3:rb c.at_ x=[]
   .rw[cX h3];refine wj (V':=pN (pN V (.leaves i x)) (.over i "refused")) wf hc (.inl rfl) (by decide) (w:="refused") ?_ wf.nx;have h4:(pN V (.leaves i x)).calls[i]?=some (c.drop x):=by rw[e1,eF (cT.mp hc).1]
    show(wZ (qp (pN V (.leaves i x)) _) i _).calls=_;rw[qR (V:=qp (pN V (.leaves i x)) _) h4];show(pN V (.leaves i x)).calls.set i _=_;rw[e1,iI];rfl
   .rw[cV h3];have hs:c.st="rings"/\c.ms=[]/\c.hd=none/\c.wd=none:=by
     rcases k.sh with g|⟨_,g|g|⟨_,g⟩|g⟩
     .exact⟨g.1,g.2.1,g.2.2.1,g.2.2.2.1⟩
     .exfalso;have:=wI k.an (qk.mp h2);rw[g.2.2.2.2]at this;exact h3 (gh.mp (by omega))
     .rw[g.2.2.2.2]at h2;cases h2
     .rw[g.2.2.2.2.2]at h2;cases h2
     .rw[g.2.2.2.1]at h2;cases h2
    refine wf.set (V':=pN V (.leaves i x)) (c':=c.drop x) e1 hc (λ_ _=>rfl) ⟨.inl ⟨hs.1,by show rb c.ms x=[];rw[hs.2.1];rfl,hs.2.2.1,hs.2.2.2,(λh=>by cases h),λ_=>h3⟩,k.cr,λy hy=>k.at_ y (sS.mp hy).1,λy hy=>k.ms y (sS.mp hy).1,k.an.sublist fU,k.mn.sublist fU,λhy=>k.ca (sS.mp hy).1,k.wy⟩ (λy g=>?_) (λy g=>?_) (λy g=>?_) wf.nx
    .exact .inl ((rS hs.1).mpr ((rS (c:=c.drop x) hs.1).mp g))
    .refine .inl ((rT hs.1).mpr (((rT (c:=c.drop x) hs.1).mp g).imp id λh=>(sS.mp h).1))
    .have:=(rF.mp g).1;rw[show(c.drop x).st="rings" from hs.1]at this;exact absurd this (by decide)
  .rw[cV h2];by_cases h3:2<c.ms.length
   .rw[cX h3];have hx:x∈c.ms:=by unfold oQ.mW at hl;rw[dB.mpr h1,dB.mpr h2,fG,fG]at hl;exact qk.mp hl
    have hs:c.st="talks"/\c.ms.length=3/\c.hd=none/\c.wd=none/\c.at_=[]:=by
     rcases k.sh with g|⟨_,g|g|⟨_,g⟩|g⟩
     .rw[g.2.1]at h3;cases h3
     .rw[g.2.1]at h3;cases h3
     .exact⟨g.1,g.2.1.elim (λq=>by omega) id,g.2.2⟩
     .omega
     .rw[g.2.1]at h3;cases h3
    have dl:=wI k.mn hx;refine wf.set (V':=pN V (.leaves i x)) (c':=c.drop x) e1 hc (λ_ _=>rfl) ⟨.inr ⟨rfl,.inr (.inl ⟨hs.1,.inl (by show(rb c.ms x).length=2;omega),hs.2.2.1,hs.2.2.2.1,by show rb c.at_ x=[];rw[hs.2.2.2.2];rfl⟩)⟩,k.cr,λy hy=>k.at_ y (sS.mp hy).1,λy hy=>k.ms y (sS.mp hy).1,k.an.sublist fU,k.mn.sublist fU,λhy=>k.ca (sS.mp hy).1,k.wy⟩ (λy g=>?_) (λy g=>?_) (λy g=>?_) wf.nx
    .exact .inl ((sI hs.1).mpr (sS.mp ((sI (c:=c.drop x) hs.1).mp g)).1)
    .exact .inl ((r6 (.inl hs.1)).mpr (sS.mp ((r6 (c:=c.drop x) (.inl hs.1)).mp g)).1)
    .have:=(rF.mp g).1;rw[show(c.drop x).st="talks" from hs.1]at this;exact absurd this (by decide)
   .rw[cV h3];exact wj (V':=pN V (.over i "done")) wf hc (.inl rfl) (by decide) (qR (V:=qp V _) hc) wf.nx
def JP{l:oW}{V:qb}{i:Nat}{c:oQ}{x:Str}(wf:WF l V)(hc:V.calls[i]?=some c)(hx:hasS c.at_ x=true)(hi:Cq V x)(hf:c.mx x=true->sV l V x=true):WF l (pN V (.talks i [c.cr,x])):=by
 have k:=wf.ok i c hc;have hx:=qk.mp hx;have VV:c.cr≠x:=λq=>k.ca (q ▸ hx);have hs:(c.st="rings"\/c.st="waits")/\c.wd=none:=by
  rcases k.sh with g|⟨_,g|g|⟨_,g⟩|g⟩
  .exact⟨.inl g.1,g.2.2.2.1⟩
  .exact⟨.inr g.1,g.2.2.2.1⟩
  .rw[g.2.2.2.2]at hx;cases hx
  .rw[g.2.2.2.2.2]at hx;cases hx
  .rw[g.2.2.2.1]at hx;cases hx
 have ec:zO c c.cr/\c.hasB c.cr=true:=by
  rcases hs.1 with g|g
  .exact⟨(rS g).mpr rfl,(rT g).mpr (.inl rfl)⟩
  .exact⟨(C6 g).mpr rfl,(CT g).mpr rfl⟩
 refine wf.set (V':=pN V (.talks i [c.cr,x])) (c':=c.m9 [c.cr,x]) (qR (V:=qp V _) hc) hc (λ_ _=>rfl) ⟨.inr ⟨rfl,.inr (.inl ⟨rfl,.inl rfl,rfl,hs.2,rfl⟩)⟩,k.cr,(λy h=>by cases h),(λy h=>?_),eC,?_,(λh=>by cases h),k.wy⟩ (λy g=>?_) (λy g=>?_) (λy g=>?_) wf.nx
 .rcases cZ.mp h with g|g
  .rw[g];exact k.cr
  .rw[dg.mp g];exact k.at_ x hx
 .exact dJ.mpr ⟨λh=>VV (dg.mp h),dJ.mpr ⟨dz,eC⟩⟩
 .rcases cZ.mp ((sI (c:=c.m9 [c.cr,x]) rfl).mp g)with h|h
  .rw[h];exact .inl ec.1
  .rw[dg.mp h];exact .inr hi
 .rcases cZ.mp ((r6 (c:=c.m9 [c.cr,x]) (.inl rfl)).mp g)with h|h
  .rw[h];exact .inl ec.2
  .rw[dg.mp h];rcases hs.1 with q|q
   .exact .inl ((rT q).mpr (.inr hx))
   .exact .inr (Ep (hf (rF.mpr ⟨q,hx⟩)))
 .exact absurd (rF.mp g).1 (show("talks":Str)≠"waits" by decide)
def zF{c:oQ}{x:Str}:c.mH x=true↔c.st="talks"/\x∈c.ms/\c.ms.length=2:=by unfold oQ.mH oQ.mG;rw[dP,dP,fg,qk,fg,and_assoc]
def Ku{l:oW}{c:oQ}(k:uR l false c)(h:c.st="talks"):c.hd=none/\c.wd=none/\c.at_=[]:=by
 rcases k.sh with g|⟨_,g|g|⟨_,g⟩|g⟩
 .rw[h]at g;exact absurd g.1 (by decide)
 .rw[h]at g;exact absurd g.1 (by decide)
 .exact g.2.2
 .rw[h]at g;exact absurd g.1 (by decide)
 .rw[h]at g;exact absurd g.1 (by decide)
def D3{l:oW}{c:oQ}{x:Str}(k:uR l false c)(h:c.hd=some x):c.st="held"/\c.ms.length=2/\x∈c.ms/\c.wd=none/\c.at_=[]:=by
 rcases k.sh with g|⟨_,g|g|⟨y,g⟩|g⟩
 .rw[h]at g;cases g.2.2.1
 .rw[h]at g;cases g.2.2.1
 .rw[h]at g;cases g.2.2.1
 .have e:=g.2.2.1;rw[h]at e;cases e;exact⟨g.1,g.2.1,g.2.2.2⟩
 .rw[h]at g;cases g.2.2.1
def Nj{l:oW}{V:qb}{i:Nat}{c:oQ}{x:Str}(wf:WF l V)(hc:V.calls[i]?=some c)(hx:c.mH x=true):WF l (pN V (.held i x)):=by
 have k:=wf.ok i c hc;obtain⟨h1,h2,h3⟩:=zF.mp hx;obtain⟨s1,s2,s3⟩:=Ku k h1;refine wf.set (V':=pN V (.held i x)) (c':=c.hold x) (qR (V:=qp V _) hc) hc (λ_ _=>rfl) ⟨.inr ⟨rfl,.inr (.inr (.inl ⟨x,rfl,h3,rfl,h2,s2,s3⟩))⟩,k.cr,k.at_,k.ms,k.an,k.mn,k.ca,k.wy⟩ (λy g=>.inl ?_) (λy g=>.inl ?_) (λy g=>?_) wf.nx
 .exact(sI h1).mpr ((AJ (c:=c.hold x) rfl).mp g).1
 .exact(r6 (.inl h1)).mpr ((r6 (c:=c.hold x) (.inr rfl)).mp g)
 .exact absurd (rF.mp g).1 (show("held":Str)≠"waits" by decide)
def MV{l:oW}{V:qb}{i:Nat}{c:oQ}{x:Str}(wf:WF l V)(hc:V.calls[i]?=some c)(hx:c.hd=some x)(hi:Cq V x):WF l (pN V (.talks i c.ms)):=by
 have k:=wf.ok i c hc;obtain⟨h1,h2,h3,h4,h5⟩:=D3 k hx;refine wf.set (V':=pN V (.talks i c.ms)) (c':=c.m9 c.ms) (qR (V:=qp V _) hc) hc (λ_ _=>rfl) ⟨.inr ⟨rfl,.inr (.inl ⟨rfl,.inl h2,rfl,h4,rfl⟩)⟩,k.cr,(λy h=>by cases h),k.ms,eC,k.mn,(λh=>by cases h),k.wy⟩ (λy g=>?_) (λy g=>.inl ?_) (λy g=>?_) wf.nx
 .have g:=(sI (c:=c.m9 c.ms) rfl).mp g;by_cases e:y=x
  .rw[e];exact .inr hi
  .exact .inl ((AJ h1).mpr ⟨g,λq=>e (de (q.symm.trans hx))⟩)
 .exact(r6 (.inr h1)).mpr ((r6 (c:=c.m9 c.ms) (.inl rfl)).mp g)
 .exact absurd (rF.mp g).1 (show("talks":Str)≠"waits" by decide)
def Df{c:oQ}{x:Str}(nd:c.ms.Nodup)(h2:c.ms.length=2)(hx:x∈c.ms):qa c x∈c.ms/\qa c x≠x:=by
 have dl:=wI nd hx;obtain⟨y,r,e⟩:=List.exists_cons_of_length_pos (show 0<(rb c.ms x).length by omega);have hm:y∈rb c.ms x:=by rw[e];exact dH
 unfold qa;rw[e];exact sS.mp hm
def Hw{l:oW}{V:qb}{i j:Nat}{c d:oQ}{w x:Str}(wf:WF l V)(hc:V.calls[i]?=some c)(hd:V.calls[j]?=some d)(h1:c.hd=some x)(h2:d.mH x=true):i≠j/\WF l (pN V (.merge i j (if (w=="hand")=true then[qa c x,qa d x]else[x,qa c x,qa d x]))):=by
 have k:=wf.ok i c hc;have kd:=wf.ok j d hd;obtain⟨c1,c2,c3,c4,c5⟩:=D3 k h1;obtain⟨d1,d2,d3⟩:=zF.mp h2;obtain⟨a1,a2⟩:=Df k.mn c2 c3;obtain⟨b1,b2⟩:=Df kd.mn d3 d2;have Wx:i≠j:=λq=>by subst q;rw[hc]at hd;cases hd;rw[c1]at d1;exact absurd d1 (by decide)
 refine⟨Wx,?_⟩;have ea:zO c (qa c x):=(AJ c1).mpr ⟨a1,λq=>a2 (de (q.symm.trans h1))⟩;have ab:qa c x≠qa d x:=λq=>Wx (wf.un i j c d _ hc hd ea (by rw[q];exact(sI d1).mpr b1));generalize hms:(if (w=="hand")=true then[qa c x,qa d x]else[x,qa c x,qa d x])=ms;have mm:∀y∈ms,y=x\/y=qa c x\/y=qa d x:=λy hy=>by
  rw[<-hms]at hy;split at hy
  .rcases cZ.mp hy with g|g
   .exact .inr (.inl g)
   .exact .inr (.inr (dg.mp g))
  .rcases cZ.mp hy with g|g
   .exact .inl g
   .rcases cZ.mp g with g|g
    .exact .inr (.inl g)
    .exact .inr (.inr (dg.mp g))
 have n2:[qa c x,qa d x].Nodup:=dJ.mpr ⟨λh=>ab (dg.mp h),dJ.mpr ⟨dz,eC⟩⟩;refine Gf (V':=pN V (.merge i j ms)) (ms:=ms) wf (.inl rfl) hc hd Wx ?_ wf.nx d1 ?_ ?_ (λy hy=>?_) (λy hy=>?_)
 .show(V.calls.modify i _).modify j _=_;rw[sG hc,sG (show(V.calls.set i _)[j]?=some d by rw[eK Wx];exact hd)]
 .rw[<-hms];split
  .exact n2
  .refine dJ.mpr ⟨λh=>?_,n2⟩;rcases cZ.mp h with g|g
   .exact a2 g.symm
   .exact b2 (dg.mp g).symm
 .rw[<-hms];split
  .exact .inl rfl
  .exact .inr rfl
 .rcases mm y hy with g|g|g
  .rw[g];exact .inl d2
  .rw[g];exact .inr ⟨ea,(r6 (.inr c1)).mpr a1⟩
  .rw[g];exact .inl b1
 .rcases mm y hy with g|g|g
  .rw[g];exact k.ms x c3
  .rw[g];exact k.ms _ a1
  .rw[g];exact kd.ms _ b1
def Q8{V:qb}{i:Int}(h:yS V.calls.length i=true):∃c,V.calls[i.toNat]?=some c:=by unfold yS at h;rw[dP,d6,d6]at h;exact⟨_,cS (by omega)⟩
def D5{V:qb}{x:Str}{b:Bool}(h:(if ((tZ V x).isNone&&b)=true then some ("full":Str)else tZ V x)=none):tZ V x=none/\b=false:=by
 cases e:tZ V x with
 | some w=>rw[e]at h;cases h
 | none=>
  rw[e]at h;cases b with
  | true=>cases h
  | false=>exact⟨rfl,rfl⟩
inductive Dg(l:oW)(V:qb)(x:Str):Str->List Int->Prop
 | answer (i:Int) (c:oQ):0<=i->V.calls[i.toNat]?=some c->hasS c.at_ x=true->Cq V x->(c.mx x=true->sV l V x=true)->Dg l V x "answer" [i]
 | hang (i:Int) (c:oQ):0<=i->V.calls[i.toNat]?=some c->c.mW x=true->Dg l V x "hang" [i]
 | hold (i:Int) (c:oQ):0<=i->V.calls[i.toNat]?=some c->c.mH x=true->Dg l V x "hold" [i]
 | back (i:Int) (c:oQ):0<=i->V.calls[i.toNat]?=some c->c.hd=some x->Cq V x->Dg l V x "back" [i]
 | two (w:Str) (i j:Int) (c d:oQ):0<=i->0<=j->w="hand"\/w="join"->V.calls[i.toNat]?=some c->V.calls[j.toNat]?=some d->c.hd=some x->d.mH x=true->Dg l V x w [i,j]
def GT{l:oW}{V:qb}{w x:Str}{ns:List Int}(f:(tG.num w x ns).mX)(h:xl l V (.num w x ns)=none):x∈l.pn/\Dg l V x w ns:=by
 have hp:hasS l.pn x=true:=by
  cases q:hasS l.pn x with
  | true=>rfl
  | false=>unfold xl at h;dsimp only at h;rw[cX q]at h;cases h
 refine⟨qk.mp hp,?_⟩;unfold xl at h;dsimp only at h;rw[cV (by rw[hp];decide)]at h;unfold Lf at h;cases q1:ns.all (yS V.calls.length)with
 | false=>rw[cX q1]at h;cases h
 | true=>
 rw[cV (by rw[q1];decide)]at h;cases q2:IA w x (sJ V ns)with
 | false=>rw[cX q2]at h;cases h
 | true=>
 rw[cV (by rw[q2];decide)]at h;have z:∀i∈ns,0<=i/\∃c,V.calls[i.toNat]?=some c:=λi hi=>by have g:=eY.mp q1 i hi;refine⟨?_,Q8 g⟩;unfold yS at g;rw[dP,d6]at g;exact g.1
 rcases f with⟨fw,fl⟩|⟨fw,fl⟩
 .match ns,fl with
  | [i],_=>
   obtain⟨hi,c,hc⟩:=z i dH;have ec:sJ V [i]=[c]:=by unfold sJ;rw[fT,hc];rfl
   rw[ec]at h q2;rcases fw with rfl|rfl|rfl|rfl
   .rw[cV (by decide)]at h;obtain⟨h1,h2⟩:=D5 h;refine .answer i c hi hc q2 (Ec h1) λhw=>?_;have h2:(c.mx x&&!(sV l V x))=false:=h2;rw[hw]at h2
    simpa using h2
   .exact .hang i c hi hc q2
   .exact .hold i c hi hc q2
   .rw[cV (by decide)]at h;exact .back i c hi hc (eq_of_beq q2) (Ec (D5 h).1)
 .match ns,fl with
  | [i,j],_=>
   obtain⟨hi,c,hc⟩:=z i dH;obtain⟨hj,d,hd⟩:=z j (dA _ dH);have ec:sJ V [i,j]=[c,d]:=by unfold sJ;rw[fT,hc];dsimp only;rw[fT,hd];rfl
   rw[ec]at q2;have q3:((c.hd==some x)&&d.mH x)=true:=by rcases fw with rfl|rfl<;>exact q2
   rw[dP]at q3;exact .two w i j c d hi hj fw hc hd (eq_of_beq q3.1) q3.2
def Dy{l:oW}{V:qb}{y z:Str}(h:xl l V (.call y z)=none):y∈l.pn/\z∈l.nm/\Cq V y/\sV l V y=true:=by
 unfold xl at h;dsimp only at h;cases q:hasS l.pn y with
 | false=>rw[cX q]at h;cases h
 | true=>
 rw[cV (by rw[q];decide)]at h;unfold F' at h;cases q1:hasS l.nm z with
 | false=>rw[cX q1]at h;cases h
 | true=>
 rw[cV (by rw[q1];decide)]at h;obtain⟨h1,h2⟩:=D5 h;exact⟨qk.mp q,qk.mp q1,Ec h1,by simpa using h2⟩
def Th{l:oW}{V:qb}{b:Bool}{i:Int}(h:xl l V (.sw b i)=none):0<=i/\i.toNat<V.on.length:=by
 unfold xl NC at h;dsimp only at h;cases q:yS V.on.length i with
 | false=>rw[cX q]at h;cases h
 | true=>unfold yS at q;rw[dP,d6,d6]at q;omega
def yQ{V:qb}{w x:Str}{i:Nat}{c:oQ}(h:V.calls[i]?=some c):DC V w x i=if (w=="answer")=true then .talks i [c.cr,x]else if (w=="hold")=true then .held i x else .talks i c.ms:=by unfold DC;rw[h];rfl
def GP{V:qb}{w x:Str}{i j:Nat}{c d:oQ}(h:V.calls[i]?=some c)(g:V.calls[j]?=some d):Ft V w x i j=.merge i j (if (w=="hand")=true then[qa c x,qa d x]else[x,qa c x,qa d x]):=by unfold Ft;rw[h,g];rfl
def Tc{l:oW}{V:qb}{e:tG}(ok:rg l)(wf:WF l V)(f:e.mX)(h:xl l V e=none):WF l (qo V (wM l V e)):=by
 cases e with
 | call y z=>obtain⟨h1,h2,h3,h4⟩:=Dy h;obtain⟨k,hk⟩:=Kt (V:=V) (y:=y) (z:=z);show WF l (qo V (_++wz l _ _));rw[ra];exact Pm ok (GO wf h1 h2 h3 h4) hk
 | turn=>exact Eu ok _ (Em wf)
 | sw b i=>exact Tp wf
 | num w x ns=>
  obtain⟨_,n⟩:=GT f h;cases n with
  | answer i c hi hc h1 h2 h3=>show WF l (pN V (DC V "answer" x i.toNat));rw[yQ hc];exact JP wf hc h1 h2 h3
  | hang i c hi hc h1=>exact Nz wf hc h1
  | hold i c hi hc h1=>show WF l (pN V (DC V "hold" x i.toNat));rw[yQ hc];exact Nj wf hc h1
  | back i c hi hc h1 h2=>show WF l (pN V (DC V "back" x i.toNat));rw[yQ hc];exact MV wf hc h1 h2
  | two _ i j c d hi hj hw hc hd h1 h2=>show WF l (pN V (Ft V w x i.toNat j.toNat));rw[GP hc hd];exact(Hw wf hc hd h1 h2).2
def Nk(a:Ad):qJ:=λds M Q=>LV λM0 b A V l c n x i k=>ds=[.ref b,.str x,.int ((i:Nat):Int)]/\tX a M0 M b A V l c n/\c<=1000000/\n<=7000000/\V.calls[i]?=some k/\∀M' A',tX a M0 M' b A' (qo V (vM V x i)) l c (n+2)->qz A M A' M'->Q .mz M'
def MT(a:Ad):qJ:=λds M Q=>JM λA V l L k c=>ds=[.ref A.b,.ref (qQ.p k)]/\Rd a M A V l/\rh a M L k c/\Q (wR (Gp l V (Gd c))) M
def OX(a:Ad):qJ:=λds M Q=>LV λM0 b A V l c n i k r=>ds=[.ref b,.int ((i:Nat):Int),wR (k::r)]/\tX a M0 M b A V l c n/\c<=1000000/\n<=6900000/\WF l V/\TN l V i (k::r)/\∀M' A',tX a M0 M' b A' (qo V (sX l V i (k::r))) l c (n+33)->qz A M A' M'->Q .mz M'
def M9(a:Ad):qJ:=λds M Q=>RO λM0 b A V l c n=>ds=[.ref b]/\tX a M0 M b A V l c n/\c<=10000/\n<=6000000/\WF l V/\∀M' A',tX a M0 M' b A' (qo V (Ek l V)) l c (n+1+33*c)->qz A M A' M'->Q .mz M'
def Ri{a:Ad}{M:Mp}{L:List Addr}{k:qQ}{c:oQ}{v:Wi}{r:Addr}{Q:DK}(h:M r=some (.ins (v.cls a) v.nj))(hk:rh a M L k c)(q:Q (.bl (Gd c v)) M):LN a v [.ref r,.ref k.p] M Q:=by
 cases v with
 | silent x y n=>exact⟨r,L,k,c,rfl,h,hk,q⟩
 | _=>exact⟨_,_,rfl,q⟩
def OZ(G:Gl K mg a):Fq P w K mg base 4 a.a4 (Nk a):=by
 refine fq G.a4.toDG AZ (λr u=>⟨_,(oJ (oZ 3 AZ (o9 (oP v0) U2))
 (oM (pq (tT (pI U3 G.e.toCls G.U (A6 G) r (pO U1)))
 (oM (pf (pI v0 G.c.toCls G.k (qD G) r (pO (pk (qP oO U2 oO))))))
 (oM (pq (oV u U1 (oP U3))
 (oJ (pf (pI v0 G.c.toCls G.k (qD G) r (pO (pk (qP oO U2 U1)))))
 (oM (pq (oV u (pB pU rfl G.g pQ (pO (oP U3))) oN)
 (oM (pf (pI v0 G.c.toCls G.k (qD G) r (pO (pk (qP oO U2 oO))))))
 oX)))
 (oM (pq (oV u (pB pU rfl G.g pQ (pO (oP U3))) oN)
 (oM (pf (pI v0 G.c.toCls G.k (qD G) r (pO (pk (qP oO U2 U1))))))
 (oM (pf (pI v0 G.c.toCls G.k (qD G) r (pO (pk (qP oO U2 oO))))))))))))),?_⟩)
 rintro ds M Q ⟨M0,b,A,V,l,cc,n,x,i,c,rfl,cu,X5,hn,hc,q⟩
 obtain⟨ka,ci⟩:=cu.call hc;obtain⟨ad,md,h1,h2,h3,h4,n1,n2⟩:=ci.cell;have hi:=(cT.mp hc).1;refine oK cu.at_ (i' rfl (i' rfl (i' ci.bd.ca (i' (qN ci.e1) ?_))));refine oK h1 ⟨rfl,_,⟨rfl,rfl⟩,_,ka,c,x,rfl,ci.cell,?_⟩;unfold vM at q;rw[hc]at q;dsimp only[Option.elim]at q;have over:∀(w0:Str),(∀M' A',tX a M0 M' b A' (qo V [.over i w0]) l cc (n+2)->qz A M A' M'->Q .mz M')->∀(M1:Mp) (A1:sQ),A1.b=A.b->qz A M A1 M1->pb a M1 A1 (pN V (.over i w0))->∃Vz,pY Vz M1/\Q .mz Vz:=λw0 q M1 A1 eb st bd=>⟨M1,.refl,q M1 A1 ((cu.after (e:=.over i w0) hi eb st bd).mono (c9 _) (by omega)) st⟩;refine qg (c:=c.mB x) (λg=>?_) (λg=>?_)
 .rw[cX g]at q;exact oK cu.at_ ⟨rfl,_,⟨rfl,rfl⟩,oG rfl,b,A,V,.over i "left",rfl,cu.b,cu.bd,cu.lim X5 (by omega),hi,over "left" q⟩
 rw[cV g]at q;refine oK h1 (i' rfl (i' h3 ⟨rfl,pG _,?_⟩));show if inD (.str x) (c.at_.map D.str)=true then _ else _
 rw[qO];refine qg (c:=hasS c.at_ x) (λg2=>?_) (λg2=>?_)
 .rw[cX g2]at q;refine oK cu.at_ ⟨rfl,_,⟨rfl,rfl⟩,oG rfl,b,A,V,.leaves i x,rfl,cu.b,cu.bd,cu.lim X5 (by omega),hi,λM1 A1 eb st bd=>?_⟩;have c1:=cu.after (e:=.leaves i x) hi eb st bd;have X7:(pN V (.leaves i x)).calls=V.calls.set i (c.drop x):=qR (V:=qp V _) hc;have hc1:(pN V (.leaves i x)).calls[i]?=some (c.drop x):=by rw[X7,eF hi]
  obtain⟨ad',md',g1,X1,g3,g4,_⟩:=c1.bd.cs i ka _ (st.2.2.1 i ka ci.e1) hc1;have le0:((((c.drop x).at_.map D.str).length:Int)==0)=decide (rb c.at_ x=[]):=by rw[cQ,gf,fg,d6];show((rb c.at_ x).length:Int)=0↔_;rw[<-gh];omega
  refine oK g1 (i' rfl (i' g3 ?_));refine qg (c:=(((c.drop x).at_.map D.str).length:Int)==0) (λg5=>?_) (λg5=>?_)
  .rw[le0,d6]at g5;rw[cX g5]at q;have Xc:i<(pN V (.leaves i x)).calls.length:=(cT.mp hc1).1;refine oK c1.at_ ⟨rfl,_,⟨rfl,rfl⟩,oG rfl,b,A1,_,.over i "refused",rfl,c1.b,c1.bd,c1.lim X5 (by omega),Xc,λM2 A2 eb2 VW W7=>?_⟩;exact⟨M2,.refl,q M2 A2 (c1.after (e:=.over i "refused") Xc eb2 VW W7) (st.trans VW)⟩
  .rw[le0,d6]at g5;rw[cV g5]at q;exact⟨M1,.refl,q M1 A1 (c1.mono (c9 _) (by omega)) st⟩
 .rw[cV g2]at q;refine oK h1 (i' rfl (i' h4 ?_));have lm:decide ((2:Int)<((c.ms.map D.str).length:Int))=decide (2<c.ms.length):=by rw[cQ,gf,d6,d6];omega
  refine qg (c:=decide ((2:Int)<((c.ms.map D.str).length:Int))) (λg3=>?_) (λg3=>?_)
  .rw[lm,d6]at g3;rw[cX g3]at q;refine oK cu.at_ ⟨rfl,_,⟨rfl,rfl⟩,oG rfl,b,A,V,.leaves i x,rfl,cu.b,cu.bd,cu.lim X5 (by omega),hi,λM1 A1 eb st bd=>?_⟩;exact⟨M1,.refl,q M1 A1 ((cu.after (e:=.leaves i x) hi eb st bd).mono (c9 _) (by omega)) st⟩
  .rw[lm,d6]at g3;rw[cV g3]at q;exact oK cu.at_ ⟨rfl,_,⟨rfl,rfl⟩,oG rfl,b,A,V,.over i "done",rfl,cu.b,cu.bd,cu.lim X5 (by omega),hi,over "done" q⟩
def Oq(G:Gl K mg a):Fq P w K mg base 2 a.a5 (MT a):=by
 refine fq G.a5.toDG xQ (λr u=>⟨_,(oJ (oZ 2 xQ (oP (oP v0)))
 (oM (oR (pR uh rfl G.I ug (pO (qh rfl (xu (ix:=[none,none,some 2,some 1]) (N':=["i","on","wishes","call"])) (wb rfl G.bU (pO (oP v0))) (uk (n:=2) rfl (pT (qe 0) (pT (qe 1) sD))) (vo (W3.b3 (wK (tT U1) (vZ (tT (Dq (R:=FY a) (o9 U2 v0) (SA G) (r.mono (by first|decide|omega)) (pO U3))))))) v0)))))),?_⟩)
 rintro ds M Q ⟨A,V,l,L,k,c,rfl,rd,hk,q⟩
 obtain⟨ph,gr,ws,W0,pr,gd,rs,i1,i2,i3,i4,i5,i6,i7,i8⟩:=rd.pl;refine oK rd.bd.at_ (i' rfl (oK i1 (i' rfl ?_)));refine oK rd.bd.at_ (i' rfl (i' rd.bd.on ?_));refine HD (rest:=[some (.ref ws),some (.ref k.p)]) rd.on rd.ok.w16 rd.bd.on (λi w0 ew y kk hkk=>?_) λp hp=>i' oS ⟨M,.new hp,q⟩;obtain⟨r,e1,e2⟩:=Av i8 ew;exact i' i4 (i' e1 (oK e2 ⟨by cases w0.2<;>rfl,_,⟨w0.2,rfl,rfl⟩,Ri e2 hk hkk⟩))
def Og(G:Gl K mg a):Fq P w K mg base 10 a.a6 (OX a):=by
 refine fq G.a6.toDG BZ (λr u=>⟨_,(oJ (oZ 3 BZ (Bg (R:=Ll a) (o9 (oP (oP v0)) (o9 U2 oN)) (Q2 G) (r.mono (by first|decide|omega))))
 (oJ (pf (pI v0 G.c.toCls G.k (qD G) r (pO (pk (pF oO (qP U1 (o9 U3 oN) U2))))))
 (oJ (pf (pI v0 G.c.toCls G.k (qD G) r (pO (pk (rJ oO U1)))))
 (oJ (pf (pI v0 G.c.toCls G.k (qD G) r (pO (pk (pF oO (pF U1 (qP (o9 U3 oN) (o9 U3 oN) (o9 U3 oN))))))))
 (oM (pf (oY (Ia G) r G.aa (rJ v0 U1)))))))),?_⟩)
 rintro ds M Q ⟨M0,b,A,V,l,c,n,i,k,r,rfl,cu,hc,hn,wf,du,q⟩
 obtain⟨ph,gr,ws,W0,pr,gd,rs,i1,i2,i3,i4,i5,i6,i7,i8⟩:=cu.pl;cases du with
 | on k0 _ _ b0 x y m hk hs hw hl hy=>
  have hi:=(cT.mp hk).1;rw[zd hw]at q;rw[ra]at q;obtain⟨r0,e1,e2⟩:=Av i8 hw;refine oK cu.at_ (i' rfl (oK i1 (i' rfl (i' (yT _ _) (i' i4 (i' e1 (oK e2 ⟨rfl,_,⟨⟨.silent x y m,rfl⟩,rfl⟩,r0,.silent x y m,rfl,e2,?_⟩)))))));refine oK cu.at_ ⟨rfl,_,⟨rfl,rfl⟩,oG rfl,b,A,V,.asks i x (k::r),rfl,cu.b,cu.bd,cu.lim hc (by omega),trivial,λM1 A1 eb1 Wf bd1=>?_⟩;have c1:=cu.after (e:=.asks i x (k::r)) trivial eb1 Wf bd1;refine oK c1.at_ ⟨rfl,_,⟨rfl,rfl⟩,oG rfl,b,A1,_,.quiet i,rfl,c1.b,c1.bd,c1.lim hc (by omega),hi,λM2 A2 eb2 VW W7=>?_⟩;have c2:=c1.after (e:=.quiet i) hi eb2 VW W7;have WM:i<(pN (pN V (.asks i x (k::r))) (.quiet i)).calls.length:=by show i<(V.calls.modify i oQ.nq).length;rw[gb];exact hi
  refine oK c2.at_ ⟨rfl,_,⟨rfl,rfl⟩,oG rfl,b,A2,_,.leg ⟨i,x,y,x⟩,rfl,c2.b,c2.bd,c2.lim hc (by omega),WM,λM3 A3 eb3 Wp bd3=>?_⟩;have c3:=c2.after (e:=.leg ⟨i,x,y,x⟩) WM eb3 Wp bd3;exact⟨M0,b,A3,_,l,c,n+3,i,_,rfl,c3,hc,by omega,D4 wf hk hs hy,Eg hk,λM4 A4 c4 st4=>⟨M4,.refl,q M4 A4 (c4.mono (c9 _) (by omega)) (Wf.trans (VW.trans (Wp.trans st4)))⟩⟩
def ON(G:Gl K mg a):Fq P w K mg base 11 a.a7 (M9 a):=by
 refine fq G.a7.toDG sF (λr u=>⟨_,(oJ (pf (pI v0 G.c.toCls G.k (qD G) r (pO (pk (pO oO)))))
 (oM (tM eU rfl (wb rfl G.bU (pO (pR sY rfl G.y sZ (pO (oP v0))))) (uk (n:=2) rfl (pT (qI 1 sF) (pT (qI 2 sF) sD)))
 (oM (pq (oV u (oP U2) oO)
 (oJ (oZ 3 sF (oY (Oq G) r G.a5 (rJ v0 U2)))
 (oM (pq (oV u (pB pU rfl G.g pQ (pO U3)) oN)
 (oM (pf (oY (Og G) r G.a6 (qP v0 U1 U3))))
 oX)))
 oX))))),?_⟩)
 rintro ds M Q ⟨M0,b,A,V,l,c,n,rfl,cu,hc,hn,wf,q⟩
 refine oK cu.at_ ⟨rfl,_,⟨rfl,rfl⟩,oG rfl,b,A,V,.turn,rfl,cu.b,cu.bd,cu.lim (by omega) (by omega),trivial,λM1 A1 eb st bd=>?_⟩;have c1:=cu.after (e:=.turn) trivial eb st bd;have wf1:=Em wf;have lv:(pN V .turn).calls.length=V.calls.length:=cQ ..;have ev:Ek l V=.turn::rA l (List.range V.calls.length) (pN V .turn):=rfl;rw[ev,<-lv]at q;have q:∀M' A',tX a M0 M' b A' (qo (pN V .turn) (rA l (List.range (pN V .turn).calls.length) (pN V .turn))) l c (n+1+33*c)->qz A M A' M'->Q .mz M':=q;have c1:tX a M0 M1 b A1 (pN V .turn) l c (n+1):=c1;generalize pN V .turn=V1 at c1 wf1 q bd;refine oK c1.at_ (i' rfl (i' c1.bd.ca λr hr=>i' oS ?_));have t:=pY.new (c:=.lst (A1.cs.map λk=>D.ref k.p)) hr;have lr:=@oS M1 r (A1.cs.map λk=>D.ref k.p);have nf:=c1.bd.nz hr;have c2:=c1.sub t;have cl:V1.calls.length<=c:=c1.sz.ca;generalize oU M1 r (.lst (A1.cs.map λk=>D.ref k.p))=M2 at t lr c2 ⊢;refine uP (tY 0 (A1.cs.map λk=>D.ref k.p)) (λpre δ M'=>(∃A',tX a M0 M' b A' (qo V1 (rA l (List.range pre.length) V1)) l c (n+1+33*pre.length)/\qz A1 M2 A' M')/\∃y1 y2 y3,δ=[some (.ref b),y1,y2,y3]) (λpre δ M' j=>?_) _ [] _ _ rfl ⟨⟨A1,c2,.refl⟩,none,none,none,rfl⟩ ?_ ?_
 .obtain⟨⟨A',c3,Wp⟩,_⟩:=j;exact rY (Wp.1 r _ nf (pS lr))
 .rintro pre d post e δ M' ⟨⟨A',c3,Wp⟩,y1,y2,y3,rfl⟩ nx VI
  rw[cU,dN,jP,CS,ra]at VI;have wf3:=Eu cu.ok (List.range pre.length) wf1;generalize qo V1 (rA l (List.range pre.length) V1)=V3 at c3 wf3 VI;obtain⟨x,hx,rfl⟩:=HC e;rw[dw]at hx;cases ek:A1.cs[pre.length]? with
  | none=>rw[ek]at hx;cases hx
  | some k=>
   rw[ek]at hx;have hx:D.ref k.p=x:=de hx;subst hx;have hp:pre.length<c:=by have:=(cT.mp ek).1;rw[c1.bd.len]at this;omega
   have ek3:=Wp.2.2.1 _ k ek;have hi:pre.length<V3.calls.length:=by rw[<-c3.bd.len];exact(cT.mp ek3).1
   have ec:V3.calls[pre.length]?=some V3.calls[pre.length]:=cS hi;generalize V3.calls[pre.length]=cv at ec;have ca:=c3.bd.cs _ k cv ek3 ec;obtain⟨ad,md,g1,_⟩:=ca;refine⟨rfl,oK g1 (i' rfl ?_)⟩;have hdv:yr l V3 pre.length=if (cv.st=="rings")=true then Gp l V3 (Gd cv)else[]:=by unfold yr;rw[ec];rfl
   have mz:yr l V3 pre.length=[]->∀y1' y2' y3',nx [some (.ref b),y1',y2',y3'] M':=λh0 y1' y2' y3'=>VI _ _ ⟨⟨A',by rw[h0];exact c3.mono (c9 _) (by omega),Wp⟩,_,_,_,rfl⟩;have du:=GK (V:=V3) (i:=pre.length) cu.ok;refine qg (c:=cv.st=="rings") (λg=>?_) (λg=>mz (by rw[hdv,cV g]) _ _ _);rw[cX g]at hdv;refine⟨A',V3,l,_,k,cv,by rw[c3.b],c3.rd (by omega) wf3,c3.bd.cs _ k cv ek3 ec,?_⟩;rw[<-hdv];cases hdq:yr l V3 pre.length with
   | nil=>exact mz hdq _ _ _
   | cons k0 r0=>rw[hdq]at du VI;refine wU (dO (by rw[cQ];show(0:Int)<((k0::r0).length:Nat);rw[dW];omega)) ?_;exact⟨M0,b,A',V3,l,c,_,pre.length,k0,r0,rfl,c3,by omega,by omega,wf3,du,λM4 A4 c4 st4=>VI _ _ ⟨⟨A4,c4.mono (c9 _) (by omega),Wp.trans st4⟩,_,_,_,rfl⟩⟩
 .rintro δ M' ⟨⟨A',c3,Wp⟩,y1,y2,y3,rfl⟩
  have hl:(tY 0 (A1.cs.map λk=>D.ref k.p)).length=V1.calls.length:=by rw[uN,cQ,c1.bd.len]
  rw[hl]at c3;exact⟨M',.refl,q M' A' (c3.mono (c9 _) (by omega)) (st.trans ((qz.sub t).trans Wp))⟩
inductive PD(l:oW)(V:qb):tG->Ev->Prop
 | sw (b:Bool) (i:Nat):i<V.on.length->PD l V (.sw b (i:Nat)) (.sw b i)
 | answer (x:Str) (i:Nat) (c:oQ):V.calls[i]?=some c->PD l V (.num "answer" x [(i:Nat)]) (.talks i [c.cr,x])
 | hold (x:Str) (i:Nat) (c:oQ):V.calls[i]?=some c->PD l V (.num "hold" x [(i:Nat)]) (.held i x)
 | back (x:Str) (i:Nat) (c:oQ):V.calls[i]?=some c->PD l V (.num "back" x [(i:Nat)]) (.talks i c.ms)
 | two (w x:Str) (i j:Nat) (c d:oQ):i≠j->w="hand"\/w="join"->V.calls[i]?=some c->V.calls[j]?=some d->rb c.ms x≠[]->rb d.ms x≠[]->PD l V (.num w x [(i:Nat),(j:Nat)]) (.merge i j (if (w=="hand")=true then[qa c x,qa d x]else[x,qa c x,qa d x]))
def Fp(a:Ad):qJ:=λds M Q=>Fs λA V l e ev=>ds=[.ref A.b,tG.d e]/\Rd a M A V l/\PD l V e ev/\Q ev.d M
def QS(a:Ad):qJ:=λds M Q=>RJ λM0 b A V l c n e=>ds=[.ref b,tG.d e]/\tX a M0 M b A V l c n/\c<10000/\n<=5000000/\WF l V/\e.mX/\xl l V e=none/\∀M' A',tX a M0 M' b A' (qo V (wM l V e)) l (c+1) (n+40+33*c)->qz A M A' M'->Q .mz M'
def U7(a:Ad)(M0 M:Mp)(b:Addr)(A:sQ)(V:qb)(l:oW)(c n:Nat)(e:tG)(Q:DK):Prop:=xl l V e=none->∀M' A' r,tX a M0 M' b A' (qo V (wM l V e)) l (c+1) (n+40+33*c)->qz A M A' M'->M' r=none->Q (.ref r) (oU M' r (.lst ((wM l V e).map Ev.d)))
def R9(a:Ad):Gg:=λds M Q R=>RJ λM0 b A V l c n e=>ds=[.ref b,tG.d e]/\tX a M0 M b A V l c n/\c<10000/\n<=5000000/\WF l V/\e.mX/\U7 a M0 M b A V l c n e Q/\(∀w,xl l V e=some w->R a.F (some ("word",.str w)) M)
def Rd.call{a:Ad}{M:Mp}{A:sQ}{V:qb}{l:oW}(rd:Rd a M A V l){i:Nat}{c:oQ}(e:V.calls[i]?=some c):∃k,A.cs[i]?=some k/\rh a M (A.lists++V.fo) k c:=by
 have hi:i<A.cs.length:=by rw[rd.bd.len];exact(cT.mp e).1
 exact⟨A.cs[i],cS hi,rd.bd.cs i _ c (cS hi) e⟩
def xX{i:Int}(h:0<=i):∃m:Nat,i=(m:Int):=dY h
def IF{c:oQ}{x:Str}(nd:c.ms.Nodup)(h2:c.ms.length=2)(hx:x∈c.ms):rb c.ms x≠[]:=λz=>by have:=wI nd hx;rw[z]at this;simp only[dD]at this;omega
def J'(G:Gl K mg a):Fq P w K mg base 2 a.a8 (Fp a):=by
 refine fq G.a8.toDG sv (λr u=>⟨_,(oJ (oZ 2 sv (o9 U1 oN))
 (oJ (pq (oV u U2 (pk (rJ oO oO)))
 (oM (oR (pk (rJ U2 (o9 U1 oN)))))
 oX)
 (oJ (oZ 3 sv (o9 U1 oN))
 (oJ (oZ 4 sv (o9 U1 oN))
 (oJ (oZ 5 sv (o9 (oP v0) v4))
 (oJ (pq (oV u U2 oO)
 (oM (oR (pk (qP oO v4 (pk (rJ (oP v5) U3))))))
 oX)
 (oJ (pq (oV u U2 oO)
 (oM (oR (pk (qP oO v4 U3))))
 oX)
 (oJ (pq (oV u U2 oO)
 (oM (oR (pk (qP oO v4 (pR uh rfl G.I ug (pO (oP v5)))))))
 oX)
 (oJ (oZ 6 sv (o9 U1 oN))
 (oJ (oZ 7 sv (pk (rJ (pI v5 G.e.toCls G.ar (FU G) r (pO U3)) (pI (o9 (oP v0) v6) G.e.toCls G.ar (FU G) r (pO U3)))))
 (oJ (pq (oV u U2 oO)
 (oM (oR (pk (pF oO (qP v4 v6 v7)))))
 oX)
 (oM (oR (pk (pF oO (qP v4 v6 (pE (pk (pO U3)) v7))))))))))))))))),?_⟩)
 rintro ds M Q ⟨A,V,l,e,ev,rfl,rd,sg,q⟩
 cases sg with
 | sw b i hi=>
  cases b with
  | true=>exact⟨oG rfl,rfl,rfl,oG rfl,M,.refl,q⟩
  | false=>exact⟨oG rfl,rfl,rfl,oG rfl,M,.refl,q⟩
 | answer x i c hc=>obtain⟨k,ek,ca⟩:=rd.call hc;obtain⟨ad,md,h1,h2,h3,h4,n1,n2⟩:=ca;refine⟨oG rfl,rfl,rfl,?_⟩;refine oK rd.bd.at_ (i' rfl (i' rfl (i' rd.bd.ca (i' (qN ek) ?_))));exact oK h1 (i' rfl ⟨oG rfl,oG rfl,M,.refl,q⟩)
 | hold x i c hc=>obtain⟨k,ek,ca⟩:=rd.call hc;refine⟨oG rfl,rfl,rfl,?_⟩;refine oK rd.bd.at_ (i' rfl (i' rfl (i' rd.bd.ca (i' (qN ek) ?_))));exact⟨oG rfl,M,.refl,q⟩
 | back x i c hc=>obtain⟨k,ek,ca⟩:=rd.call hc;obtain⟨ad,md,h1,h2,h3,h4,n1,n2⟩:=ca;refine⟨oG rfl,rfl,rfl,?_⟩;refine oK rd.bd.at_ (i' rfl (i' rfl (i' rd.bd.ca (i' (qN ek) ?_))));exact oK h1 (i' rfl (i' h4 ⟨oG rfl,M,.refl,q⟩))
 | two wd x i j c d Wx hw hc hd nc nd=>
  obtain⟨k,ek,ca⟩:=rd.call hc;obtain⟨k',ek',ca'⟩:=rd.call hd;have ca0:=ca;have ca1:=ca';obtain⟨ad,md,h1,h2,h3,h4,n1,n2⟩:=ca0;obtain⟨ad',md',f1,_⟩:=ca1;obtain⟨y1,r1,e1⟩:=fH nc;obtain⟨y2,r2,e2⟩:=fH nd;have o1:qa c x=y1:=by unfold qa;rw[e1];rfl
  have o2:qa d x=y2:=by unfold qa;rw[e2];rfl
  rw[o1,o2]at q;rcases hw with rfl|rfl
  .refine⟨oG rfl,rfl,rfl,?_⟩;refine oK rd.bd.at_ (i' rfl (i' rfl (i' rd.bd.ca (i' (qN ek) ?_))));refine oK h1 ⟨rfl,_,⟨rfl,rfl⟩,_,k,c,x,y1,r1,rfl,ca,(rd.ms c (qC hc)).2,e1,?_⟩;refine oK rd.bd.at_ (i' rfl (i' rfl (i' rd.bd.ca (i' (qN ek') ?_))));refine oK f1 ⟨rfl,_,⟨rfl,rfl⟩,_,k',d,x,y2,r2,rfl,ca',(rd.ms d (qC hd)).2,e2,?_⟩;exact⟨oG rfl,oG rfl,M,.refl,q⟩
  .refine⟨oG rfl,rfl,rfl,?_⟩;refine oK rd.bd.at_ (i' rfl (i' rfl (i' rd.bd.ca (i' (qN ek) ?_))));refine oK h1 ⟨rfl,_,⟨rfl,rfl⟩,_,k,c,x,y1,r1,rfl,ca,(rd.ms c (qC hc)).2,e1,?_⟩;refine oK rd.bd.at_ (i' rfl (i' rfl (i' rd.bd.ca (i' (qN ek') ?_))));refine oK f1 ⟨rfl,_,⟨rfl,rfl⟩,_,k',d,x,y2,r2,rfl,ca',(rd.ms d (qC hd)).2,e2,?_⟩;exact⟨oG rfl,oG rfl,fF _ _,by show 1+2<=sizeLine;have hz:=dI;omega,oG rfl,M,.refl,q⟩
def QZ(G:Gl K mg a):Fq P w K mg base 12 a.a9 (QS a):=by
 refine fq G.a9.toDG LY (λr u=>⟨_,(oJ (oZ 2 LY (o9 U1 oN))
 (oM (pq (oV u U2 oO)
 (oM (pf (oY (Lh G) r G.a3 (qP v0 (o9 U1 oN) (o9 U1 oN)))))
 (oM (pq (oV u U2 oO)
 (oM (pf (oY (OZ G) r G.a4 (qP v0 (o9 U1 oN) (o9 U1 oN)))))
 (oM (pq (oV u U2 oO)
 (oM (pf (oY (ON G) r G.a7 (pO v0))))
 (oM (pf (pI v0 G.c.toCls G.k (qD G) r (pO (oY (J' G) r G.a8 (rJ v0 U1))))))))))))),?_⟩)
 rintro ds M Q ⟨M0,b,A,V,l,c,n,e,rfl,cu,hc,hn,wf,hf,hr,q⟩
 have rd:=cu.rd (by omega) wf;have one:∀(ev:Ev),PD l V e ev->wM l V e=[ev]->ev.ok V->ev.nw=0->zq (M b) λC fs'=>fs'.lookup ("apply":Str)=none/\∃sp,(C=a.c/\sp=vh a)/\Fp a [.ref b,e.d] M λd M1=>sp [.ref b,d] M1 λ_ M'=>∃Vz,pY Vz M'/\Q .mz Vz:=λev sg he ok h0=>by refine oK cu.at_ ⟨rfl,_,⟨rfl,rfl⟩,A,V,l,e,ev,by rw[cu.b],rd,sg,b,A,V,ev,rfl,cu.b,cu.bd,cu.lim (by omega) (by omega),ok,λM1 A1 eb st bd=>?_⟩;rw[he]at q;have c1:=cu.after ok eb st bd;rw[h0]at c1;exact⟨M1,.refl,q M1 A1 (c1.mono (by omega) (by omega)) st⟩
 cases e with
 | call y z=>obtain⟨h1,h2,h3,h4⟩:=Dy hr;exact⟨M0,b,A,V,l,c,n,y,z,rfl,cu,by omega,by omega,GO wf h1 h2 h3 h4,λM' A' c1 st=>⟨M',.refl,q M' A' (c1.mono (by omega) (by omega)) st⟩⟩
 | turn=>exact⟨M0,b,A,V,l,c,n,rfl,cu,by omega,by omega,wf,λM' A' c1 st=>⟨M',.refl,q M' A' (c1.mono (by omega) (by omega)) st⟩⟩
 | sw b0 i=>
  obtain⟨h1,h2⟩:=Th hr;obtain⟨i,rfl⟩:=xX h1;cases b0 with
  | true=>exact one (.sw true i) (.sw true i h2) rfl h2 rfl
  | false=>exact one (.sw false i) (.sw false i h2) rfl h2 rfl
 | num wd x ns=>
  obtain⟨hx,no⟩:=GT hf hr;cases no with
  | answer i c0 hi hc0 h1 h2 h3=>obtain⟨i,rfl⟩:=xX hi;have lt:=(cT.mp hc0).1;exact one (.talks i [c0.cr,x]) (.answer x i c0 hc0) (eL (λev=>[ev]) (yQ hc0)) ⟨lt,by show 2<=100;decide⟩ rfl
  | hang i c0 hi hc0 h1=>obtain⟨i,rfl⟩:=xX hi;exact⟨M0,b,A,V,l,c,n,x,i,c0,rfl,cu,by omega,by omega,hc0,λM' A' c1 st=>⟨M',.refl,q M' A' (c1.mono (by omega) (by omega)) st⟩⟩
  | hold i c0 hi hc0 h1=>obtain⟨i,rfl⟩:=xX hi;have lt:=(cT.mp hc0).1;exact one (.held i x) (.hold x i c0 hc0) (eL (λev=>[ev]) (yQ hc0)) lt rfl
  | back i c0 hi hc0 h1 h2=>obtain⟨i,rfl⟩:=xX hi;have lt:=(cT.mp hc0).1;exact one (.talks i c0.ms) (.back x i c0 hc0) (eL (λev=>[ev]) (yQ hc0)) ⟨lt,(cu.sz.cs c0 (qC hc0)).2.2⟩ rfl
  | two _ i j c0 d0 hi hj hw hc0 hd0 h1 h2=>
   obtain⟨i,rfl⟩:=xX hi;obtain⟨j,rfl⟩:=xX hj;have lt:=(cT.mp hc0).1;have lt':=(cT.mp hd0).1;have Wx:=(Hw (w:=wd) wf hc0 hd0 h1 h2).1;have k0:=wf.ok _ c0 hc0;have k1:=wf.ok _ d0 hd0;obtain⟨_,u2,u3,_⟩:=D3 k0 h1;obtain⟨_,v2,v3⟩:=zF.mp h2;have sg:=PD.two (l:=l) wd x i j c0 d0 Wx hw hc0 hd0 (IF k0.mn u2 u3) (IF k1.mn v3 v2);have ok:(Ev.merge i j (if (wd=="hand")=true then[qa c0 x,qa d0 x]else[x,qa c0 x,qa d0 x])).ok V:=⟨lt,lt',Wx,by split;exact(by decide:2<=100);exact(by decide:3<=100)⟩;have he:wM l V (.num wd x [(i:Int),(j:Int)])=[.merge i j (if (wd=="hand")=true then[qa c0 x,qa d0 x]else[x,qa c0 x,qa d0 x])]:=eL (λev=>[ev]) (GP hc0 hd0);rcases hw with rfl|rfl
   .exact one _ sg he ok rfl
   .exact one _ sg he ok rfl
def Ju(G:Gl K mg a):wC P w K mg base (Bv P w) 1 a.H.f a.H.d a.H.p (vD K "word"):=
 Kn G.H.toDG Bt λVG A outer s H E=>DH (NJ (pv 0) (pv 1))
def Sg(G:Gl K mg a):UG P w K mg base 13 a.J (R9 a):=by
 refine SQ G.J.toDG Gn (by walk_at "m") (λ_ _ _ _ _ _ R hr hR=>⟨_,(oJ (oZ 2 Gn (oY (GQ G) hr G.aY (rJ v0 U1)))
 (oJ (pq (oV (U4 hr) U2 qU)
 (oM (IY G.b3 (Ju G) (hr.mono (by first|decide|omega)) G.H.b G.b4 G.H.at_ rfl G.bV hR (pO U2)))
 oX)
 (oJ (oZ 3 Gn (pB pU rfl G.g pQ (pO (oP v0))))
 (oJ (pf (oY (QZ G) hr G.a9 (rJ v0 U1)))
 (oM (oR (rN (oP v0) (rW U3) sE))))))),?_⟩)
 .rintro ds M Q ⟨M0,b,A,V,l,c,n,e,rfl,cu,hc,hn,wf,hf,q,rr⟩
  refine⟨A,V,l,e,by rw[cu.b],cu.rd (by omega) wf,hf,?_⟩;cases er:xl l V e with
  | some w0=>exact⟨_,rfl,rr w0 er⟩
  | none=>
   refine oK cu.at_ (i' rfl (i' cu.bd.lo ?_));refine⟨M0,b,A,V,l,c,n,e,rfl,cu,hc,hn,wf,hf,er,λM' A' c1 st=>?_⟩;refine oK c1.at_ (i' rfl (i' c1.bd.lo λp hp=>?_));have hcut:L3.sT ((qo V (wM l V e)).log.map Ev.d) (some (((V.log.map Ev.d).length:Nat):Int)) none=(wM l V e).map Ev.d:=by rw[HN,dM,Gw _ _ (by rw[cU];omega),List.drop_left]
   rw[hcut];exact⟨_,.refl,q er M' A' p c1 st hp⟩
def Nf(a:Ad):qJ:=λds M Q=>RJ λM0 b A V l c n e=>ds=[.ref b,tG.d e]/\tX a M0 M b A V l c n/\c<10000/\n<=5000000/\WF l V/\e.mX/\U7 a M0 M b A V l c n e Q/\(∀w,xl l V e=some w->Q (.str w) M)
def Nn(G:Gl K mg a):Fq P w K mg base 14 a.bu (Nf a):=by
 refine fq G.bu.toDG wV (λr u=>⟨_,(oJ (oZ 2 wV qU)
 (oJ (O0 (ix:=2) (i:=3) (My (Sg G) (r.mono (by first|decide|omega)) rfl G.J.mg G.J.toDG.kp G.J.b (rJ v0 U1)) rfl rfl rfl G.bV wV.nd rfl rfl rfl rfl (by decide))
 (oM (oR U2)))),?_⟩)
 rintro ds M Q ⟨M0,b,A,V,l,c,n,e,rfl,cu,hc,hn,wf,hf,q,qf⟩
 refine⟨λC y M'=>C=a.F/\M=M'/\∃w,xl l V e=some w/\y=some (("word":Str),D.str w),?_,?_⟩
 .exact⟨M0,b,A,V,l,c,n,e,rfl,cu,hc,hn,wf,hf,λh M' A' r c1 st hm=>⟨_,.refl,q h M' A' r c1 st hm⟩,λw h=>⟨rfl,rfl,w,h,rfl⟩⟩
 .rintro C y M' ⟨rfl,rfl,w,h,rfl⟩
  exact⟨G.b6,G.b5,w,rfl,M,.refl,qf w h⟩
noncomputable def ve(g:tJ):Bool:=g.2.1==("turns":Str)
noncomputable def uy(l:oW):List (Str×Int):=(l.groups.filter ve).map λg=>(g.1,0)
noncomputable def V0(p:Addr)(h:Int)(l:oW)(F:List Addr):qb:=⟨p,h,0,[],[],uy l,l.mv.map (·.1),[],F⟩
def DO(a:Ad):qJ:=λds M Q=>Fs λb p h F (l:oW)=>ds=[.ref b,.ref p,.int h]/\M b=some (.ins a.c [])/\sC a M p l/\rg l/\p≠b/\(∀x∈F,∃c,M x=some c)/\∀M' A,A.b=b->rM b M M'->(∀x∈A.foot,x=b\/M x=none)->pb a M' A (V0 p h l F)->Q .mz M'
noncomputable def J9(g:D):Bool:=match g with
 | .tup (_::.str m::_)=>m=="turns"
 | _=>false
noncomputable def Pv(d:D):D:=.tup [Aq d,.int 0]
def GZ(gs:List tJ):((gs.map qH).filter J9).map Pv=(gs.filter ve).map λg=>D.tup [.str g.1,.int 0]:=by rw[gP,dX];rfl
def JV(l:oW):((l.groups.filter ve).map λg=>((Sum.inr g.1:qE),D.int 0))=sy (uy l):=by unfold sy uy;rw[dX];rfl
noncomputable def bF(p:Addr)(h:Int)(ca le nx W8:Addr)(k:Nat):List (Str×D):=List.take (α:=Str×D) k [("plan",.ref p),("hour",.int h),("turn",.int 0),("calls",.ref ca),("legs",.ref le),("nexts",.ref nx),("on",.ref W8)]
def Lj(G:Gl K mg a):Fq P w K mg base 1 a.ah (DO a):=by
 refine fq G.ah.toDG Ci (λr u=>⟨_,(oJ (pK v0 U1)
 (oJ (pK v0 U2)
 (oJ (pK v0 oN)
 (oJ (pK v0 (qr rO))
 (oJ (pK v0 (qr rO))
 (oJ (pK v0 (pR (DW rfl) rfl G.bT EC (pO (qh rfl (xu (ix:=[none]) (N':=["group"])) (qd (oP U1)) (qe 0) (vo (oV u (o9 v0 oN) oO)) (pk (rJ (o9 v0 oN) oN))))))
 (oJ (pK v0 (pR sY rfl G.y sZ (pO (oP U1))))
 (oM (pK v0 (qr rO)))))))))),?_⟩)
 rintro ds M Q ⟨b,p,h,F,l,rfl,hb,⟨ph,gr,ws,on,pr,gd,rs,i1,i2,i3,i4,i5,i6,i7,i8⟩,ok,nbp,hF,q⟩
 have hz:=dI;have l2:=ok.g3;refine oK hb ⟨(G.C "plan" rfl),by show 0<1000;decide,?_⟩;have k1:rM b M (oU M b (.ins a.c [("plan",.ref p)])):=.put;have b1:oU M b (.ins a.c [("plan",.ref p)]) b=some (.ins a.c [("plan",.ref p)]):=pA;show tW _ _ _ _ (oU M b (.ins a.c [("plan",.ref p)]));generalize oU M b (.ins a.c [("plan",.ref p)])=N1 at k1 b1 ⊢;refine oK b1 ⟨(G.C "hour" rfl),by show 1<1000;decide,?_⟩;have k2:=k1.trans (rM.put (p:=b) (c:=.ins a.c [("plan",.ref p),("hour",.int h)]));have b2:oU N1 b (.ins a.c [("plan",.ref p),("hour",.int h)]) b=some (.ins a.c [("plan",.ref p),("hour",.int h)]):=pA;show tW _ _ _ _ (oU N1 b (.ins a.c [("plan",.ref p),("hour",.int h)]));generalize oU N1 b (.ins a.c [("plan",.ref p),("hour",.int h)])=N2 at k2 b2 ⊢;refine oK b2 ⟨(G.C "turn" rfl),by show 2<1000;decide,?_⟩;have k3:=k2.trans (rM.put (p:=b) (c:=.ins a.c (bF p h 0 0 0 0 3)));have b3:oU N2 b (.ins a.c (bF p h 0 0 0 0 3)) b=some (.ins a.c (bF p h 0 0 0 0 3)):=pA;show tW _ _ _ _ (oU N2 b (.ins a.c (bF p h 0 0 0 0 3)));generalize oU N2 b (.ins a.c (bF p h 0 0 0 0 3))=N3 at k3 b3 ⊢;clear k1 k2 b1 b2;refine⟨oG rfl,λca hca=>?_⟩;obtain⟨n4,e4,k4,c4,b4⟩:=sd (fs':=(bF p h ca 0 0 0 4)) (c:=.lst []) b3 hca;refine oK e4 ⟨(G.C "calls" rfl),by show 3<1000;decide,?_⟩;show tW _ _ _ _ (oU (oU N3 ca (.lst [])) b (.ins a.c (bF p h ca 0 0 0 4)));generalize oU (oU N3 ca (.lst [])) b (.ins a.c (bF p h ca 0 0 0 4))=N4 at k4 c4 b4 ⊢;have XB:=k3.trans k4;have z1:M ca=none:=qX k3 b3 hca;have lc4:oA N4 ca=some []:=rY c4;refine⟨oG rfl,λle YI=>?_⟩;obtain⟨n5,e5,k5,c5,b5⟩:=sd (fs':=(bF p h ca le 0 0 5)) (c:=.lst []) b4 YI;refine oK e5 ⟨(G.C "legs" rfl),by show 4<1000;decide,?_⟩;show tW _ _ _ _ (oU (oU N4 le (.lst [])) b (.ins a.c (bF p h ca le 0 0 5)));generalize oU (oU N4 le (.lst [])) b (.ins a.c (bF p h ca le 0 0 5))=N5 at k5 c5 b5 ⊢;have XC:=XB.trans k5;have z2:M le=none:=qX XB b4 YI;have le5:oA N5 le=some []:=rY c5;have mcl:le≠ca:=λz=>by rw[z,pS lc4]at YI;cases YI
 have lc5:=k5.lst (pD lc4 b4) lc4;have p5:=XC _ _ nbp i1;have g5:=XC.lst (pD i3 hb) i3;clear k3 k4 k5 XB lc4 c4 c5 e4 e5 b3 b4;refine oK p5 (i' rfl (i' g5 ?_));refine sH (f:=Pv) (t:=J9) g5 _ [] _ (by rw[cQ];simp only[dD];omega) (λd hd k hk=>?_) (λd hd _ k hk=>?_) λq1 WC=>?_
 .obtain⟨v,_,rfl⟩:=dv.mp hd;exact hk
 .obtain⟨v,_,rfl⟩:=dv.mp hd;exact⟨oG rfl,hk⟩
 rw[dS,GZ];have Yf:=pY.new (c:=.lst ((l.groups.filter ve).map λg=>D.tup [.str g.1,.int 0])) WC;refine i' oS (i' (vU (λg:tJ=>g.1) (λ_=>D.int 0) _) ⟨xV (il (List.Sublist.map _ fU) (il (jp _ _) ok.nd)),λnx VI=>?_⟩);have z3:M nx=none:=qX XC b5 (Yf.none VI);obtain⟨n6,e6,k6,c6,b6⟩:=sd (fs':=(bF p h ca le nx 0 6)) (c:=.dk ((l.groups.filter ve).map λg=>((Sum.inr g.1:qE),D.int 0))) (Yf _ _ b5) VI;refine oK e6 ⟨(G.C "nexts" rfl),by show 5<1000;decide,?_⟩;have k6:=Yf.keep.trans k6;have Xq:vq "nexts" (.ref nx) (bF p h ca le 0 0 5)=(bF p h ca le nx 0 6):=rfl;rw[Xq];generalize oU (oU (oU N5 q1 (.lst ((l.groups.filter ve).map λg=>D.tup [.str g.1,.int 0]))) nx (.dk ((l.groups.filter ve).map λg=>((Sum.inr g.1:qE),D.int 0)))) b (.ins a.c (bF p h ca le nx 0 6))=N6 at k6 b6 c6 ⊢;have x6:zc N6 nx=some ((l.groups.filter ve).map λg=>((Sum.inr g.1:qE),D.int 0)):=CZ c6;have kk6:=XC.trans k6;have lc6:=k6.lst (pD lc5 b5) lc5;have le6:=k6.lst (pD le5 b5) le5;have p6:=kk6 _ _ nbp i1;have o6:=kk6.lst (pD i5 hb) i5;clear XC k6 lc5 p5 g5 e6 c6;refine oK p6 (i' rfl (i' o6 λW8 YL=>?_));have z4:M W8=none:=qX kk6 b6 YL;obtain⟨n7,e7,k7,c7,b7⟩:=sd (fs':=(bF p h ca le nx W8 7)) (c:=.lst (l.mv.map λw=>D.bl w.1)) b6 YL;refine oK e7 ⟨(G.C "on" rfl),by show 6<1000;decide,?_⟩;have Xq:vq "on" (.ref W8) (bF p h ca le nx 0 6)=(bF p h ca le nx W8 7):=rfl;rw[Xq];generalize oU (oU N6 W8 (.lst (l.mv.map λw=>D.bl w.1))) b (.ins a.c (bF p h ca le nx W8 7))=N7 at k7 b7 c7 ⊢;have kk7:=kk6.trans k7;have lc7:=k7.lst (pD lc6 b6) lc6;have le7:=k7.lst (pD le6 b6) le6;have x7:=k7.dk (BB x6 b6) x6;have lo7:oA N7 W8=some ((l.mv.map (·.1)).map D.bl):=by rw[dX];exact rY c7
 refine⟨oG rfl,λlg hlg=>?_⟩;obtain⟨n8,e8,k8,c8,b8⟩:=sd (fs':=sN (.ref p) h 0 ca le nx W8 lg) (c:=.lst []) b7 hlg;refine oK e8 ⟨(G.C "log" rfl),by show 7<1000;decide,_,.refl,?_⟩;have apart:∀{N:Mp} {x y:Addr} {ds:List D},N x=none->oA N y=some ds->x≠y:=λ{N x y ds} h1 h2 z=>by have:=pS h2;rw[<-z,h1]at this;cases this
 have y5:=qX kk7 b7 hlg;refine q _ ⟨b,ca,le,nx,W8,lg,[]⟩ rfl (kk7.trans k8) (λx hx=>?_) ⟨b8,k8.lst (pD lc7 b7) lc7,k8.lst (pD le7 b7) le7,?_,k8.lst (pD lo7 b7) lo7,rY c8,rfl,λi k c e=>by simp at e,?_,dJ.mpr ⟨dz,eC⟩,λx hx=>?_⟩
 rotate_right
 .by_cases z:x=b
  .exact⟨_,by rw[z];exact b8⟩
  .obtain⟨c,e⟩:=hF x hx;exact⟨c,(kk7.trans k8) x c z e⟩
 .have hx:x∈[b,nx,ca,le,W8,lg]:=by
   unfold sQ.foot sQ.lists at hx
   simpa using hx
  simp only[cZ,dz,eP]at hx;rcases hx with rfl|rfl|rfl|rfl|rfl|rfl
  .exact .inl rfl
  .exact .inr z3
  .exact .inr z1
  .exact .inr z2
  .exact .inr z4
  .exact .inr y5
 .show zc _ nx=some (sy (uy l));rw[<-JV];exact k8.dk (BB x7 b7) x7
 .have m1:=apart hlg lc7;have m2:=apart hlg le7;have m3:=apart hlg lo7;have m4:=apart YL lc6;have m5:=apart YL le6;show[ca,le,W8,lg].Nodup;simp only[dJ,cZ,dz,eP,fB,not_false_eq_true,eC,and_true];exact⟨⟨dG mcl,dG m4,dG m1⟩,⟨dG m5,dG m2⟩,dG m3⟩
def UQ{p:Addr}{h:Int}{l:oW}{F:List Addr}(ok:rg l):WF l (V0 p h l F):=by
 refine⟨λi c e=>by simp[V0]at e,λi j ci cj x e=>by simp[V0]at e,λx hx=>?_,λi j ci cj x e=>by simp[V0]at e,λz hz ht=>?_⟩
 .show((0:Nat):Int)<=ub l x;unfold ub;cases e:l.mL x with
  | none=>exact Int.le_refl _
  | some v=>have:=(ok.po v (fN e)).l1;show(0:Int)<=v.2.1;omega
 .show ∃v,(uy l).find? (λp=>decide (p.1=z))=some v/\_;unfold oW.mD at ht;cases e:l.group z with
  | none=>rw[e]at ht;exact absurd ht (by decide)
  | some g=>
   rw[e]at ht;have hg:=fN e;have hn:g.1=z:=by simpa using jQ e
   have hm:((g.1,0):Str×Int)∈uy l:=dv.mpr ⟨g,fz.mpr ⟨hg,ht⟩,rfl⟩;cases q:(uy l).find? (λp=>decide (p.1=z))with
   | none=>exact absurd (gQ.mp q _ hm) (by simp[hn])
   | some v=>refine⟨v,rfl,?_⟩;obtain⟨g',_,rfl⟩:=dv.mp (fN q);exact⟨Int.le_refl _,Int.natCast_nonneg _⟩
def Dk{l:oW}(ok:rg l):(uy l).length<=3:=by unfold uy;rw[cQ];exact dU (gy _ _) ok.g3
def Ev.noT:Ev->Prop
 | .turn=>False
 | _=>True
def Ev.noN:Ev->Prop
 | .next _ _=>False
 | _=>True
theorem ES:∀{es:List Ev} {V:qb},(∀e∈es,e.noN)->(qo V es).ps=V.ps
 | [],_,_=>rfl
 | e::r,V,h=>(ES (es:=r) (V:=pN V e) λx hx=>h x (dA _ hx)).trans (by have:=h e dH;cases e<;>first|rfl|cases this)
theorem BM(i:Nat):∀(st:so) (q:Option Str),∀e∈rf i q st,e.noT/\e.noN
 | [],_,e,h=>by unfold rf at h;cases h
 | (y,gs)::r,none,e,h=>by
  rcases cZ.mp (show e∈Ev.asks i y gs::rf i (some y) r from h)with rfl|h
  .exact⟨trivial,trivial⟩
  .exact BM i r _ e h
 | (y,gs)::r,some u,e,h=>by
  rcases cZ.mp (show e∈Ev.leg ⟨i,u,y,u⟩::Ev.asks i y gs::rf i (some y) r from h)with rfl|h
  .exact⟨trivial,trivial⟩
  rcases cZ.mp h with rfl|h
  .exact⟨trivial,trivial⟩
  .exact BM i r _ e h
def ND{i:Nat}{st:so}{en:vn}:∀e∈sW i st en,e.noT/\e.noN:=λe h=>by
 unfold sW at h;cases en with
 | ring ns=>
  dsimp only at h;cases q:st.getLast? with
  | none=>rw[q]at h;cases h
  | some s0=>rw[q]at h;rw[dg.mp h];exact⟨trivial,trivial⟩
 | _=>cases h
def MX{ps:List (Str×Int)}{z:Str}{n:Int}(h:ps.any (λp=>decide (p.1=z))=true):(Bq ps z n).length=ps.length:=by unfold Bq;rw[cX h,cQ]
def Re{l:oW}{V V1:qb}{i:Nat}{en:vn}(nx:tR l V1)(he:Fe l V i en):(qo V1 (sA l V i en)).ps.length=V1.ps.length:=by
 cases en with
 | rings z ps=>
  show(qo V1 ((if (l.mD z=="turns")=true then[Ev.next z (Pu (l.mj z) (ps.headD Str.empty))]else[])++[.rings i ps])).ps.length=_;rw[ra];by_cases ht:(l.mD z=="turns")=true
  .rw[cX ht];refine MX ?_;obtain⟨v,e,_⟩:=nx z he.1 ht;exact gp.mpr ⟨v,fN e,by simpa using jQ e⟩
  .rw[cV ht];rfl
 | breaks z=>
  unfold sA;dsimp only;split
  .rfl
  .rfl
 | waits z=>rfl
 | engaged z=>rfl
 | barred=>rfl
 | ring ns=>rfl
def Pz{l:oW}{V:qb}{i:Nat}{k:oQ}(ok:rg l)(wf:zb l V (some i))(hk:V.calls[i]?=some k):(qo V (wz l V i)).ps.length=V.ps.length:=by
 have WE:=wf.ok i k hk;unfold wz;rw[hk];dsimp only[Option.elim];obtain⟨z,hz⟩:∃z,k.way.getLast?=some z:=by
  cases e:k.way.getLast? with
  | none=>exact absurd (gG.mp e) WE.wy.1
  | some z=>exact⟨z,rfl⟩
 rw[show k.way.getLastD Str.empty=z by rw[ib,hz];rfl];have ro:xB l V k.cr (l.nm.length+1) [] (ur l V k.cr z k.way.dropLast):=yq ok _ _ _ _ (WE.wy.2 z (iM hz)) λx hx=>WE.wy.2 x (iN _ hx);have eo:=KH ok wf hk ro.e;generalize ur l V k.cr z k.way.dropLast=R at eo;obtain⟨e,st⟩:=R;have e1:(qo (qo V (rf i none st)) (sW i st e)).ps=V.ps:=(ES λx hx=>(ND x hx).2).trans (ES λx hx=>(BM i st none x hx).2);rw[ra,ra];refine(Re (λz hz ht=>?_) eo).trans (eL List.length e1);rw[e1];exact wf.nx z hz ht
theorem Hz{l:oW}(ok:rg l):∀(is:List Nat) {V:qb},WF l V->(qo V (rA l is V)).ps.length=V.ps.length
 | [],V,_=>by unfold rA;rfl
 | i::r,V,wf=>by
  unfold rA;rw[ra];refine(Hz ok r (HU ok wf)).trans ?_;have d:=GK (V:=V) (i:=i) ok;generalize yr l V i=fs at d;cases d with
  | no=>rfl
  | on c k r b x y n hc hs hk hw hy=>rw[zd hk,ra];exact Pz ok (D4 wf hc hs hy) (Eg hc)
def Tw{l:oW}{V:qb}{e:tG}(ok:rg l)(wf:WF l V)(f:e.mX)(h:xl l V e=none):(qo V (wM l V e)).ps.length=V.ps.length:=by
 cases e with
 | call y z=>obtain⟨h1,h2,h3,h4⟩:=Dy h;obtain⟨k,hk⟩:=Kt (V:=V) (y:=y) (z:=z);show(qo V (_++wz l _ _)).ps.length=_;rw[ra];exact Pz ok (GO wf h1 h2 h3 h4) hk
 | turn=>exact Hz ok _ (Em wf)
 | sw b i=>rfl
 | num w x ns=>
  refine eL List.length (ES λev hev=>?_);obtain⟨_,n⟩:=GT f h;cases n with
  | answer i c hi hc h1 h2 h3=>rw[dg.mp (show ev∈[DC V "answer" x i.toNat]from hev),yQ hc];trivial
  | hang i c hi hc h1=>
   have hev:ev∈vM V x i.toNat:=hev;unfold vM at hev;rw[hc]at hev;dsimp only[Option.elim]at hev;split at hev
   .rw[dg.mp hev];trivial
   split at hev
   .rcases cZ.mp hev with rfl|hev
    .trivial
    split at hev
    .rw[dg.mp hev];trivial
    .cases hev
   split at hev
   .rw[dg.mp hev];trivial
   .rw[dg.mp hev];trivial
  | hold i c hi hc h1=>rw[dg.mp (show ev∈[DC V "hold" x i.toNat]from hev),yQ hc];trivial
  | back i c hi hc h1 h2=>rw[dg.mp (show ev∈[DC V "back" x i.toNat]from hev),yQ hc];trivial
  | two _ i j c d hi hj hw hc hd h1 h2=>rw[dg.mp (show ev∈[Ft V w x i.toNat j.toNat]from hev),GP hc hd];trivial
noncomputable def AE(c:oQ):List Str:=if (c.st=="talks"||c.st=="held")=true then c.ms else c.cr::c.at_
def Jr(a:Ad):qJ:=λds M Q=>Ck λL k c=>ds=[.ref (qQ.p k)]/\rh a M L k c/\c.at_.length<=100/\∀r M',pY M M'->oA M' r=some ((AE c).map D.str)->Q (.ref r) M'
noncomputable def KI(V:qb)(WI:List Str):List Nat:=(List.range V.calls.length).filter λi=>(V.calls[i]?).elim false λc=>hasS WI c.st
def Nq(a:Ad):qJ:=λds M Q=>AD λA V l WI=>ds=[.ref A.b,.tup (List.map D.str WI)]/\Rd a M A V l/\∀r M',pY M M'->oA M' r=some ((KI V WI).map λn=>D.int (n:Nat))->Q (.ref r) M'
noncomputable def QI(V:qb)(WI:List Str):D->Bool
 | .int n=>(V.calls[n.toNat]?).elim false λc=>hasS WI c.st
 | _=>false
def JT(G:Gl K mg a):Fq P w K mg base 1 a.bn (Jr a):=by
 refine fq G.bn.toDG Co (λr u=>⟨_,(oJ (pq (W3.b3 (vG (oV u (oP v0) oO) (vv (oV u (oP v0) oO))))
 (oM (oR (pR sY rfl G.y sZ (pO (oP v0)))))
 oX)
 (oM (oR (pE (qr (pO (oP v0))) (pR sY rfl G.y sZ (pO (oP v0))))))),?_⟩)
 rintro ds M Q ⟨L,k,c,rfl,⟨ad,md,h1,h2,h3,h4,_⟩,ha,q⟩
 have hz:=dI;unfold AE at q;refine oK h1 (i' rfl (qg (c:=c.st=="talks") (λg=>?_) (λg=>?_)))
 .rw[g,gY,cX rfl]at q;exact oK h1 (i' rfl (i' h4 λr hr=>⟨_,.refl,q r _ (.new hr) oS⟩))
 rw[dB.mpr g,fG]at q;refine oK h1 (i' rfl (qg (c:=c.st=="held") (λg=>?_) (λg=>?_)))
 .rw[cX g]at q;exact oK h1 (i' rfl (i' h4 λr hr=>⟨_,.refl,q r _ (.new hr) oS⟩))
 rw[cV g]at q;refine oK h1 (i' rfl ⟨oG rfl,λr1 Wm=>?_⟩);have t1:=pY.new (c:=.lst [D.str c.cr]) Wm;have l1:=@oS M r1 [D.str c.cr];show zq (oU M r1 (.lst [D.str c.cr]) k.p) _;generalize oU M r1 (.lst [D.str c.cr])=M1 at t1 l1 ⊢;refine oK (t1 _ _ h1) (i' rfl (i' (t1.lst h3) λr2 X0=>?_));have t2:=pY.new (c:=.lst (c.at_.map D.str)) X0;refine i' (t2.lst l1) (i' oS ⟨?_,λr3 XD=>⟨_,.refl,q r3 _ (t1.trans (t2.trans (.new XD))) oS⟩⟩);rw[cQ];show 1+c.at_.length<=sizeLine;omega
def OM(G:Gl K mg a):Fq P w K mg base 1 a.bo (Nq a):=by
 refine fq G.bo.toDG Ak (λr u=>⟨_,(oM (oR (qh rfl (xu (ix:=[none,some 0,some 1]) (N':=["_law_k","_law_board","_law_states"])) (vC rfl G.aO (pO (pB pU rfl G.g pQ (pO (oP v0))))) (qe 0) (vo (oV u (oP (o9 (oP U1) v0)) U2)) v0))),?_⟩)
 rintro ds M Q ⟨A,V,l,WI,rfl,rd,q⟩
 have hz:=dI;have lc:((A.cs.map λk=>D.ref k.p).length:Int)=(V.calls.length:Nat):=by rw[cQ,rd.bd.len]
 have hb:=rd.k;refine oK rd.bd.at_ (i' rfl (i' rd.bd.ca ?_));rw[lc];refine⟨rfl,⟨by omega,by omega⟩,?_⟩;refine sH (f:=id) (t:=QI V WI) trivial _ [] _ (by rw[cQ,eA];simp only[dD];omega) (λd hd k hk=>?_) (λd hd _ k hk=>?_) λr hr=>?_
 .obtain⟨i,hi,rfl⟩:=dv.mp hd;rw[gk]at hi;have hi:i<V.calls.length:=by omega
  obtain⟨k',ek,⟨ad,md,h1,_⟩⟩:=rd.call (cS hi);have ea:vL (A.cs.map λk=>D.ref k.p) (0+(i:Nat))=some (.ref k'.p):=by rw[ma];exact qN ek
  refine oK rd.bd.at_ (i' rfl (i' rfl (i' rd.bd.ca (i' ea (oK h1 (i' rfl (i' rfl ⟨rfl,pG _,?_⟩)))))));show k (inD (.str V.calls[i].st) (WI.map D.str)) M;rw[qO];have e1:QI V WI (.int (0+(i:Nat)))=hasS WI V.calls[i].st:=by show(V.calls[(0+(i:Int)).toNat]?).elim false _=_;rw[show(0+(i:Int)).toNat=i by omega,cS hi];rfl
  show k (hasS WI V.calls[i].st) M;rw[<-e1];exact hk
 .exact hk
 .refine⟨_,.refl,q r _ (.new hr) (oS.trans (eL some ?_))⟩;rw[dS,iW,gP,show(((V.calls.length:Nat):Int)).toNat=V.calls.length from rfl];unfold KI;have e1:(QI V WI∘λi:Nat=>D.int (0+(i:Nat)))=λi=>(V.calls[i]?).elim false λc=>hasS WI c.st:=funext λi=>by show(V.calls[(0+(i:Int)).toNat]?).elim false _=_;rw[show(0+(i:Int)).toNat=i by omega]
  rw[e1];exact gJ λi _=>by rw[ma]
noncomputable def Fy:Str->List Str:=λw=>if (w=="answer")=true then["rings","waits"]else if (w=="hold")=true then["talks"]else if (w=="hang")=true then["rings","waits","talks","held"]else["held"]
def Qj(w:Str):Prop:=w="answer"\/w="hang"\/w="hold"\/w="back"\/w="hand"\/w="join"
def JU(a:Ad):qJ:=λds M Q=>Fs λA V l c w=>ds=[.ref A.b,.int c,.str w,.tup ((Fy w).map D.str)]/\Rd a M A V l/\WF l V/\(∀k∈V.calls,k.at_.length<=100)/\Qj w/\∀M',pY M M'->Q .mz M'/\∀e:tG,e.mX->Q e.d M'
def ya{M:Mp}{n:Nat}{a b:Addr}{ds:List D}(ha:oA M a=some ds)(hb:oA M b=some []):CO M (n+1) (.ref a) (.ref b)=some ds.isEmpty:=by
 show(oA M a).bind (λi=>(oA M b).bind λj=>if i.length=j.length then tw (CO M n) i j else some false)=_;rw[ha,hb];cases ds with
 | nil=>rfl
 | cons x r=>rfl
def ue{α:Type}(f:α->D){xs:List α}(h:xs≠[])(c k:Int):(0:Int)<((xs.map f).length:Nat)/\∃x∈xs,vL (xs.map f) (draw c k ((xs.map f).length:Nat))=some (f x):=by
 have hp:(0:Int)<((xs.map f).length:Nat):=by have:=eX.mpr h;rw[cQ];omega
 have d0:=qB (c:=c) (f:=k) hp;have d1:=qu (c:=c) (f:=k) hp;obtain⟨n,e⟩:=dY d0;rw[e]at d1 ⊢;have hn:n<xs.length:=by rw[cQ]at d1;omega
 exact⟨hp,xs[n],hW hn,uz (by rw[dw,cS hn];rfl)⟩
def Ql{V:qb}{WI:List Str}{i:Nat}(h:i∈KI V WI):∃c,V.calls[i]?=some c/\c.st∈WI:=by
 have h:=(fz.mp h).2;cases e:V.calls[i]? with
 | none=>rw[e]at h;cases h
 | some c=>rw[e]at h;exact⟨c,rfl,qk.mp h⟩
def Dm{l:oW}{c:oQ}(k:uR l false c)(h:c.st≠"over"):AE c≠[]:=by
 unfold AE;split
 .rename_i g;rcases k.sh with z|⟨_,z|z|⟨_,z⟩|z⟩
  .rw[z.1]at g;exact absurd g (by decide)
  .rw[z.1]at g;exact absurd g (by decide)
  .intro y;rw[y]at z;rcases z.2.1 with u|u<;>cases u
  .intro y;rw[y]at z;cases z.2.1
  .exact absurd z.1 h
 .exact fF _ _
def R6{l:oW}{c:oQ}(k:uR l false c)(h:c.st∈Fy "answer"):c.at_≠[]:=by
 have h:c.st="rings"\/c.st="waits":=by
  rcases cZ.mp h with g|g
  .exact .inl g
  .exact .inr (dg.mp g)
 rcases k.sh with z|⟨_,z|z|⟨_,z⟩|z⟩
 .exact z.2.2.2.2.2 rfl
 .intro y;rw[y]at z;cases z.2.2.2.2
 all_goals(rw[z.1]at h;exact absurd h (by decide))
def Ir{l:oW}{c:oQ}(k:uR l false c)(h:c.st="held"):∃x,c.hd=some x:=by
 rcases k.sh with z|⟨_,z|z|⟨x,z⟩|z⟩
 .rw[h]at z;exact absurd z.1 (by decide)
 .rw[h]at z;exact absurd z.1 (by decide)
 .rw[h]at z;exact absurd z.1 (by decide)
 .exact⟨x,z.2.2.1⟩
 .rw[h]at z;exact absurd z.1 (by decide)
def JE(G:Gl K mg a):Fq P w K mg base 4 a.bp (JU a):=by
 refine fq G.bp.toDG qV (λr u=>⟨_,(oJ (oZ 4 qV (oY (OM G) r G.bo (rJ v0 U3)))
 (oJ (pq (oV u v4 (qr rO))
 (oM (oR qU))
 oX)
 (oJ (oZ 5 qV (o9 v4 (oY (ql G) r G.i (qP U1 oN (pB pU rfl G.g pQ (pO v4))))))
 (oJ (oZ 6 qV (oY (JT G) r G.bn (pO (o9 (oP v0) v5))))
 (oJ (pq (oV u U2 oO)
 (oM (oZ 6 qV (pR sY rfl G.y sZ (pO (oP (o9 (oP v0) v5))))))
 oX)
 (oJ (pq (W3.b3 (vG (oV u U2 oO) (vG (oV u U2 oO) (vv (oV u U2 oO)))))
 (oM (oZ 6 qV (qr (pO (oP (o9 (oP v0) v5))))))
 oX)
 (oJ (oZ 7 qV (o9 v6 (oY (ql G) r G.i (qP U1 oN (pB pU rfl G.g pQ (pO v6))))))
 (oJ (pq (W3.b3 (vG (oV u U2 oO) (vv (oV u U2 oO))))
 (oJ (oZ 8 qV (pI v0 G.c.toCls G.Q (yb G) r (pO v7)))
 (oM (oR (pk (pF U2 (qP v7 v5 (PK (oV u v8 qU) oN v8)))))))
 oX)
 (oM (oR (pk (qP U2 v7 v5)))))))))))),?_⟩)
 rintro ds M Q ⟨A,V,l,c,wd,rfl,rd,wf,ha,ho,q⟩
 have hz:=dI;refine⟨A,V,l,Fy wd,rfl,rd,λr M1 s1 lr=>?_⟩;refine⟨oG rfl,λr0 YM=>?_⟩;have t2:=pY.new (c:=.lst []) YM;have Yj:=t2.lst lr;refine i' (ya Yj oS) ?_;have s2:=s1.trans t2;generalize oU M1 r0 (.lst [])=M2 at s2 Yj ⊢;clear t2 lr YM s1;refine qg (c:=((KI V (Fy wd)).map λn=>D.int (n:Nat)).isEmpty) (λ_=>⟨M2,.refl,(q M2 s2).1⟩) (λg=>?_);have gne:KI V (Fy wd)≠[]:=λz=>g (by rw[z];rfl);obtain⟨hp,i,hi,ei⟩:=ue (λn:Nat=>D.int (n:Nat)) gne c 40692;obtain⟨cv,hc,hs⟩:=Ql hi;have XG:=rd.sub s2;obtain⟨k,ek,ca⟩:=XG.call hc;have ca0:=ca;obtain⟨ad,md,h1,h2,h3,h4,_⟩:=ca0;have WE:=wf.ok i cv hc;refine i' Yj ⟨c,_,_,rfl,hp,i' Yj (i' ei ?_)⟩;refine oK XG.bd.at_ (i' rfl (i' rfl (i' XG.bd.ca (i' (qN ek) ?_))));refine⟨_,k,cv,rfl,ca,ha cv (qC hc),λr3 M3 s3 lr3=>?_⟩;have Wl:=s3 _ _ h1;have q3:=λM' (s:pY M3 M')=>q M' (s2.trans (s3.trans s));have X3:=XG.sub s3;have Ye:=s3.lst h3;clear q Yj s2 h1 h2 h3 h4 ca;rcases ho with rfl|rfl|rfl|rfl|rfl|rfl
 .
  refine oK X3.bd.at_ (i' rfl (i' rfl (i' X3.bd.ca (i' (qN ek) (oK Wl (i' rfl (i' Ye λr4 hr4=>?_)))))));obtain⟨VH,x,hx,ex⟩:=ue D.str (R6 WE hs) c 742938285;refine i' oS ⟨c,_,_,rfl,VH,i' oS (i' ex ?_)⟩;exact⟨oG rfl,_,.refl,(q3 _ (.new hr4)).2 (.num "answer" x [(i:Nat)]) (.inl ⟨.inl rfl,rfl⟩)⟩
 .
  obtain⟨VH,x,hx,ex⟩:=ue D.str (Dm WE (λz=>by rw[z]at hs;exact absurd hs (by decide))) c 742938285;refine i' lr3 ⟨c,_,_,rfl,VH,i' lr3 (i' ex ?_)⟩;exact⟨oG rfl,_,.refl,(q3 _ .refl).2 (.num "hang" x [(i:Nat)]) (.inl ⟨.inr (.inl rfl),rfl⟩)⟩
 .
  obtain⟨VH,x,hx,ex⟩:=ue D.str (Dm WE (λz=>by rw[z]at hs;exact absurd hs (by decide))) c 742938285;refine i' lr3 ⟨c,_,_,rfl,VH,i' lr3 (i' ex ?_)⟩;exact⟨oG rfl,_,.refl,(q3 _ .refl).2 (.num "hold" x [(i:Nat)]) (.inl ⟨.inr (.inr (.inl rfl)),rfl⟩)⟩
 .
  obtain⟨y,hy⟩:=Ir WE (dg.mp hs);refine oK X3.bd.at_ (i' rfl (i' rfl (i' X3.bd.ca (i' (qN ek) (oK Wl (i' rfl ⟨oG rfl,λr4 hr4=>?_⟩))))));rw[show FJ cv.hd=.str y by rw[hy];rfl];obtain⟨VH,x,hx,ex⟩:=ue D.str (fF y []) c 742938285;refine i' oS ⟨c,_,_,rfl,VH,i' oS (i' ex ?_)⟩;exact⟨oG rfl,_,.refl,(q3 _ (.new hr4)).2 (.num "back" x [(i:Nat)]) (.inl ⟨.inr (.inr (.inr rfl)),rfl⟩)⟩
 all_goals
  obtain⟨y,hy⟩:=Ir WE (dg.mp hs);refine oK X3.bd.at_ (i' rfl (i' rfl (i' X3.bd.ca (i' (qN ek) (oK Wl (i' rfl ⟨oG rfl,λr4 hr4=>?_⟩))))));rw[show FJ cv.hd=.str y by rw[hy];rfl];obtain⟨VH,x,hx,ex⟩:=ue D.str (fF y []) c 742938285;refine i' oS ⟨c,_,_,rfl,VH,i' oS (i' ex ?_)⟩;have t4:=pY.new (c:=.lst [D.str y]) hr4;refine oK (t4 _ _ X3.bd.at_) ⟨rfl,_,⟨rfl,rfl⟩,A,V,x,rfl,X3.bd.sub t4,X3.k,?_⟩;unfold zK;cases va V x with
  | none=>first|exact⟨oG rfl,_,.refl,(q3 _ t4).2 (.num "hand" x [(i:Nat),(0:Nat)]) (.inr ⟨.inl rfl,rfl⟩)⟩|exact⟨oG rfl,_,.refl,(q3 _ t4).2 (.num "join" x [(i:Nat),(0:Nat)]) (.inr ⟨.inr rfl,rfl⟩)⟩
  | some j=>first|exact⟨oG rfl,_,.refl,(q3 _ t4).2 (.num "hand" x [(i:Nat),(j:Nat)]) (.inr ⟨.inl rfl,rfl⟩)⟩|exact⟨oG rfl,_,.refl,(q3 _ t4).2 (.num "join" x [(i:Nat),(j:Nat)]) (.inr ⟨.inr rfl,rfl⟩)⟩
def Ig:qJ:=λds M Q=>JM λc o n own nm m=>ds=[.int c,.ref o,.ref n,.int ((m:Nat):Int)]/\oA M o=some (List.map D.str own)/\oA M n=some (List.map D.str nm)/\own.length<=100/\nm.length<=100/\m<=1000000/\∀M' (e:tG),pY M M'->e.mX->Q e.d M'
def LX(a:Ad):qJ:=λds M Q=>RJ λA V l c o n own nm=>ds=[.ref A.b,.int c,.ref o,.ref n]/\Rd a M A V l/\WF l V/\(∀k∈V.calls,k.at_.length<=100)/\oA M o=some (List.map D.str own)/\oA M n=some (List.map D.str nm)/\own≠[]/\nm≠[]/\own.length<=100/\nm.length<=100/\∀M' (e:tG),pY M M'->e.mX->Q e.d M'
def Ih{α:Type}(f:α->D){xs:List α}(h:xs≠[]){m:Int}(hm:m=(xs.length:Nat))(c k:Int):(0:Int)<m/\∃x∈xs,vL (xs.map f) (draw c k m)=some (f x):=by have:=ue f h c k;rw[cQ,<-hm]at this;exact this
def Pb{α:Type}(xs:List α)(x:α):xs++[x]≠[]:=by simp
noncomputable def Gq:List Str:=["call","call","call","call","call","answer","answer","answer","answer","answer","hang","hang","hold","hold","hold","back","hand","join","turn","turn","turn"]
theorem CD(d:D):∀n:Nat,(List.replicate n [d]).flatten=List.replicate n d
 | 0=>rfl
 | n+1=>by rw[eB,fJ,CD d n,eB];rfl
noncomputable def zz:Str:="zzzzzz"
noncomputable def Lo(a b:Str)(k m:Int):List tG:=[.call a b,.num "answer" a [k],.num "hang" a [k],.num "hold" a [k],.num "back" a [k],.num "hand" a [k,m],.num "join" a [k,m],.turn,.sw true k,.sw false k]
def Mc{a b:Str}{k m:Int}{e:tG}(h:e∈Lo a b k m):e.mX:=by
 unfold Lo at h;simp only[cZ,dz,eP]at h;rcases h with rfl|rfl|rfl|rfl|rfl|rfl|rfl|rfl|rfl|rfl
 .trivial
 .exact .inl ⟨.inl rfl,rfl⟩
 .exact .inl ⟨.inr (.inl rfl),rfl⟩
 .exact .inl ⟨.inr (.inr (.inl rfl)),rfl⟩
 .exact .inl ⟨.inr (.inr (.inr rfl)),rfl⟩
 .exact .inr ⟨.inl rfl,rfl⟩
 .exact .inr ⟨.inr rfl,rfl⟩
 .trivial
 .trivial
 .trivial
def Ou(G:Gl K mg a):Fq P w K mg base 2 a.bq Ig:=by
 refine fq G.bq.toDG uc (λr u=>⟨_,(oJ (oZ 4 uc (o9 (pE U2 (qr (pO oO))) (oY (ql G) r G.i (qP v0 oN (pE (pB pU rfl G.g pQ (pO U2)) oN)))))
 (oJ (oZ 5 uc (o9 (pE U2 (qr (pO oO))) (oY (ql G) r G.i (qP v0 oN (pE (pB pU rfl G.g pQ (pO U2)) oN)))))
 (oJ (oZ 6 uc (pE (oY (ql G) r G.i (qP v0 oN (pE U3 oN))) oN))
 (oJ (oZ 7 uc (pE (oY (ql G) r G.i (qP v0 oN (pE U3 oN))) oN))
 (oJ (oZ 8 uc (qr (pF (pk (qP oO v4 v5)) (pF (pk (qP oO v4 v6)) (pF (pk (qP oO v4 v6)) (qP (pk (qP oO v4 v6)) (pk (qP oO v4 v6)) (pk (pF oO (qP v4 v6 v7)))))))))
 (oM (oR (o9 (pE v8 (qr (pF (pk (pF oO (qP v4 v6 v7))) (qP (pk (pO oO)) (pk (rJ oO v6)) (pk (rJ oO v6)))))) (oY (ql G) r G.i (qP v0 oN oN)))))))))),?_⟩)
 rintro ds M Q ⟨c,o,n,own,nm,m,rfl,ho,hn,ol,nl,ml,q⟩
 have hz:=dI;have add:∀{M1:Mp} {p:Addr} {xs:List Str} (f:Int) (nx:DK),pY M M1->oA M1 p=some (xs.map D.str)->xs.length<=100->(∀x M',pY M M'->nx (.str x) M')->∀r1,M1 r1=none->(oA (oU M1 r1 (.lst [D.str zz])) p).elim False λi=>(oA (oU M1 r1 (.lst [D.str zz])) r1).elim False λj=>i.length+j.length<=sizeLine/\∀r2,oU M1 r1 (.lst [D.str zz]) r2=none->(oA (oU (oU M1 r1 (.lst [D.str zz])) r2 (.lst (i++j))) p).elim False λys=>Iq [.int c,.int f,.int ((ys.length:Nat)+1)] (oU (oU M1 r1 (.lst [D.str zz])) r2 (.lst (i++j))) λy M2=>match y with
  | .int n=>(oA M2 r2).elim False λzs=>(vL zs n).elim False λd=>nx d M2
  | _=>False:=λ{M1 p xs} f nx s hx lx VI r1 Wm=>by
  have t1:=pY.new (c:=.lst [D.str zz]) Wm;refine i' (t1.lst hx) (i' oS ⟨by rw[cQ];show xs.length+1<=sizeLine;omega,λr2 X0=>?_⟩);have t2:=pY.new (c:=.lst (xs.map D.str++[D.str zz])) X0;obtain⟨hp,x,_,ex⟩:=Ih D.str (Pb xs zz) (m:=((xs.map D.str).length:Nat)+1) (by rw[cQ,cU];rfl) c f;rw[dM]at ex;exact i' ((t1.trans t2).lst hx) ⟨c,f,_,rfl,hp,i' oS (i' ex (VI x _ (s.trans (t1.trans t2))))⟩
 refine⟨oG rfl,add 16807 _ .refl hn nl λx M1 s1=>⟨oG rfl,add 39373 _ s1 (s1.lst hn) nl λy M2 s2=>?_⟩⟩;refine⟨c,_,_,rfl,by show(0:Int)<(m:Nat)+2;omega,⟨c,_,_,rfl,by show(0:Int)<(m:Nat)+2;omega,?_⟩⟩;generalize draw c 69621 ((m:Nat)+2) - 1=k0;refine⟨oG rfl,oG rfl,oG rfl,oG rfl,oG rfl,oG rfl,oG rfl,λr8 hr8=>⟨oG rfl,oG rfl,oG rfl,oG rfl,oG rfl,λr9 hr9=>?_⟩⟩;have t8:=pY.new (c:=.lst (((Lo x y k0 (draw c 22695477 ((m:Nat)+2) - 1)).take 6).map tG.d)) hr8;have t9:=pY.new (c:=.lst (((Lo x y k0 (draw c 22695477 ((m:Nat)+2) - 1)).drop 6).map tG.d)) hr9;refine i' (t9.lst oS) (i' oS ⟨by show 6+4<=sizeLine;omega,λr10 hr10=>?_⟩);obtain⟨hp,e,he,ee⟩:=Ih tG.d (xs:=Lo x y k0 (draw c 22695477 ((m:Nat)+2) - 1)) (fF _ _) (m:=10) rfl c 1664525;exact⟨c,_,_,rfl,hp,i' oS (i' ee ⟨_,.refl,q _ e (s2.trans (t8.trans (t9.trans (.new hr10)))) (Mc he)⟩)⟩
def LF(G:Gl K mg a):Fq P w K mg base 5 a.br (LX a):=by
 refine fq G.br.toDG qW (λr u=>⟨_,(oJ (oZ 4 qW (pE (pE (pE (pE (pE (Bd (qr (pO oO)) oN) (Bd (qr (pO oO)) oN)) (Bd (qr (pO oO)) oN)) (Bd (qr (pO oO)) oN)) (qr (qP oO oO oO))) (Bd (qr (pO oO)) oN)))
 (oJ (oZ 4 qW (o9 v4 (oY (ql G) r G.i (qP U1 oN (pB pU rfl G.g pQ (pO v4))))))
 (oJ (oZ 5 qW (pk (pF oO (qP oO oO oO))))
 (oJ (pq (oV u v4 oO)
 (oM (oZ 5 qW (pk (rJ oO oO))))
 oX)
 (oJ (pq (oV u v4 oO)
 (oM (oZ 5 qW (pk (pO oO))))
 oX)
 (oJ (pq (W3.b3 (vG (oV u v4 oO) (vG (oV u v4 oO) (vv (oV u v4 oO)))))
 (oM (oZ 5 qW (pk (pO oO))))
 oX)
 (oJ (pq (oV u v4 oO)
 (oM (oR (pk (pO oO))))
 oX)
 (oJ (pq (oV u (oY (ql G) r G.i (qP U1 oN oN)) oN)
 (oM (oR (oY (Ou G) r G.bq (pF U1 (qP U2 U3 (pB pU rfl G.g pQ (pO (oP v0))))))))
 oX)
 (oJ (oZ 6 qW qU)
 (oJ (pq (oV u v4 oO)
 (oM (oZ 6 qW (oY (JE G) r G.bp (pF v0 (qP U1 v4 v5)))))
 oX)
 (oJ (pq (oV u v6 qU)
 (oJ (oZ 7 qW (o9 U2 (oY (ql G) r G.i (qP U1 oN (pB pU rfl G.g pQ (pO U2))))))
 (oM (oZ 6 qW (pk (qP oO v7 (o9 U3 (oY (ql G) r G.i (qP U1 oN (pB pU rfl G.g pQ (pO U3))))))))))
 oX)
 (oM (oR v6))))))))))))),?_⟩)
 rintro ds M Q ⟨A,V,l,c,o,n,own,nm,rfl,rd,wf,ha,ho,hn,one,nne,ol,nl,q⟩
 have hz:=dI;refine RP (t:=FR _ _) (λδ M'=>pY M M'/\∃r,oA M' r=some (Gq.map D.str)/\δ=[some (.ref A.b),some (.int c),some (.ref o),some (.ref n),some (.ref r),none,none,none]) (λnx h=>?_) ?_
 .have Xt:∀{N:Mp} {δ:uB} (w0:Str) (m:Int) (nx:DK),pY M N->(0<=m/\m<=10)->(∀r N',pY M N'->pY N N'->oA N' r=some ((List.replicate m.toNat w0).map D.str)->nx (.ref r) N')->Tn (S0 (uG (L3.c3 (.str w0)) xf)) (L3.c3 (.int m)) δ N nx:=λ{N δ} w0 m nx sn hm VI=>by refine⟨oG rfl,λr1 Wm=>?_⟩;refine i' oS ⟨⟨by omega,by omega,by show 1<=1000;decide⟩,λr2 X0=>?_⟩;have t:=(pY.new (c:=.lst [D.str w0]) Wm).trans (pY.new (c:=.lst (List.replicate m.toNat [D.str w0]).flatten) X0);refine VI r2 _ (sn.trans t) t (oS.trans (eL some ?_));rw[List.map_replicate];exact CD _ _
  have WJ:∀{N:Mp} {p r:Addr} {xs ys:List Str} (nx:DK),pY M N->oA N p=some (xs.map D.str)->oA N r=some (ys.map D.str)->xs.length+ys.length<=100->(∀r N',pY M N'->oA N' r=some ((xs++ys).map D.str)->nx (.ref r) N')->TL .Add (.ref p) (.ref r) N nx:=λ{N p r xs ys} nx sn hx hy hl VI=>by refine i' hx (i' hy ⟨by rw[cQ,cQ];omega,λr2 X0=>?_⟩);refine VI r2 _ (sn.trans (.new X0)) (oS.trans (eL some ?_));rw[dM]
  dsimp only[FR,o3];refine Xt "call" 5 _ .refl (by decide) λp1 N1 s1 _ l1=>Xt "answer" 5 _ s1 (by decide) λq2 N2 s2 t2 l2=>WJ _ s2 (t2.lst l1) l2 (by decide) λp2 N3 s3 l3=>Xt "hang" 2 _ s3 (by decide) λq4 N4 s4 t4 l4=>WJ _ s4 (t4.lst l3) l4 (by decide) λp5 N5 s5 l5=>Xt "hold" 3 _ s5 (by decide) λq6 N6 s6 t6 l6=>WJ _ s6 (t6.lst l5) l6 (by decide) λp7 N7 s7 l7=>⟨oG rfl,λr8 hr8=>?_⟩;have t8:=pY.new (c:=.lst ((["back","hand","join"]:List Str).map D.str)) hr8;exact WJ (ys:=["back","hand","join"]) _ (s7.trans t8) (t8.lst l7) oS (by decide) λp9 N9 s9 l9=>Xt "turn" 3 _ s9 (by decide) λq10 N10 s10 t10 l10=>WJ _ s10 (t10.lst l9) l10 (by decide) λp11 N11 s11 l11=>h _ _ ⟨s11,p11,l11,rfl⟩
 rintro δ M1 ⟨s1,r,lr,rfl⟩
 have s1n:=s1.lst hn;have s1o:=s1.lst ho;obtain⟨hp,w0,hw,ew⟩:=ue D.str (show Gq≠[]from fF _ _) c 48271;refine i' lr ⟨c,_,_,rfl,hp,i' lr (i' ew ?_)⟩;obtain⟨XA,x1,hx1,ex1⟩:=ue D.str one c 16807;obtain⟨VH,x2,hx2,ex2⟩:=ue D.str nne c 39373;have Xr:=rd.sub s1;have lc:((A.cs.map λk=>D.ref k.p).length:Int)=(V.calls.length:Nat):=by rw[cQ,rd.bd.len]
 clear lr hp ew;have hw:w0="call"\/w0="turn"\/Qj w0:=by unfold Gq at hw;simp only[cZ,dz,eP]at hw;unfold Qj;rcases hw with h|h|h|h|h|h|h|h|h|h|h|h|h|h|h|h|h|h|h|h|h<;>simp[h]
 have VB:∀M' (e:tG),pY M1 M'->e.mX->∃Vz,pY Vz M'/\Q e.d Vz:=λM' e s f=>⟨M',.refl,q M' e (s1.trans s) f⟩;rcases hw with rfl|rfl|hw
 .refine⟨oG rfl,c,_,_,rfl,by decide,qg (c:=draw c 950706376 9==0) (λ_=>oK Xr.bd.at_ (i' rfl (i' Xr.bd.ca ?_))) (λ_=>?_)⟩
  .rw[lc];exact⟨c,o,n,own,nm,V.calls.length,rfl,s1o,s1n,ol,nl,rd.k,VB⟩
  exact i' s1o ⟨c,_,_,rfl,XA,i' s1o (i' ex1 (i' s1n ⟨c,_,_,rfl,VH,i' s1n (i' ex2 ⟨oG rfl,VB M1 (.call x1 x2) .refl trivial⟩)⟩))⟩
 .exact⟨oG rfl,oG rfl,VB M1 .turn .refl trivial⟩
 have lany:Ig [.int c,.ref o,.ref n,.int ((V.calls.length:Nat):Int)] M1 λd M'=>∃Vz,pY Vz M'/\Q d Vz:=⟨c,o,n,own,nm,V.calls.length,rfl,s1o,s1n,ol,nl,rd.k,VB⟩;have hw':=hw;rcases hw with rfl|rfl|rfl|rfl|rfl|rfl
 all_goals
  first
   | refine⟨oG rfl,oG rfl,c,_,_,rfl,by decide,qg (c:=draw c 950706376 9==0) (λ_=>oK Xr.bd.at_ (i' rfl (i' Xr.bd.ca ?_))) (λ_=>⟨A,V,l,c,_,rfl,Xr,wf,ha,hw',λM' s=>⟨?_,λe f=>?_⟩⟩)⟩
   | refine⟨oG rfl,c,_,_,rfl,by decide,qg (c:=draw c 950706376 9==0) (λ_=>oK Xr.bd.at_ (i' rfl (i' Xr.bd.ca ?_))) (λ_=>⟨A,V,l,c,_,rfl,Xr,wf,ha,hw',λM' s=>⟨?_,λe f=>?_⟩⟩)⟩
  .rw[lc];exact lany
  .exact i' (s.lst s1o) ⟨c,_,_,rfl,XA,i' (s.lst s1o) (i' ex1 (i' (s.lst s1n) ⟨c,_,_,rfl,VH,i' (s.lst s1n) (i' ex2 ⟨oG rfl,VB M' (.call x1 x2) s trivial⟩)⟩))⟩
  .cases e with
   | call y z=>exact VB M' (.call y z) s f
   | num v y ns=>exact VB M' (.num v y ns) s f
   | turn=>exact VB M' .turn s f
   | sw b i=>exact VB M' (.sw b i) s f
def Jx{A A':sQ}{M M':Mp}{x:Addr}{c:uA}(st:qz A M A' M')(h:x∉A.foot)(hx:M x=some c):x∉A'.foot:=λz=>by
 rcases st.2.1 x z with y|y
 .exact h y
 .rw[hx]at y;cases y
noncomputable def L1(A:sQ)(M:Mp):Mp:=λx=>if x∈A.foot then none else M x
def DF{A:sQ}{M:Mp}{x:Addr}{ds:List D}(h:oA M x=some ds)(n:x∉A.foot):oA (L1 A M) x=some ds:=rY (by unfold L1;rw[cV n];exact pS h)
structure Lp(a:Ad)(M0 N M:Mp)(b:Addr)(A:sQ)(V:qb)(l:oW)(m:Nat):Prop where
 cu:tX a M0 M b A V l (1+m) (3+2200*m)
 wf:WF l V
 ps:V.ps.length<=3
 own:∀x c,N x=some c->M x=some c/\x∉A.foot
variable {N:Mp}{m:Nat}
def Lp.s(g:Lp a M0 N M b A V l m):pY N M:=λx c e=>(g.own x c e).1
def Lp.sub(g:Lp a M0 N M b A V l m)(s:pY M M'):Lp a M0 N M' b A V l m:=⟨g.cu.sub s,g.wf,g.ps,λx c e=>⟨s x c (g.own x c e).1,(g.own x c e).2⟩⟩
def Lp.mS(g:Lp a M0 N M b A V l m):Lp a M0 N M b A V l (m+1):=⟨g.cu.mono (by omega) (by omega),g.wf,g.ps,g.own⟩
def Lp.after{e:tG}(g:Lp a M0 N M b A V l m)(hm:m<=63)(f:e.mX)(hr:xl l V e=none)(cu:tX a M0 M' b A' (qo V (wM l V e)) l (1+m+1) (3+2200*m+40+33*(1+m)))(st:qz A M A' M'):Lp a M0 N M' b A' (qo V (wM l V e)) l (m+1):=⟨cu.mono (by omega) (by omega),Tc g.cu.ok g.wf f hr,by rw[Tw g.cu.ok g.wf f hr];exact g.ps,λx c h=>⟨st.1 x c (g.own x c h).2 (g.own x c h).1,Jx st (g.own x c h).2 (g.own x c h).1⟩⟩
def Lp.rd(g:Lp a M0 N M b A V l m)(hm:m<=64):Rd a M A V l:=g.cu.rd (by omega) g.wf
def Lp.mk0(cu:tX a M0 M b A V l 1 3)(wf:WF l V)(ps:V.ps.length<=3):Lp a M0 (L1 A M) M b A V l 0:=⟨cu,wf,ps,λx c e=>by
 unfold L1 at e;split at e
 .cases e
 .rename_i h;exact⟨e,h⟩⟩
def Lp.start{a:Ad}{M0 M:Mp}{b p:Addr}{A:sQ}{h:Int}{l:oW}(ok:rg l)(pl:sC a M0 p l)(hb:M0 b=none)(eb:A.b=b)(kp:rM b (oU M0 b (.ins a.c [])) M)(fr:∀x∈A.foot,x=b\/oU M0 b (.ins a.c []) x=none)(bd:pb a M A (V0 p h l [])):tX a M0 M b A (V0 p h l []) l 1 3/\WF l (V0 p h l [])/\(V0 p h l []).ps.length<=3:=by
 have t:=pY.new (c:=.ins a.c []) hb;refine⟨⟨bd,pl,λx c e=>kp x c (PJ e hb) (t x c e),λx hx=>?_,eb,⟨eQ _,eQ _,eQ _,Dk ok,λk hk=>by cases hk⟩,ok,cQ ..⟩,UQ ok,Dk ok⟩;rcases fr x hx with z|z
 .rw[z];exact hb
 .exact t.none z
def GV{ns:List Int}{m:Int}(h2:2<=m)(h:m<=100):2<=(uD ns m).mo.length:=by have:=(wc (s:=cell ns 0) h2 h).2;show 2<=((List.range (qY (cell ns 0) m)).map _).length;rw[cQ,eA];exact this
def QR(a:Ad):qJ:=λds M Q=>Ay λns m=>ds=[.rl (List.map D.int ns),.int m]/\2<=m/\m<=8/\∀M0 M' A p h,pY M M0->tX a M0 M' A.b A (V0 p h (uD ns m) []) (uD ns m) 1 3->WF (uD ns m) (V0 p h (uD ns m) [])->(V0 p h (uD ns m) []).ps.length<=3->Q (.ref A.b) M'
def Jb(a:Ad):qJ:=λds M Q=>Ck λA V l=>ds=[.ref (sQ.b A)]/\Rd a M A V l/\∀M' r ro rn,pY M M'->M ro=none->M rn=none->oA M' r=some [.ref ro,.ref rn]->oA M' ro=some (l.pn.map D.str)->oA M' rn=some (l.nm.map D.str)->Q (.ref r) M'
def QO(G:Gl K mg a):Fq P w K mg base 10 a.bs (QR a):=by
 refine fq G.bs.toDG uZ (λr u=>⟨_,(oJ (Hn (oY (Lz G) r G.bm (rJ v0 U1)) (uk (n:=3) rfl (pT (qI 2 uZ) (pT (qI 3 uZ) (pT (qI 4 uZ) sD)))))
 (oM (oR (uL (Lj G) r G.c G.b7 G.ah.toDG (rJ (uL (OC G) r G.h G.b8 G.ai.toDG (qP U2 U3 v4)) (oY (ql G) r G.i (qP (oY (Mi G) r G.O (rJ v0 oN)) oN oN))))))),?_⟩)
 rintro ds M Q ⟨ns,m,rfl,h2,h8,q⟩
 have ok:rg (uD ns m):=O2 h2 h8;refine⟨ns,m,rfl,h2,h8,λr1 r2 r3 M1 s1 e1 e2 e3=>⟨rfl,?_⟩⟩;generalize uD ns m=l at e1 e2 e3 ok q;refine λp hp=>?_;have t2:=pY.new (c:=.ins a.h []) hp;refine⟨p,r1,r2,r3,l,rfl,pA,t2.lst e1,t2.lst e2,t2.lst e3,ok,λM2 kp pa _=>⟨rfl,?_⟩⟩;have s2:pY M1 M2:=λx c e=>kp x c (PJ e hp) (t2 x c e);refine⟨ns,0,rfl,_,_,_,rfl,by decide,λb hb=>?_⟩;have t5:=pY.new (c:=.ins a.c []) hb;have npb:p≠b:=λz=>by obtain⟨ph,gr,ws,W0,pr,gd,rs,i1,_⟩:=pa;rw[z,hb]at i1;cases i1
 refine⟨b,p,_,[],l,rfl,pA,pa.sub t5,ok,npb,(λx hx=>by cases hx),λM5 A eb kp fr bd=>⟨rfl,M5,.refl,?_⟩⟩;obtain⟨cu,wf,ps⟩:=Lp.start ok pa hb eb kp fr bd;subst eb;exact q M2 M5 A p _ (s1.trans s2) cu wf ps
def Ja(G:Gl K mg a):Fq P w K mg base 1 a.bt (Jb a):=by
 refine fq G.bt.toDG yL (λr u=>⟨_,(oJ (uF (i:=1) yL.nd rfl (Or.inl rfl) rfl (xu (ix:=[none]) (N':=["_law_phone"])) (qd (oP (oP v0))) (qe 0) rB (o9 v0 oN))
 (oM (oR (qr (rJ U1 (pE U1 (qh rfl (xu (ix:=[none]) (N':=["_law_group"])) (qd (oP (oP v0))) (qe 0) rB (o9 v0 oN)))))))),?_⟩)
 rintro ds M Q ⟨A,V,l,rfl,rd,q⟩
 have hz:=dI;have p8:=rd.ok.p8;have g3:=rd.ok.g3;have pl:l.pn.length=l.mo.length:=cQ ..;obtain⟨ph,gr,ws,W0,pr,gd,rs,i1,i2,i3,_⟩:=rd.pl;refine oK rd.bd.at_ (i' rfl (oK i1 (i' rfl (i' i2 (qy (f:=Aq) i2 _ [] _ (by rw[cQ];simp only[dD];omega) (λd hd k hk=>?_) λro hro=>?_)))))
 .obtain⟨x,_,rfl⟩:=dv.mp hd;exact hk
 rw[dS,wg];have t3:=pY.new (c:=.lst ((l.mo.map (·.1)).map D.str)) hro;have lo:oA (oU M ro (.lst ((l.mo.map (·.1)).map D.str))) ro=some (l.pn.map D.str):=oS;show zq (oU M ro (.lst ((l.mo.map (·.1)).map D.str)) A.b) _;generalize oU M ro (.lst ((l.mo.map (·.1)).map D.str))=M3 at lo t3 ⊢;refine oK (t3 _ _ rd.bd.at_) (i' rfl (oK (t3 _ _ i1) (i' rfl (i' (t3.lst i3) (qy (f:=Aq) (t3.lst i3) _ [] _ (by rw[cQ];simp only[dD];omega) (λd hd k hk=>?_) λp hp=>?_)))))
 .obtain⟨x,_,rfl⟩:=dv.mp hd;exact hk
 rw[dS,vO];have t:=pY.new (c:=.lst ((l.groups.map (·.1)).map D.str)) hp;refine i' (t.lst lo) (i' oS ⟨by rw[cQ,cQ,cQ];omega,λrn hrn=>⟨oG rfl,λr hr=>?_⟩⟩);have t2:=t.trans (.new (c:=.lst (l.pn.map D.str++(l.groups.map (·.1)).map D.str)) hrn);have t3':=t2.trans (.new (c:=.lst [D.ref ro,.ref rn]) hr);refine⟨_,.refl,q _ r ro rn (t3.trans t3') hro ((t3.trans t).none hrn) oS (t3'.lst lo) ((pY.new hr).lst ?_)⟩;rw[oS,<-dM];rfl
def GE:qJ:=λds M Q=>Ay λr (ss:List Str)=>ds=[.ref r]/\oA M r=some (ss.map D.str)/\ss.length<4000/\Q (.bl (uW ss)) M
def Jj(a:Ad):qJ:=λds M Q=>Fs λL k c l ro=>ds=[.ref (qQ.p k),.ref ro]/\rh a M L k c/\oA M ro=some (oW.pn l|>.map D.str)/\uR l false c/\c.at_.length<=100/\c.ms.length<=100/\Q (.bl true) M
def LC{ss:List Str}{x:Str}(h:x∉ss):inD (.str x) (ss.map D.str)=false:=by rw[qO];exact dB.mpr λz=>h (qk.mp z)
def D8{ss:List Str}{x:Str}(h:x∈ss):inD (.str x) (ss.map D.str)=true:=by rw[qO];exact qk.mpr h
def AN(G:Gl K mg a):Fq P w K mg base 1 a.af GE:=by
 refine fq G.af.toDG B6 (λr u=>⟨_,(oM (oR (pC u (C0 rfl v0 rfl G.g rfl G.bZ pQ Lc) (pB pU rfl G.g pQ (pO v0))))),?_⟩)
 rintro ds M Q ⟨r,ss,rfl,hb,hl,q⟩
 refine i' hb (i' (L3.yN ss) ⟨hl,i' hb ⟨M,.refl,?_⟩⟩);rw[show((ss.map D.str).length:Int)=ss.length by rw[cQ]];exact q
def JF(G:Gl K mg a):Fq P w K mg base 2 a.bv (Jj a):=by
 refine fq G.bv.toDG vm (λr u=>⟨_,(oJ (pq (W3.b3 (vG (um (tT (oY (AN G) r G.af (pO (oP v0))))) (vG (um (tT (oY (AN G) r G.af (pO (oP v0))))) (vv (oV u (oP v0) U1)))))
 (oM (oR uK))
 oX)
 (oJ (pq (W3.b3 (vG (um (tT (pB (AW rfl) rfl G.aN Bb (pO (qh rfl (xu (ix:=[none,some 1]) (N':=["_law_phone","_law_own"])) (qd (pE (oP v0) (oP v0))) (qe 0) rB (pC u v0 U1)))))) (vv (oV u (oP v0) (oP v0)))))
 (oM (oR uK))
 oX)
 (oJ (pq (oV u (oP v0) oO)
 (oJ (oZ 2 vm (pk (pF oO (pF oO (pF oO (pF oO (qP oO oO oO)))))))
 (oM (oR (qT (pC u (pE (oP v0) (oP v0)) (qr rO)) (qT (pC u (oP v0) qU) (qS (pC u (oP v0) U2)))))))
 oX)
 (oJ (pq (oV u (oP v0) qU)
 (oM (oR uK))
 oX)
 (oJ (pq (W3.b3 (vG (oV u (oP v0) oO) (vv (oV u (oP v0) oO))))
 (oJ (oZ 3 vm (CK (pC u (pB pU rfl G.g pQ (pO (oP v0))) oN) (qS (qT (pC u (oP v0) oO) (qS (pC u (pB pU rfl G.g pQ (pO (oP v0))) oN))))))
 (oM (oR (qT U3 (qT (pC u (oP v0) (qr rO)) (qS (pC u (oP v0) qU)))))))
 oX)
 (oJ (pq (oV u (oP v0) (qr rO))
 (oM (oR uK))
 oX)
 (oJ (pq (oV u (oP v0) oO)
 (oM (oR (qT (pC u (pB pU rfl G.g pQ (pO (oP v0))) oN) (qS (pC u (oP v0) (oP v0))))))
 oX)
 (oM (oR (qT (pC u (oP v0) oO) (qT (pC u (pB pU rfl G.g pQ (pO (oP v0))) (pk (rJ oN oN))) (qS (pC u (oP v0) qU))))))))))))),?_⟩)
 rintro ds M Q ⟨L,k,c,l,ro,rfl,⟨ad,md,h1,h2,h3,h4,_⟩,ho,ok,la,lm,q⟩
 have hz:=dI;refine oK h1 (i' rfl ⟨ad,c.at_,rfl,h3,by omega,?_⟩);rw[xy ok.an];refine xJ (oK h1 (i' rfl ⟨md,c.ms,rfl,h4,by omega,?_⟩));rw[xy ok.mn];refine xJ (oK h1 (i' rfl (i' rfl (i' ho ⟨rfl,pG _,?_⟩))));show if (!(inD (.str c.cr) (l.pn.map D.str)))=true then _ else _
 rw[D8 ok.cr];refine xJ ?_;refine oK h1 (i' rfl (oK h1 (i' rfl (i' h3 (i' h4 ⟨by rw[cQ,cQ];omega,λp hp=>i' oS ?_⟩)))));have t:=pY.new (c:=.lst (c.at_.map D.str++c.ms.map D.str)) hp;have lp:=@oS M p (c.at_.map D.str++c.ms.map D.str);generalize oU M p (.lst (c.at_.map D.str++c.ms.map D.str))=M1 at t lp ⊢;refine qy (f:=λ_=>D.bl true) lp _ [] _ (by rw[cU,cQ,cQ];simp only[dD];omega) (λd hd k hk=>?_) λp2 VH=>?_
 .have hx:∃x∈l.pn,d=.str x:=by
   rcases dR.mp hd with z|z
   .obtain⟨x,hx,rfl⟩:=dv.mp z;exact⟨x,ok.at_ x hx,rfl⟩
   .obtain⟨x,hx,rfl⟩:=dv.mp z;exact⟨x,ok.ms x hx,rfl⟩
  obtain⟨x,hx,rfl⟩:=hx;refine i' (t.lst ho) ⟨rfl,pG _,?_⟩;show k (.bl (inD (.str x) (l.pn.map D.str))) M1;rw[D8 hx];exact hk
 refine i' oS (i' (wm (λ_=>true) (c.at_.map D.str++c.ms.map D.str)) ?_);rw[show((c.at_.map D.str++c.ms.map D.str).map λ_=>true).all id=true by simp];have t:=t.trans (.new (c:=.lst ([]++(c.at_.map D.str++c.ms.map D.str).map λ_=>D.bl true)) VH);generalize oU M1 p2 (.lst ([]++(c.at_.map D.str++c.ms.map D.str).map λ_=>D.bl true))=M2 at t ⊢;replace h1:=t _ _ h1;replace h3:=t.lst h3;replace h4:=t.lst h4;clear lp VH hp;refine xJ (oK h1 (i' rfl (oK h1 (i' rfl (i' h3 ⟨rfl,pG _,?_⟩)))));show if inD (.str c.cr) (c.at_.map D.str)=true then _ else _
 rw[LC ok.ca];refine xJ ?_;have sh:=ok.sh;clear ok la lm h2;obtain⟨st,cr,way,at_,ms,hd,si,wd⟩:=c;dsimp only at h1 h3 h4 sh;have VB:∀M',pY M2 M'->∃Vz,pY Vz M'/\Q (.bl true) Vz:=λM' s=>⟨M,t.trans s,q⟩;rcases sh with⟨rfl,rfl,rfl,rfl,_,na⟩|⟨_,⟨rfl,rfl,rfl,rfl,e1⟩|⟨rfl,e2,rfl,rfl,rfl⟩|⟨x,rfl,e2,rfl,hx,rfl,rfl⟩|⟨rfl,rfl,rfl,rfl,u,hu,rfl⟩⟩
 .refine oK h1 (i' rfl ?_);refine oK h1 (i' rfl ?_);refine oK h1 (i' rfl ?_);refine oK h1 (i' rfl (i' h3 ?_));refine qg (c:=(((at_.map D.str).length:Nat):Int)==1) (λg=>?_) (λg=>?_)
  .refine oK h1 (i' rfl ⟨oG rfl,λp3 V8=>i' (ya ((pY.new V8).lst h4) oS) ?_⟩);exact oK ((pY.new V8) _ _ h1) (i' rfl (VB _ (.new V8)))
  .refine oK h1 (i' rfl ?_);refine oK h1 (i' rfl (i' h3 ?_));refine wU (c:=decide ((1:Int)<(((at_.map D.str).length:Nat):Int))) (dO ?_) ?_
   .have:0<at_.length:=eX.mpr (na rfl);rw[cQ]at g ⊢;have g:¬((at_.length:Int)=1):=λz=>g (by rw[z];rfl);omega
   refine oK h1 (i' rfl ⟨oG rfl,λp3 V8=>i' (ya ((pY.new V8).lst h4) oS) ?_⟩);exact oK ((pY.new V8) _ _ h1) (i' rfl (VB _ (.new V8)))
 .refine oK h1 (i' rfl ?_);refine oK h1 (i' rfl ?_);refine oK h1 (i' rfl (oK h1 (i' rfl ?_)));have hg:((((at_.map D.str).length:Nat):Int)==1)=true:=by rw[cQ,e1];rfl
  refine oK h1 (i' rfl (i' h3 (wU (c:=(((at_.map D.str).length:Nat):Int)==1) hg ?_)));refine oK h1 (i' rfl ⟨oG rfl,λp3 V8=>i' (ya ((pY.new V8).lst h4) oS) ?_⟩);exact oK ((pY.new V8) _ _ h1) (i' rfl (VB _ (.new V8)))
 .refine oK h1 (i' rfl ?_);refine oK h1 (i' rfl ?_);refine oK h1 (i' rfl (oK h1 (i' rfl ?_)));refine oK h1 (i' rfl ⟨oG rfl,λp3 V8=>i' (ya ((pY.new V8).lst h3) oS) ?_⟩);have t3:=pY.new (c:=.lst []) V8;have h1:=t3 _ _ h1;have h4:=t3.lst h4;refine oK h1 (i' rfl ?_);refine oK h1 (i' rfl (oK h1 (i' rfl (i' h4 ⟨oG rfl,i' rfl ⟨rfl,rfl,?_⟩⟩))));show if inD (.int (((ms.map D.str).length:Nat):Int)) [.int 2,.int 3]=true then _ else _
  rw[show inD (.int (((ms.map D.str).length:Nat):Int)) [.int 2,.int 3]=true by rcases e2 with z|z<;>(rw[cQ,z];rfl)];exact Dv (oK h1 (i' rfl (VB _ t3)))
 .refine oK h1 (i' rfl ?_);refine oK h1 (i' rfl ?_);refine oK h1 (i' rfl (oK h1 (i' rfl ?_)));refine oK h1 (i' rfl ⟨oG rfl,λp3 V8=>i' (ya ((pY.new V8).lst h3) oS) ?_⟩);have t3:=pY.new (c:=.lst []) V8;have h1:=t3 _ _ h1;have h4:=t3.lst h4;refine oK h1 (i' rfl ?_);refine oK h1 (i' rfl (i' h4 (wU (c:=(((ms.map D.str).length:Nat):Int)==2) (by rw[cQ,e2];rfl) ?_)));refine oK h1 (i' rfl (oK h1 (i' rfl (i' h4 ⟨rfl,pG _,?_⟩))));show ∃Vz,pY Vz _/\Q (.bl (inD (.str x) (ms.map D.str))) Vz;rw[D8 hx];exact VB _ t3
 .refine oK h1 (i' rfl ⟨oG rfl,?_⟩);refine oK h1 (i' rfl (oK h1 (i' rfl (i' h3 (i' h4 ⟨by show 0<=sizeLine;omega,λp3 V8=>⟨oG rfl,λp4 hp4=>i' (ya ((pY.new hp4).lst oS) oS) ?_⟩⟩)))));have t3:=(pY.new (c:=.lst ([]++[])) V8).trans (.new (c:=.lst []) hp4);have h1:=t3 _ _ h1;refine oK h1 (i' rfl ?_);refine oK h1 (i' rfl (i' rfl ⟨rfl,rfl,?_⟩));show ∃Vz,pY Vz _/\Q (.bl (inD (.str u) (HR.map D.str))) Vz;rw[D8 hu];exact VB _ t3
theorem Be{α:Type}(p:α->Bool):∀l:List α,(∀(i j:Nat) x y,l[i]?=some x->l[j]?=some y->p x=true->p y=true->i=j)->(l.filter p).length<=1
 | [],_=>eQ _
 | a::r,h=>by
  by_cases ha:p a=true
  .rw[gi ha];have:r.filter p=[]:=List.filter_eq_nil_iff.mpr λy hy hp=>by obtain⟨j,hj,ej⟩:=fM hy;have:=h 0 (j+1) a y rfl (by rw[jJ,cS hj,ej]) ha hp;omega
   rw[this];exact c9 _
  .rw[gj ha];exact Be p r λi j x y hx hy px py=>by have:=h (i+1) (j+1) x y hx hy px py;omega
theorem Iz{α:Type}(p q:α->Bool):∀l:List α,(∀x∈l,p x=true->q x=true->False)->(l.filter p).length+(l.filter q).length=(l.filter λx=>p x||q x).length
 | [],_=>rfl
 | a::r,h=>by have ih:=Iz p q r λx hx=>h x (dA _ hx);have ha:=h a dH;simp only[gq];cases hp:p a<;>cases hq:q a<;>simp only[hp,hq,jf,jD,iz,jc,jw,dW]at ha ⊢<;>first|omega|exact absurd trivial λ_=>ha trivial trivial
noncomputable def E1(p:oQ->Bool)(cs:List oQ):Int:=(cs.filter p).length
noncomputable def one(b:Bool):Int:=if b=true then 1 else 0
def yM(p:oQ->Bool)(cs:List oQ)(c:oQ):E1 p (cs++[c])=E1 p cs+one (p c):=by
 unfold E1 one;rw[im,cU];cases h:p c
 .rw[gj (by rw[h];decide)];rfl
 .rw[gi h];rfl
def MM(a:Ad):qJ:=λds M Q=>AD λA V l x=>ds=[.ref (sQ.b A),.str x,.int (ub l x)]/\Rd a M A V l/\WF l V/\x∈l.pn/\Q (.bl true) M
def Nc(G:Gl K mg a):Fq P w K mg base 1 a.bw (MM a):=by
 refine fq G.bw.toDG qK (λr u=>⟨_,(oJ (oZ 3 qK oN)
 (oJ (oZ 4 qK oN)
 (oJ (oZ 5 qK oN)
 (oJ (oZ 6 qK oN)
 (oJ (tM eU rfl (qd (oP v0)) (qI 7 qK)
 (oJ (pq (oV u U1 (oP v7))
 (oJ (oZ 5 qK (pE v5 oN))
 (oM (oZ 3 qK (pE U3 (pR G6 rfl G.bS Gv (pO (CK (pC u (oP v7) oO) (qS (pC u (oP v7) U1)))))))))
 oX)
 (oJ (pq (W3.b3 (wK (oV u (oP v7) (pk (rJ oO oO))) (vZ (oV u (oP v7) U1))))
 (oJ (oZ 5 qK (pE v5 oN))
 (oM (oZ 4 qK (pE v4 oN))))
 oX)
 (oM (pq (oV u U1 (oP v7))
 (oJ (oZ 5 qK (pE v5 (pR G6 rfl G.bS Gv (pO (pC u (oP v7) oO)))))
 (oM (oZ 6 qK (pE v6 (pR G6 rfl G.bS Gv (pO (pC u (oP v7) oO)))))))
 oX)))))
 (oM (oR (qT (pC u (pE U3 v4) oN) (qT (pC u v5 U2) (qS (pC u v6 oN))))))))))),?_⟩)
 .rintro ds M Q ⟨A,V,l,x,rfl,rd,wf,hx,q⟩
  refine oK rd.bd.at_ (i' rfl (i' rd.bd.ca ?_));refine uP (A.cs.map λk=>D.ref k.p) (λpre δ M'=>M=M'/\∃y,δ=[some (.ref A.b),some (.str x),some (.int (ub l x)),some (.int (E1 (·.mF x) (V.calls.take pre.length))),some (.int (E1 (·.mB x) (V.calls.take pre.length))),some (.int (E1 (·.hasB x) (V.calls.take pre.length))),some (.int (E1 (·.mx x) (V.calls.take pre.length))),y]) (λ_ _ M' j=>by rw[<-j.1];exact rd.bd.ca) _ [] _ _ rfl ⟨rfl,none,rfl⟩ ?_ ?_
  .rintro pre d post e δ _ ⟨rfl,y,rfl⟩ nx VI
   obtain⟨ka,c,e3,e2,rfl,hc,et⟩:=AC rd.bd e;have ok:=wf.ok _ c e2;rw[cU,dN,et,yM,yM,yM,yM]at VI;generalize E1 (·.mF x) (V.calls.take pre.length)=nb at VI ⊢;generalize E1 (·.mB x) (V.calls.take pre.length)=nt at VI ⊢;generalize E1 (·.hasB x) (V.calls.take pre.length)=nh at VI ⊢;generalize E1 (·.mx x) (V.calls.take pre.length)=nw at VI ⊢;have go:∀b t i w,b=nb+one (c.mF x)->t=nt+one (c.mB x)->i=nh+one (c.hasB x)->w=nw+one (c.mx x)->nx [some (.ref A.b),some (.str x),some (.int (ub l x)),some (.int b),some (.int t),some (.int i),some (.int w),some (.ref ka.p)] M:=by
    rintro _ _ _ _ rfl rfl rfl rfl
    exact VI _ _ ⟨rfl,_,rfl⟩
   clear VI;obtain⟨ad,md,h1,h2,h3,h4,_⟩:=hc;have ca:=ok.ca;have sh:=ok.sh;clear ok e2 et;obtain⟨st,cr,way,at_,ms,hd,si,wd⟩:=c;dsimp only at h1 h3 h4 sh ca;have VD:∀n:Int,n=n+one false:=λn=>by show n=n+0;omega
   rcases sh with⟨rfl,rfl,rfl,rfl,_,na⟩|⟨_,⟨rfl,rfl,rfl,rfl,e1⟩|⟨rfl,e2,rfl,rfl,rfl⟩|⟨y,rfl,e2,rfl,hy,rfl,rfl⟩|⟨rfl,rfl,rfl,rfl,u,hu,rfl⟩⟩
   .have ft:oQ.mB ⟨"rings",cr,way,at_,[],none,si,none⟩ x=(x==cr):=rfl;have fh:oQ.hasB ⟨"rings",cr,way,at_,[],none,si,none⟩ x=(x==cr||hasS at_ x):=rfl;refine oK h1 (i' rfl (i' h4 ⟨rfl,rfl,?_⟩));refine oK h1 (i' rfl ⟨oG rfl,i' rfl ⟨rfl,rfl,?_⟩⟩);refine oK h1 (i' rfl (qg (c:=cr==x) (λg=>?_) (λg=>?_)))
    .have g:cr=x:=eq_of_beq g;subst g;refine oK h1 (i' rfl (i' h3 ⟨rfl,pG _,?_⟩));show if inD (.str cr) (at_.map D.str)=true then _ else _
     rw[LC ca];refine xJ (go _ _ _ _ (VD _) ?_ ?_ (VD _))
     .rw[ft,eE];rfl
     .rw[fh,eE];rfl
    .have g:(x==cr)=false:=fL.mpr λz=>g (by rw[z];exact eE _);refine oK h1 (i' rfl (i' h3 ⟨rfl,pG _,?_⟩));show if inD (.str x) (at_.map D.str)=true then _ else _
     rw[show inD (.str x) (at_.map D.str)=hasS at_ x from qO ..];cases hm:hasS at_ x
     .refine xJ (go _ _ _ _ (VD _) ?_ ?_ (VD _))
      .rw[ft,g];exact VD _
      .rw[fh,g,hm];exact VD _
     .refine Dv (oK h1 (i' rfl (oK h1 (i' rfl (go _ _ _ _ (VD _) ?_ ?_ ?_)))))
      .rw[ft,g];exact VD _
      .rw[fh,g,hm];rfl
      .rfl
   .have ft:oQ.mB ⟨"waits",cr,way,at_,[],none,si,none⟩ x=(x==cr):=rfl;have fh:oQ.hasB ⟨"waits",cr,way,at_,[],none,si,none⟩ x=(x==cr):=rfl;have fw:oQ.mx ⟨"waits",cr,way,at_,[],none,si,none⟩ x=hasS at_ x:=rfl;refine oK h1 (i' rfl (i' h4 ⟨rfl,rfl,?_⟩));refine oK h1 (i' rfl ⟨oG rfl,i' rfl ⟨rfl,rfl,?_⟩⟩);refine oK h1 (i' rfl (qg (c:=cr==x) (λg=>?_) (λg=>?_)))
    .have g:cr=x:=eq_of_beq g;subst g;refine oK h1 (i' rfl (i' h3 ⟨rfl,pG _,?_⟩));show if inD (.str cr) (at_.map D.str)=true then _ else _
     rw[LC ca];have hm:hasS at_ cr=false:=dB.mpr λz=>ca (qk.mp z);refine xJ (go _ _ _ _ (VD _) ?_ ?_ ?_)
     .rw[ft,eE];rfl
     .rw[fh,eE];rfl
     .rw[fw,hm];exact VD _
    .have g:(x==cr)=false:=fL.mpr λz=>g (by rw[z];exact eE _);refine oK h1 (i' rfl (i' h3 ⟨rfl,pG _,?_⟩));show if inD (.str x) (at_.map D.str)=true then _ else _
     rw[show inD (.str x) (at_.map D.str)=hasS at_ x from qO ..];cases hm:hasS at_ x
     .refine xJ (go _ _ _ _ (VD _) ?_ ?_ ?_)
      .rw[ft,g];exact VD _
      .rw[fh,g];exact VD _
      .rw[fw,hm];exact VD _
     .refine Dv (oK h1 (i' rfl (oK h1 (i' rfl (go _ _ _ _ (VD _) ?_ ?_ ?_)))))
      .rw[ft,g];exact VD _
      .rw[fh,g];rfl
      .rw[fw,hm];rfl
   .have fb:oQ.mF ⟨"talks",cr,way,[],ms,none,si,none⟩ x=hasS ms x:=rfl;have fh:oQ.hasB ⟨"talks",cr,way,[],ms,none,si,none⟩ x=hasS ms x:=rfl;refine oK h1 (i' rfl (i' h4 ⟨rfl,pG _,?_⟩));show if inD (.str x) (ms.map D.str)=true then _ else _
    rw[show inD (.str x) (ms.map D.str)=hasS ms x from qO ..];cases hm:hasS ms x
    .refine xJ (oK h1 (i' rfl ⟨oG rfl,i' rfl ⟨rfl,rfl,?_⟩⟩));refine oK h1 (i' rfl (i' h3 ⟨rfl,rfl,go _ _ _ _ ?_ (VD _) ?_ (VD _)⟩))
     .rw[fb,hm];exact VD _
     .rw[fh,hm];exact VD _
    .refine Dv (oK h1 (i' rfl (oK h1 (i' rfl ⟨oG rfl,i' rfl ⟨rfl,rfl,?_⟩⟩))));refine oK h1 (i' rfl (i' h3 ⟨rfl,rfl,go _ _ _ _ ?_ (VD _) ?_ (VD _)⟩))
     .rw[fb,hm];rfl
     .rw[fh,hm];rfl
   .have fb:oQ.mF ⟨"held",cr,way,[],ms,some y,si,none⟩ x=(hasS ms x&&!(some y==some x)):=rfl;have fh:oQ.hasB ⟨"held",cr,way,[],ms,some y,si,none⟩ x=hasS ms x:=rfl;refine oK h1 (i' rfl (i' h4 ⟨rfl,pG _,?_⟩));show if inD (.str x) (ms.map D.str)=true then _ else _
    rw[show inD (.str x) (ms.map D.str)=hasS ms x from qO ..];cases hm:hasS ms x
    .refine xJ (oK h1 (i' rfl ⟨oG rfl,i' rfl ⟨rfl,rfl,?_⟩⟩));refine oK h1 (i' rfl (i' h3 ⟨rfl,rfl,go _ _ _ _ ?_ (VD _) ?_ (VD _)⟩))
     .rw[fb,hm];exact VD _
     .rw[fh,hm];exact VD _
    .refine Dv (oK h1 (i' rfl (oK h1 (i' rfl (oK h1 (i' rfl ⟨oG rfl,i' rfl ⟨rfl,rfl,?_⟩⟩))))));refine oK h1 (i' rfl (i' h3 ⟨rfl,rfl,go _ _ _ _ ?_ (VD _) ?_ (VD _)⟩))
     .rw[fb,hm];rfl
     .rw[fh,hm];rfl
   .refine oK h1 (i' rfl (i' h4 ⟨rfl,rfl,?_⟩));refine oK h1 (i' rfl ⟨oG rfl,i' rfl ⟨rfl,rfl,?_⟩⟩);exact oK h1 (i' rfl (i' h3 ⟨rfl,rfl,go _ _ _ _ (VD _) (VD _) (VD _) (VD _)⟩))
  .rintro δ _ ⟨rfl,y,rfl⟩
   rw[cQ,rd.bd.len,fE];have h1:E1 (·.mF x) V.calls+E1 (·.mB x) V.calls<2:=by
    have:=Iz (·.mF x) (·.mB x) V.calls λc hc hb ht=>by
     obtain⟨h,_⟩:=Bool.and_eq_true_iff.mp (show((c.st=="rings"||c.st=="waits")&&(x==c.cr))=true from ht);unfold oQ.mF oQ.mG at hb;rcases Bool.or_eq_true_iff.mp h with z|z
     .rw[eq_of_beq z]at hb;exact df hb
     .rw[eq_of_beq z]at hb;exact df hb
    have h2:=Be (λc=>c.mF x||c.mB x) V.calls λi j ci cj hi hj pi pj=>wf.un i j ci cj x hi hj (by simpa [zO]using pi) (by simpa [zO]using pj);unfold E1;omega
   have h2:E1 (·.hasB x) V.calls<=ub l x:=wf.ln x hx;have h3:E1 (·.mx x) V.calls<2:=by have:=Be (λc=>c.mx x) V.calls λi j ci cj hi hj pi pj=>wf.wt i j ci cj x hi hj pi pj;unfold E1;omega
   refine wU (dO h1) (wU (dO h2) ?_);show ∃Vz,pY Vz M/\Q (.bl (decide (E1 (·.mx x) V.calls<2))) Vz;rw[dO h3];exact⟨M,.refl,q⟩
seal L3.E3 L3.B3 L3.A3 L3.S3 L3.GH
def Lv:qJ:=λds M Q=>∃ns:List Int,ds=[.rl (ns.map D.int)]/\ns.length<=63/\Q (.bl true) M
def Js{l:oW}(ok:rg l){v:tz}(hv:v∈l.mo):l.mL v.1=some v:=by
 obtain⟨u,hu⟩:=vS (dv.mpr ⟨v,hv,rfl⟩:v.1∈l.pn);rw[hu];unfold oW.mL at hu;have u1:u.1=v.1:=by simpa using jQ hu
 obtain⟨i,hi,ei⟩:=fM (fN hu);obtain⟨j,hj,ej⟩:=fM hv;have:=Gk (f:=λp:tz=>p.1) (fQ.mp ok.nd).1 (by rw[cS hi,ei]) (by rw[cS hj,ej]) u1;subst this;rw[<-ei,<-ej]
def QE(G:Gl K mg a):Fq P w K mg base 17 a.ag Lv:=by
 refine fq G.ag.toDG vR (λr u=>⟨_,(oJ (oZ 1 vR (oY (QO G) r G.bs (rJ v0 oN)))
 (oJ (Hn (oY (Ja G) r G.bt (pO U1)) (MR (n:=2) rfl (pT (qI 2 vR) (pT (qI 3 vR) sD))))
 (oJ (tM eU rfl (qd (rN v0 (rW oN) (rW oN))) (qI 4 vR)
 (oJ (pf (oY (Nn G) r G.bu (rJ U1 (oY (LF G) r G.br (pF U1 (qP v4 U2 U3))))))
 (oJ (tM eU rfl (qd (oP U1)) (qI 5 vR)
 (oM (pq (um (tT (oY (JF G) r G.bv (rJ v5 U2))))
 (oM (oR uK))
 oX)))
 (oM (tM eU rfl (qd (oP (oP U1))) (uk (n:=3) rfl (pT (qI 6 vR) (pT (qI 7 vR) (pT (qI 8 vR) sD))))
 (oM (pq (um (tT (oY (Nc G) r G.bw (qP U1 v6 v7))))
 (oM (oR uK))
 oX)))))))
 (oM (oR uK))))),?_⟩)
 rintro ds M Q ⟨ns,rfl,hns,q⟩
 have hz:=dI;refine⟨ns,8,rfl,by decide,by decide,λM0 M1 A p h s0 cu wf ps=>?_⟩;have p2:2<=(uD ns 8).mo.length:=GV (by decide) (by decide);generalize uD ns 8=l at cu wf ps p2;generalize V0 p h l []=V at cu wf ps;have p8:=cu.ok.p8;have g3:=cu.ok.g3;have pl:l.pn.length=l.mo.length:=cQ ..;have nl:l.nm.length=l.mo.length+l.groups.length:=by unfold oW.nm oW.pn oW.gn;rw[cU,cQ,cQ]
 obtain⟨o0,or',eo⟩:∃o0 r,l.pn=o0::r:=fH λz=>by rw[z]at pl;simp only[dD]at pl;omega
 refine⟨A,V,l,rfl,cu.rd (by decide) wf,λM2 r ro rn s2 hro hrn lr lo ln=>i' lr ⟨rfl,?_⟩⟩;dsimp only[tN,zu,F8];have nro:=cu.bd.nz hro;have nrn:=cu.bd.nz hrn;refine λsl XU=>i' oS ?_;have t7:=pY.new (c:=.lst (L3.sT (ns.map D.int) (some 1) (some 64))) XU;have l7:=@oS M2 sl (L3.sT (ns.map D.int) (some 1) (some 64));have hL:(L3.sT (ns.map D.int) (some 1) (some 64)).length<=63:=by unfold L3.sT;rw[fD,fX,cQ];omega
 have hLi:∀d∈L3.sT (ns.map D.int) (some 1) (some 64),∃c,d=.int c:=λd hd=>by unfold L3.sT at hd;obtain⟨c,_,rfl⟩:=dv.mp (iL (iK hd));exact⟨c,rfl⟩
 generalize L3.sT (ns.map D.int) (some 1) (some 64)=L at t7 l7 hL hLi ⊢;have n7:sl∉A.foot:=(cu.sub s2).bd.nz XU;have lo:=t7.lst lo;have ln:=t7.lst ln;have s7:=s2.trans t7;generalize oU M2 sl (.lst L)=M3 at l7 lo ln s7 ⊢;have i9:=Lp.mk0 (cu.sub s7) wf ps;have l7:=DF l7 n7;have lo:=DF lo nro;have ln:=DF ln nrn;generalize L1 A M3=N at i9 l7 lo ln;have eb:A.b=A.b:=rfl;generalize hb:A.b=b at i9 ⊢;refine uP L (λpre δ M'=>(∃A V,Lp a M0 N M' b A V l pre.length)/\∃y4 y5 y6 y7 y8,δ=[some (.rl (ns.map D.int)),some (.ref b),some (.ref ro),some (.ref rn),y4,y5,y6,y7,y8]) (λ_ _ M' j=>by obtain⟨A,V,g⟩:=j.1;exact g.s.lst l7) _ [] _ _ rfl ⟨⟨A,V,i9⟩,none,none,none,none,none,rfl⟩ ?_ ?_
 .clear i9 n7 s7 t7 XU eb cu wf ps hb lr nro nrn hro hrn
  rintro pre d post e δ M' ⟨⟨A,V,g⟩,y4,y5,y6,y7,y8,rfl⟩ nx2 VI
  have hx:L[pre.length]?=some d:=by rw[<-e];simp
  have pl5:pre.length<63:=dF (cT.mp hx).1 hL;obtain⟨c0,rfl⟩:=hLi d (qC hx);rw[cU,dN]at VI;dsimp only[tN,zu,F8];refine RP (t:=Pi _) (λδ M2=>(∃A V,Lp a M0 N M2 b A V l (pre.length+1))/\δ=[some (.rl (ns.map D.int)),some (.ref b),some (.ref ro),some (.ref rn),some (.int c0),y5,y6,y7,y8]) (λnx h=>?_) ?_
  .have eb:=g.cu.b;subst eb;refine⟨A,V,l,_,ro,rn,l.pn,l.nm,rfl,g.rd (by omega),g.wf,λk hk=>(g.cu.sz.cs k hk).2.1,g.s.lst lo,g.s.lst ln,λz=>by rw[z]at pl;simp only[dD]at pl;omega,λz=>by rw[z]at nl;simp only[dD]at nl;omega,by omega,by omega,λM2 e s f=>?_⟩;have g:=g.sub s;exact⟨M0,A.b,A,V,l,_,_,e,rfl,g.cu,by omega,by omega,g.wf,f,λhr M3 A3 r c3 Wp XD=>h _ _ ⟨⟨A3,_,(g.after (by omega) f hr c3 Wp).sub (.new XD)⟩,rfl⟩,λ_ _=>h _ _ ⟨⟨A,V,g.mS⟩,rfl⟩⟩
  clear g
  rintro δ M2 ⟨⟨A2,V2,g⟩,rfl⟩
  have eb:=g.cu.b;subst eb;have rd:=g.rd (m:=pre.length+1) (by omega);refine RP (t:=SD _ _ _) (λδ M'=>M2=M'/\∃y5,δ=[some (.rl (ns.map D.int)),some (.ref A2.b),some (.ref ro),some (.ref rn),some (.int c0),y5,y6,y7,y8]) (λnx h=>?_) ?_
  .refine oK rd.bd.at_ (i' rfl (i' rd.bd.ca ?_));refine uP (A2.cs.map λk=>D.ref k.p) (λ_ δ M'=>M2=M'/\∃y5,δ=[some (.rl (ns.map D.int)),some (.ref A2.b),some (.ref ro),some (.ref rn),some (.int c0),y5,y6,y7,y8]) (λ_ _ M' j=>by rw[<-j.1];exact rd.bd.ca) _ [] _ _ rfl ⟨rfl,_,rfl⟩ ?_ (λδ M' j=>h δ M' j)
   rintro pre d post e δ _ ⟨rfl,y5,rfl⟩ TH YO
   obtain⟨ka,c,e3,e2,rfl,hc,et⟩:=AC rd.bd e;have sz:=g.cu.sz.cs c (qC e2);exact⟨_,ka,c,l,ro,rfl,hc,g.s.lst lo,g.wf.ok _ c e2,sz.2.1,sz.2.2,xJ (YO _ _ ⟨rfl,_,rfl⟩)⟩
  rintro δ _ ⟨rfl,y5,rfl⟩
  obtain⟨ph,gr,ws,W0,pr,gd,rs,i1,i2,i3,_⟩:=rd.pl;refine oK rd.bd.at_ (i' rfl (oK i1 (i' rfl (i' i2 ?_))));refine uP (l.mo.map qv) (λ_ δ M'=>M2=M'/\∃y6 y7 y8,δ=[some (.rl (ns.map D.int)),some (.ref A2.b),some (.ref ro),some (.ref rn),some (.int c0),y5,y6,y7,y8]) (λ_ _ M' j=>by rw[<-j.1];exact i2) _ [] _ _ rfl ⟨rfl,_,_,_,rfl⟩ ?_ ?_
  .rintro pre d post e δ _ ⟨rfl,y6,y7,y8,rfl⟩ TH YO
   have hd:d∈l.mo.map qv:=by rw[<-e];simp
   obtain⟨v,hv,rfl⟩:=dv.mp hd;refine⟨rfl,A2,V2,l,v.1,?_,rd,g.wf,dv.mpr ⟨v,hv,rfl⟩,xJ (YO _ _ ⟨rfl,_,_,_,rfl⟩)⟩;rw[Fl (Js rd.ok hv)]
  .rintro δ _ ⟨rfl,y6,y7,y8,rfl⟩
   exact VI _ _ ⟨⟨A2,V2,g⟩,_,_,_,_,_,rfl⟩
 .rintro δ M' ⟨⟨A2,V2,g⟩,y4,y5,y6,y7,y8,rfl⟩
  exact⟨M,s0.trans g.cu.s0,q⟩
end Z
structure PySem.W.Fast:Prop where(tw9533303877636402063 tw9405327154123090566 tw8922436400882979310 tw869200014442088825 tw8581407160404819176 tw7456958173932603932 tw6246778391728783630 tw5878770107346752330 tw5461161138762667994 tw5428929000670905146 tw423834912832272347 tw3702067784196588837 tw3362222657002393471 tw2206057087842110493 tw18085826794453642165 tw18024396180193543137 tw17644821668737066253 tw16888914060654381498 tw16521818948440354957 tw15653902990256555467 tw15353137708164723772 tw14869564018281925173 tw14846999726142156928 tw14296484198676744067 tw13894181467347610319 tw13036714373045894736 tw10950536217531750779 tw10671173606956950766 tw10624674980028690480 tw6546973834615657216 tw6385062723318294544 tw5883895127295768755 tw5146947286122039328 tw16672529877430708024 tw13399577116899355557 tw5179368206201460310 tw12560711222646445707 tw2725405017821927703 tw17094792998833679107 tw4881353498596647276 tw7898171827853770037 tw12094366474465531668 tw9952810708561224842 tw12745557388980811284 tw15863165020017601685 tw7315957523763678667 tw13945170363657278377 tw4463434425262183783 tw9559480900154866772 tw12265525540997349584 tw6377727338262893424 tw4026495273754238630 tw17279254298744422808 tw11906084872063358247 tw155717945010352507 tw15675270067448874082 tw4640358088093974794 tw8874836132847166939 tw15228231089364320240 tw50248671943226132 tw15500825456680471043 tw2168879582726809459 tw13095178828671343034 tw16469679671750384515 tw17694215931685114387 tw18089391390545014740 tw713244367087450842 tw11684437789549808431 tw13485707374828850455 tw11261174403376566470 tw5679770117257146566 tw2168768561462220336 tw5881177879544824952 tw13828274616630183286 tw15044355529876561637 tw3529774227992697732 tw1863742719824784535 tw10360104016239310666 tw1281937171540797470 tw2532228256825638557 tw13846617587194739917 tw13062173099725365762 tw2615513672390489245 tw14478238179199806813 tw3070799305195821141 tw12382499371742338529 tw16723451660675536582 tw1746669508660591391 tw39225320046909896 tw15311974405355741851 tw11094363758358720784 tw12100695474458371435 tw6478583308558285692 tw11557716626591287556 tw14434890362001440890 tw4408140480641627708 tw7112788160902196205 tw18180315675321782868 tw2572877436094823734 tw16982055813811356347 tw12622273765712801541 tw4789648090767814135 tw17413890470335076792 tw3222772984067183326 tw13286616592529045286 tw2095904290615617130 tw9251356042839240825 tw8548059355634329608 tw3776426173258594214 tw2766847537562431956 tw1940496179560913999 tw7880306954609753871 tw13220523134234349755 tw4936793340357066975 tw3057787318429524199 tw8277262495733742178 tw10267979640355912860 tw2598897434899479884 tw14122837849685433655 tw17259222471430580091 tw15901379311817754587 tw10053766981180000061 tw2830539830268983220 tw912839241883997075 tw12769792007220570083 tw793556234917595824 tw6166449489368423217 tw2365082382934763982 tw6378536615665744994 tw8423243394742478029 tw14091854289751596316 tw18321371525011846982 tw4531053533469316056 tw1517027331217092283 tw15106115839214577113 tw9606486406111691175 tw8058224115268259904 tw18424856222111769942 tw2487362888566818902 tw11367538914845641320 tw2144261037030018681 tw1938267187293441051 tw18272583340968936832 tw298588387133959664 tw7198774826860130800 tw15979026182945580165 tw5059297040036046277 tw673048975895518847 tw12269119245092830514 tw4290474538083947300 tw1084955560644673363 tw15729202978304921611 tw13949498248661237134 tw9850880698007430071 tw9592747391453589307 tw8705474251730593992 tw14927366351571395994 tw13813643501941812711 tw8612549623538960899 tw12231446960504587448 tw7350298186289297917 tw6001089438916761563 tw5776832220767530256 tw10493502739639176872 tw15404752903619378026 tw3060144463873568057 tw3154291888989146194 tw6255028241928618982 tw218662542886602272 tw14255342736875989078 tw2021523559174372912 tw6797288304952466130 tw5986692895270530683 tw10853223035875639486 tw12754892420935306150 tw10748340950556490198 tw2933484454926712493 tw15031233409868888563 tw1673448643866133510 tw1391310281356982698 tw11245729303359389072 tw9701737016570349207 tw13900999481568415321 tw8808062622349017755 tw2077055946277354915 tw11430294360398619747 tw6792166650290817551 tw17439535364682576379 tw9573203167797796503 tw8375227323911467842 tw1258314939395155661 tw17530998727444113537 tw9419501683133044256 tw9882545771496007925 tw824622591644181117 tw13904494342981887969 tw8218259991899280661 tw9887128633680227725 tw8230645557014211847 tw10657723833718834178 tw8298968532400200521 tw7119165754052420692 tw4741728060281265213 tw15347709899590706295 tw7144116123441356734 tw18051034493746181020 tw18252613259212470995 tw3953039130286525794 tw1109766286185221160 tw1421345226443964069 tw16897912761658911239 tw12722094132311930126 tw7416423695750342829 tw12662755825591108178 tw12903446163434442913 tw3954646314507216063 tw2825167092039867239 tw11751143857753906577 tw11414668115671371148 tw10038264369172920709 tw11335889364402095316 tw11749635049354199294 tw11106298757836002513 tw9708912647686762264 tw7634990649907871929 tw18176575700864732234 tw8778703995528236055 tw17063928754873785217 tw2447212436860807405 tw15457234496745665693 tw6556961287360456721 tw4974829483812776102 tw11617818905640362192 tw14365488868279426256 tw2302580741421637791 tw14416252723622742656 tw11080460825352444802 tw1773487780068469349 tw2214777932367546959 tw3983360014060901113 tw8889796952512091551 tw17066645869099167977 tw10930511449860460859 tw1342846951759810387 tw10017345684882002994 tw3338058745138112397 tw4199670311555471183 tw11632706494622148389 tw13299348648851677803 tw1036508917748953960 tw6077759904542352642 tw14683129516619926167 tw15610271894483888817 tw1712447963687902417 tw1445144248875522046 tw10631470029378675232 tw7684990303545739117 tw6544442341708844786 tw14396639198725262286 tw4756724223425328484 tw10003383629919755450 tw10351066253376423066 tw17510688809256133746 tw2817499237056571102 tw6060776633274574768 tw4837424782307728683 tw9208690239671616529 tw3183630356763338443 tw1875954814062883466 tw3998217954257752692 tw12312427898989591467 tw3932728389393115844 tw12845218117042396730 tw12621171768753669739 tw13522768106378661022 tw17187753800369231380 tw16708218722823550552 tw15406066082704991775 tw9018367526087369318 tw17942601057410028145 tw3957615939561523972 tw6606500861520818868 tw2042199130790208852 tw16933421988742374348 tw1891104212497620251 tw9209990521860394026 tw2516775883569546608 tw13212011610867266757 tw642686949795059790 tw8629742127505805989 tw3395070510630205151 tw16660622634236445029 tw11642050278893563461 tw6144847109804437539 tw2880827464387495573 tw18004543526262067659 tw11483022555726814660 tw17889923061581831303 tw7757214518667205024 tw16992761111243744642 tw2467624603765362011 tw81366679257793286 tw15107377722144336276 tw14658919486202002533 tw12638091054125972048 tw16792993583936065594 tw4955141813967681351 tw9540900205728270370 tw3434597287374615651 tw2480988287876498288 tw14682692039242833964 tw9676046450058819603 tw13574553897781598595 tw17470936582906355963 tw2437786239859345682 tw14764384656273288632 tw4708672877431796377 tw4707550117180368538 tw13552544525357371546 tw2067061157805832973 tw9915621462904826662 tw12829575312887245042 tw13268898677821312662 tw10793419784016991934 tw3964712263254739344 tw311452699245019022 tw6724122415141316960 tw18320482763618768205 tw444152199086373431 tw15093234864442339887 tw6663566305197499947 tw13462332136699908132 tw17523057183212317356 tw6071200294729320441 tw10992135726713923345 tw6252472854423829117 tw2085233856138448839 tw2525936280396881766 tw4588658938685891684 tw16115749044370156109 tw12897882923715676873 tw17168281323661682175 tw11147892018764951086 tw8939878052839535292 tw13235576715269201307 tw909171792654490707 tw14351627179565580215 tw2893589312148590220 tw17757176914745986692 tw6909452781577419729 tw14851311055328099989 tw8032776830616333801 tw569568222716554633 tw11181035928110650756 tw11062676901345849251 tw16286863137638299433 tw12819558749924075114 tw18107458779783251388 tw14692375341074535976 tw9304596794675879939 tw5421869904317320566 tw3376976605392168708 tw873692356875507942 tw12214103908255274434 tw14357433460495731163 tw1636454261180421141 tw10782750378426926712 tw17185857468076356367 tw17058717440948106553 tw3897806755367116678 tw3696928560636440185 tw13892775134053029662 tw13763727535029374068 tw3496700636856422853 tw3480791742760785635 tw1537835192771282692 tw11952967556115919458 tw3020731851723286029 tw7500820513427049223 tw7963856601226654931 tw3096644840463526849 tw13053121568158554506 tw4940602694646496725 tw15448831892704675620 tw10123956972819249566 tw15613008747673201748 tw13035080056323762537 tw2235098203171219349 tw1842091811934500069 tw17666740275772094310 tw14334592145214249234 tw10411632635862438442 tw15245458781136983101 tw5269766685801712092 tw2963720379273772980 tw1325673267968013922 tw4561310116045364076 tw6417105608135416648 tw6238786901281586511 tw16218530686947735618 tw15563674994148804550 tw12731338585546995484 tw15485674471074624161 tw11659470720497324280 tw8554818239621824183 tw6865725543829022373 tw638062265975043853 tw2798891709433894046 tw16907107652337927940 tw13249487413830461296 tw11739087880596400099 tw7850661732640112702 tw16785829792724373017 tw15316547146726478302 tw8154374207917685721 tw14432651416698918552 tw13743465047815026109 tw11114800094323712751 tw10346917154788930834 tw17260326610565139963 tw698294239665185713 tw14535025959834450909 tw12419118690717906285 tw9962047204496176763 tw3071158054922797133 tw17230284594773325644 tw7097509633761943680 tw2548163894770196423 tw6224254547928151554 tw12754613517733805566 tw12077556722494128583 tw16874513379132577041 tw4472028841979822282 tw16161571080719606905 tw14672726061864942147 tw12962339650417503877 tw17572101290025241658 tw16411033697638503364 tw13122430007854464555 tw11528069838075748903 tw9392681185435678707 tw9808285854332931374 tw7618003032576724609 tw2488787781037958550 tw15759213714543775616 tw9309679282524015242 tw2501396316406634904 tw1569802616599574500 tw745940307930825202 tw6836117764016404641 tw14939776914906830164 tw12699258263977955850 tw1088386962273437475 tw10273225361367610022 tw16460947453684482820 tw6913940829634976906 tw3088108488994327401 tw12232065218102064999 tw5510913470715467142 tw14386719412202083225 tw14326692624536949205 tw13757367895149179211 tw17954340331945331364 tw12065518939640010805 tw8110415470319216886 tw14205431989951904031 tw12527682697774441127 tw8625604187082592268 tw6320840006826085238 tw3607517791179143129 tw18367441008658773957 tw14377749805643035348 tw10940622861222121349 tw9697355817651157615 tw520522037131159289 tw748966055845935959 tw1350931143287588738 tw1110031178688126958 tw16404382140382077097 tw11975186909882428064 tw16670917281936934442 tw12222914509292644154 tw3455192801151783424 tw1892681098255599885 tw17007135380792693415 tw1532392486313766885 tw8506090109189360365 tw7270859878937574625 tw5412869353360520570 tw3940636310933463158 tw2862484339651973821 tw1585724131587820744 tw14690788706397797356 tw12476043946348472938 tw1175520139084525856 tw4883744726967013411 tw12405778909944302738 tw8201199038180734414 tw18040984524413923810 tw8790804824991247779 tw5385847548825537743 tw6583836244583681055 tw13799384333598531994 tw8550034695989818802 tw17163415110903671435 tw16373587094838813606 tw461066354007122034 tw458916704912445555 tw14331747203017909581 tw16357830768142313351 tw47420907793878398 tw16377542276559712224 tw13452113543060604738 tw2609320688869796743 tw12937368978985638043 tw11041261857475774900 tw14720101683095125819 tw13576854403755480846 tw12849901098234050344 tw12744444302503572829 tw8258437725430401521 tw2232051126644832279 tw17888639372383775150 tw14533366164231968285 tw15078191560268188756 tw14646141340519519175 tw2264236810332680623 tw15281428845656450344 tw933281393510017478 tw4735918783030414859 tw10933883120986127260 tw10638758118646201066 tw6172667217059244661 tw3024439014403755531 tw9207912674183848401 tw7511315521168423698 tw7396796746121742705 tw5300865957693415015 tw5498158490549291037 tw1911697815542676526 tw5120608294438449395 tw16141501984626550319 tw14664262911585329624 tw10263722295131222206 tw13270528642769740528 tw7014122779130507524 tw10115679917535803731 tw1364103394217384723 tw1376975370748267973 tw266120445142039491 tw4328468055997560454 tw2935046805645002531 tw5626633887309751555 tw834321587704067470 tw11329347924008359655 tw920066981465296480 tw8121028670019861978 tw5209048799624977739 tw4272545794502479234 tw17032621816386147098 tw13177243942754821708 tw7155810354008237553 tw9859039232306454494 tw7724879265349583398 tw5964452987110438760 tw5870472672927639691 tw2951117881487581711 tw2722294006797051199 tw2693203967184254757 tw1718918095953246974 tw125559251654663072 tw11315059643409728341 tw11138602503725089629 tw10760315016360008984 tw7161205440473661719 tw4104047290956295365 tw12793350220751492364 tw11363459369237820079 tw814824176786602439 tw1930285299832809554 tw17618394678108529405 tw16513184706134250021 tw12002148834544072290 tw8077001933212962670 tw8020850175431740574 tw7817080175033621175 tw6252645991887653539 tw5218927209086263752 tw4554922441621611536 tw3837325109728991538 tw16314459464911576470 tw15263792918570707247 tw13341947041083230207 tw9074092442549431571 tw5942516331810878582 tw13010332916966339340 tw1073565567912037295 tw8818815914359135504 tw6740180231252005379 tw4828236788891389076 tw12128374099194466645 tw10851534418286677219 tw9475798289847712704 tw8747500632073579967 tw8364480509673881377 tw702730859121376481 tw4933566837726373599 tw2261584556637555571 tw17553144215416371909 tw17347922986924854620 tw15166754038430526110 tw13751065145872797359 tw13165247286850653410 tw12988886439492070917 tw10454600378193334261 tw9826789732540444769 tw8375830276377502924 tw12032239514464742986 tw5839088124502062525 tw270539552360476010 tw15066667880455499216 tw14162468290951343583 tw6037870501697938665 tw10415558961030838520 tw2875983239850263632 tw18357161702044378695 tw1021038566380807114 tw6155482224218295633:True)
open PySem PySem.W PyProof.Rows L2 L3
def xZqN:Option Obj->Option Obj
|some ⟨_,_,.freed,_⟩=>none
|o=>o
def xZqP (h:Heap):List Nat->Nat->List Obj->List (Option Obj)
|[],_,_=>[]
|a::l,i,r=>bif i.ble a then xZqN (r.drop (a-i)).head?::xZqP h l a (r.drop (a-i)) else h.get? a::xZqP h l i r
theorem xZqQ (h:Heap):∀l i r,r=h.objs.toList.drop i->xZqP h l i r=l.map h.get?
|[],_,_,_=>rfl
|a::l,i,r,e=>by
 unfold xZqP;cases z:i.ble a with
 |false=>exact congrArg (h.get? a::·) (xZqQ h l i r e)
 |true=>
  have d:r.drop (a-i)=h.objs.toList.drop a:=by have:=Nat.le_of_ble_eq_true z;rw [e,List.drop_drop];congr 1;omega
  show xZqN (r.drop (a-i)).head?::xZqP h l a (r.drop (a-i))=_;rw [xZqQ h l a _ d,d,List.head?_drop,Array.getElem?_toList];rfl
def xZqH (K:Params->Frag) (as:List Addr) (e:∀P,as=(K P).map (·.1)) (_:Unit):Hook:=⟨_,λs=>xZqP s.heap as 0 s.heap.objs.toList,λw=>(K w.params).map λp=>some p.2,InK K,λw s x=>InK.of e w s ((xZqQ s.heap as 0 s.heap.objs.toList rfl).symm.trans x),InK.keeps⟩
local macro_rules|`(tactic|o_head ($f $k $a $e))=>`(tactic|o_head (xZqH $k $a $e ()))
set_option maxRecDepth 100000 in
set_option maxHeartbeats 0 in
theorem PySem.Challenge.cw_callboard_k26_whole_nobody_is_twice_holds : PySem.Challenge.rw_callboard_k26_whole_nobody_is_twice.Holds := by
 w_on;o_law;k_head;(case hw=>w_witness2)
 k_fill
 refine L3.Kq (l:=PySem.Challenge.rw_callboard_k26_whole_nobody_is_twice) (sp:=Z.Lv) (k:=17) (x:="_law_script") rfl rfl ⟨rfl,by decide,by decide⟩ (λ_ _ Y=>Y) (λns hl=>⟨ns,rfl,hl,rfl⟩) ?F;case F=>
  intro w mg fa h KX G hmg;suffices h:∃a:Z.Ad,Z.Gl _ mg a/\∀(s:Shared) (u:Value),BindsTo s a.ag.d ⟨[u],[]⟩ [("_law_script",u)]by obtain⟨a,g,hb⟩:=h;have e:=hmg.symm.trans g.ag.mg;cases e;exact⟨a.ag.d,hb,λbase _ _=>g.ag.pe ▸ Z.QE g⟩
  refine'⟨⟨_,_,_,_,_,_,_,_,_,_,_,_,_,_,_,_,_,_,_,_,_,_,_,_,_,_,_,_,_,_,_,_,_,_,_,_,_,_,_,_,_,_,_,_,_,_,_,_,_,_,_,_,_,_,_,_,_,_,_,_,_,_,_,_,_,_,_,_,_,_,_,_,_,_,_,_,_,_,_,_,_,_,_,_,_,_,_,_,_,_,_,_,_,_,_,_,_,_,_,_,_,_,_,_,_,_,_,_,_,_,_,_,_,_,_,_,_,_,_,_,_,_,_,_,_,_,_,_,_,_,_⟩,⟨vB KX G ..,vB KX G ..,vB KX G ..,vB KX G ..,vB KX G ..,vB KX G ..,vB KX G ..,vB KX G ..,vB KX G ..,vB KX G ..,vB KX G ..,vB KX G ..,vB KX G ..,PySem.W.mg_of KX G ?_,PySem.W.mg_of KX G ?_,pV KX G ..,pV KX G ..,pV KX G ..,pV KX G ..,pV KX G ..,pV KX G ..,pV KX G ..,pV KX G ..,pV KX G ..,pV KX G ..,pV KX G ..,pV KX G ..,pV KX G ..,pV KX G ..,pV KX G ..,pV KX G ..,pV KX G ..,pV KX G ..,pV KX G ..,pV KX G ..,pV KX G ..,pV KX G ..,pV KX G ..,pV KX G ..,pV KX G ..,pV KX G ..,pV KX G ..,pV KX G ..,pV KX G ..,pV KX G ..,pV KX G ..,pV KX G ..,pV KX G ..,pV KX G ..,pV KX G ..,pV KX G ..,pV KX G ..,pV KX G ..,pV KX G ..,pV KX G ..,pV KX G ..,pV KX G ..,pV KX G ..,pV KX G ..,pV KX G ..,pV KX G ..,pV KX G ..,pV KX G ..,pV KX G ..,pV KX G ..,pV KX G ..,pV KX G ..,pV KX G ..,pV KX G ..,pV KX G ..,pV KX G ..,pV KX G ..,pV KX G ..,pV KX G ..,pV KX G ..,pJ ..,pJ ..,pJ ..,pJ ..,pJ ..,pJ ..,pJ ..,pJ ..,pJ ..,pJ ..,pJ ..,pJ ..,pJ ..,pJ ..,pJ ..,pJ ..,pJ ..,pJ ..,pJ ..,pJ ..,pJ ..,pJ ..,pJ ..,pJ ..,pJ ..,pJ ..,pJ ..,pJ ..,pJ ..,pJ ..,pJ ..,pJ ..,pJ ..,pJ ..,pJ ..,pJ ..,pJ ..,pJ ..,pJ ..,pJ ..,pJ ..,pJ ..,pJ ..,pJ ..,pJ ..,pJ ..,pJ ..,pJ ..,pJ ..,pJ ..,pJ ..,pJ ..,pJ ..,pJ ..,pJ ..,pJ ..,KQ ?_ ?_ ?_ ?_ ?_ ?_ ?_ ?_ ?_ ?_,IX ?_ ?_ ?_,⟨Tb ?_ ?_ ?_ ?_ ?_ ?_ ?_ ?_,?_,?_⟩,OW ?_ ?_ ?_ ?_,⟨?_,?_,?_,?_⟩,⟨?_,?_,?_,?_⟩,⟨?_,?_,?_,?_⟩,⟨?_,?_,?_,?_⟩,⟨?_,?_,?_,?_⟩,⟨?_,?_,?_,?_⟩,⟨?_,?_,?_,?_⟩,⟨?_,?_,?_,?_⟩,⟨?_,?_,?_,?_⟩,⟨?_,?_,?_,?_⟩,⟨?_,?_,?_,?_⟩,⟨?_,?_,?_⟩,⟨?_,?_,?_⟩,⟨?_,?_,?_⟩,⟨?_,?_,?_⟩,⟨?_,?_,?_⟩,⟨?_,?_,?_⟩,⟨?_,?_,?_⟩,⟨?_,?_,?_⟩,⟨?_,?_,?_⟩,⟨?_,?_,?_⟩,⟨?_,?_,?_⟩,⟨?_,?_,?_⟩,⟨?_,?_,?_⟩,⟨?_,?_,?_⟩,⟨?_,?_,?_⟩,⟨?_,?_,?_⟩,⟨?_,?_,?_⟩,⟨?_,?_,?_⟩,⟨?_,?_,?_⟩,⟨?_,?_,?_⟩,⟨?_,?_,?_⟩,(pz ?_ (pz ?_ (pz ?_ (pz ?_ (pz ?_ (pz ?_ (pz ?_ (pz ?_ sr)))))))),(pz ?_ (pz ?_ (pz ?_ (pz ?_ (pz ?_ (pz ?_ sr)))))),(pz ?_ (pz ?_ (pz ?_ sr))),(pz ?_ (pz ?_ (pz ?_ sr))),(pz ?_ (pz ?_ (pz ?_ sr))),(pz ?_ (pz ?_ (pz ?_ (pz ?_ (pz ?_ sr))))),(pz ?_ (pz ?_ (pz ?_ sr))),(pz ?_ (pz ?_ (pz ?_ (pz ?_ sr)))),(pz ?_ (pz ?_ sr)),(pz ?_ (pz ?_ sr)),(pz ?_ (pz ?_ (pz ?_ (pz ?_ (pz ?_ (pz ?_ (pz ?_ (pz ?_ sr)))))))),PySem.W.mg_none_of KX G ?_,PySem.W.mg_none_of KX G ?_,PySem.W.mg_none_of KX G ?_,PySem.W.mg_none_of KX G ?_,PySem.W.mg_none_of KX G ?_,PySem.W.mg_none_of KX G ?_,PySem.W.mg_none_of KX G ?_,PySem.W.mg_none_of KX G ?_,PySem.W.mg_none_of KX G ?_,PySem.W.mg_none_of KX G ?_,PySem.W.mg_none_of KX G ?_,PySem.W.mg_none_of KX G ?_,vp (PySem.W.mg_of KX G ?_),vp (PySem.W.mg_of KX G ?_),vp (PySem.W.mg_of KX G ?_),vp (PySem.W.mg_of KX G ?_),Oi (PySem.W.mg_of KX G ?_) (tO (ss:=["all","turns"]) ?_ (.cons ⟨_,rfl⟩ (.cons ⟨_,rfl⟩ .nil)) (Nat.le_of_ble_eq_true rfl)),vp (PySem.W.mg_of KX G ?_),vp (PySem.W.mg_of KX G ?_),vp (PySem.W.mg_of KX G ?_),P7 (PySem.W.mg_of KX G ?_),O7 (es:=[⟨_,.str "bar" _,.ref _⟩,⟨_,.str "shut" _,.ref _⟩,⟨_,.str "always" _,.ref _⟩,⟨_,.str "night" _,.ref _⟩,⟨_,.str "busy" _,.ref _⟩,⟨_,.str "silent" _,.ref _⟩,⟨_,.str "wait" _,.ref _⟩,⟨_,.str "breaks" _,.ref _⟩]) (PySem.W.mg_of KX G ?_) ?_ ?_ (.cons rfl ⟨_,rfl,(tO (ss:=["phone","names"]) ?_ (.cons ⟨_,rfl⟩ (.cons ⟨_,rfl⟩ .nil)) (Nat.le_of_ble_eq_true rfl))⟩ (.cons rfl ⟨_,rfl,(tO (ss:=["name","phones"]) ?_ (.cons ⟨_,rfl⟩ (.cons ⟨_,rfl⟩ .nil)) (Nat.le_of_ble_eq_true rfl))⟩ (.cons rfl ⟨_,rfl,(tO (ss:=["name","name"]) ?_ (.cons ⟨_,rfl⟩ (.cons ⟨_,rfl⟩ .nil)) (Nat.le_of_ble_eq_true rfl))⟩ (.cons rfl ⟨_,rfl,(tO (ss:=["name","name","hour","hour"]) ?_ (.cons ⟨_,rfl⟩ (.cons ⟨_,rfl⟩ (.cons ⟨_,rfl⟩ (.cons ⟨_,rfl⟩ .nil)))) (Nat.le_of_ble_eq_true rfl))⟩ (.cons rfl ⟨_,rfl,(tO (ss:=["name","name"]) ?_ (.cons ⟨_,rfl⟩ (.cons ⟨_,rfl⟩ .nil)) (Nat.le_of_ble_eq_true rfl))⟩ (.cons rfl ⟨_,rfl,(tO (ss:=["name","name","turns"]) ?_ (.cons ⟨_,rfl⟩ (.cons ⟨_,rfl⟩ (.cons ⟨_,rfl⟩ .nil))) (Nat.le_of_ble_eq_true rfl))⟩ (.cons rfl ⟨_,rfl,(tO (ss:=["phone"]) ?_ (.cons ⟨_,rfl⟩ .nil) (Nat.le_of_ble_eq_true rfl))⟩ (.cons rfl ⟨_,rfl,(tO (ss:=["phone"]) ?_ (.cons ⟨_,rfl⟩ .nil) (Nat.le_of_ble_eq_true rfl))⟩ .nil)))))))),vp (PySem.W.mg_of KX G ?_),vp (PySem.W.mg_of KX G ?_),vp (PySem.W.mg_of KX G ?_)⟩,λs u=>.of_eq rfl⟩
  all_goals try first|k_is|(intro _ _ _ _ _ _ us hl;rcases us with _|⟨_,_|⟨_,_|⟨_,_|⟨_,_|⟨_,_|⟨_,us⟩⟩⟩⟩⟩⟩<;>first|rfl|(exfalso;revert hl;simp;done))|rfl
